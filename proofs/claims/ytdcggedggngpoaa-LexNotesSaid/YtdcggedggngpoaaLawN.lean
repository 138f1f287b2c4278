/- LexNotes: its walk. -/
import Derived.Test.YtdcggedggngpoaaLawB
namespace Go.Proofs.Ytdcggedggngpoaa.lx
open Go.RowKit

def kt (t : Tok) : Nat × List UInt8 := (t.kind, t.text)
theorem kt_shift (d : Nat) (b : List Tok) : (b.map (shT d)).map kt = b.map kt := by simp [kt, shT, Function.comp_def]
theorem kt_get {A B : List Tok} (h : A.map kt = B.map kt) {i : Nat} (ha : i < A.length) (hb : i < B.length) : A[i].kind = B[i].kind ∧ A[i].text = B[i].text := by
  have h1 : (A.map kt)[i]? = (B.map kt)[i]? := by rw [h]
  rw [List.getElem?_map, List.getElem?_map, List.getElem?_eq_getElem ha, List.getElem?_eq_getElem hb] at h1
  simp [kt] at h1
  exact h1
/-- a note between two texts: the same tokens, at other places -/
theorem notes_two {s t k : List UInt8} {a A : List Tok} (hs : toks s = .ok a) (h10 : ∀ b ∈ k, b ≠ 10) (h42 : ∀ b ∈ k, b ≠ 42) (hA : toks (s ++ 32 :: 10 :: 32 :: t) = .ok A) :
    ∃ B, toks (s ++ (32 :: 47 :: 42 :: (k ++ (42 :: 47 :: 32 :: 37 :: (k ++ (10 :: 32 :: t)))))) = .ok B ∧ A.map kt = B.map kt ∧ A.length = B.length := by
  have ha : a.length ≤ 1000 := ans_many s [] 0 .btw (by simp [pend]) hs
  rw [notes_plain hs] at hA
  rw [notes_full hs h10 h42]
  have q1 := ans_shift (ahead_of (d := s.length + 3) (places hs) (by omega)) (M := 1000) ha t [] 0 .btw trivial
  have q2 := ans_shift (ahead_of (d := s.length + (2 * k.length + 9)) (places hs) (by omega)) (M := 1000) ha t [] 0 .btw trivial
  rw [List.map_nil, List.append_nil, Nat.zero_add] at q1 q2
  have q1' : ans 1000 t a (s.length + 3) .btw = _ := q1
  have q2' : ans 1000 t a (s.length + (2 * k.length + 9)) .btw = _ := q2
  rw [hA] at q1'
  rw [q2']
  cases hx : ans (1000 - a.length) t [] 0 .btw with
  | bad p e => rw [hx] at q1'; cases q1'
  | ok b =>
    rw [hx] at q1'
    simp only [shO, Out.ok.injEq] at q1' ⊢
    refine ⟨_, rfl, ?_, ?_⟩
    · rw [q1', List.map_append, List.map_append, kt_shift, kt_shift]
    · rw [q1']; simp
/-- a note without what would end it -/
def cleanP (b : UInt8) : Bool := b != 10 && b != 42
theorem By.stay {B : Nat} {w w' : World} {g cap : Nat} {l : List UInt8} (h : By B w g cap l) (hb : Below w.heap.size w w') : By B w' g cap l :=
  World.ownsRow.kept (row := none) h ⟨hb.os, hb.tape, hb.output, hb.size, fun k hk _ => hb.block k hk⟩ (by simp [Value.ownBlock])
theorem filter_snoc {s : ByteArray} {m : Nat} (hlt : m < s.size) : (s.data.toList.take (m + 1)).filter cleanP = (s.data.toList.take m).filter cleanP ++ (if cleanP (bA s m) = true then [bA s m] else []) := by
  rw [take_snoc hlt, List.filter_append, List.filter_cons, List.filter_nil]

set_option maxRecDepth 100000 in
set_option maxHeartbeats 8000000 in
theorem notes_w (s t nt : ByteArray) (w : World) (hz : s.size ≤ 9223372036854775807) (hz2 : t.size ≤ 9223372036854775807) (hz3 : nt.size ≤ 9223372036854775807) (hg : GM w) :
    Calls Try.prog 3 #[.string s, .string t, .string nt] w fun e w' => e = .returned (.bool true) ∧ Below w.heap.size w w' := by
  by_cases hbig : s.size > 512
  · clear hg
    go_enter Try.func3, Try.ntmps3
    go_wp2
    go_ret
    exact ⟨rfl, Below.refl _ _⟩
  by_cases hbig2 : t.size > 512
  · clear hg
    go_enter Try.func3, Try.ntmps3
    go_wp2
    go_ret
    exact ⟨rfl, Below.refl _ _⟩
  by_cases hbig3 : nt.size > 256
  · clear hg
    go_enter Try.func3, Try.ntmps3
    go_wp2
    go_ret
    exact ⟨rfl, Below.refl _ _⟩
  have hb1 : s.size ≤ 512 := by omega
  have hb2 : t.size ≤ 512 := by omega
  have hb3 : nt.size ≤ 256 := by omega
  clear hz hz2 hz3
  have hgt := get_bA nt
  have hp := heap_pos hg
  have Hg := Lib.hid hg
  clear hg
  have hE := Lib.hid (By.empty w.heap.size w (Nat.le_refl _))
  go_enter Try.func3, Try.ntmps3
  go_wp2
  go_loopg [7, 8] nt.size (fun k v i wr => ∃ (m g cap : Nat), k = nt.size - m ∧ m ≤ nt.size ∧ v = .slice (some ⟨g, 0, none⟩) ((nt.data.toList.take m).filter cleanP).length cap ∧ i = .int .i64 m ∧ Hid (By w.heap.size wr g cap ((nt.data.toList.take m).filter cleanP)) ∧ Hid (Below w.heap.size w wr))
  case atStart => exact ⟨0, w.heap.size, 0, by omega, by omega, rfl, rfl, hE, Lib.hid ((Below.refl _ w).alloc (Nat.le_refl _) _)⟩
  case round =>
    clear hE
    obtain ⟨m, g, cap, hgk, hm, rfl, rfl, hY, hb⟩ := hrel
    have hfl : ((nt.data.toList.take m).filter cleanP).length ≤ 256 := by
      have h1 := List.length_filter_le cleanP (nt.data.toList.take m)
      have h2 := List.length_take_le m nt.data.toList
      omega
    by_cases hlt : m < nt.size
    · have hlt2 : (m : Int) < nt.size := by omega
      have hsn := Lib.hid (filter_snoc hlt)
      have hsz := Lib.hid hb.out.size
      generalize hL : (nt.data.toList.take m).filter cleanP = L at *
      clear hL
      by_cases h10 : (bA nt m).toNat = 10
      · obtain ⟨a1, a2⟩ := ieq_yes (a := (bA nt m).toNat) 10 (by omega)
        have hcl := Lib.hid (show (nt.data.toList.take (m + 1)).filter cleanP = L by rw [hsn.out, show bA nt m = 10 from UInt8.toNat_inj.1 (by rw [h10]; rfl)]; simp [cleanP])
        clear h10
        go_wp2
        go_roundg (nt.size - (m + 1))
        case measure => omega
        case rel => exact ⟨m + 1, g, cap, rfl, by omega, by rw [hcl.out], by go_num, Lib.hid (by rw [hcl.out]; exact hY.out), hb⟩
      obtain ⟨a1, a2⟩ := ieq_no (a := (bA nt m).toNat) 10 (by omega)
      by_cases h42 : (bA nt m).toNat = 42
      · obtain ⟨b1, b2⟩ := ieq_yes (a := (bA nt m).toNat) 42 (by omega)
        have hcl := Lib.hid (show (nt.data.toList.take (m + 1)).filter cleanP = L by rw [hsn.out, show bA nt m = 42 from UInt8.toNat_inj.1 (by rw [h42]; rfl)]; simp [cleanP])
        clear h10 h42
        go_wp2
        go_roundg (nt.size - (m + 1))
        case measure => omega
        case rel => exact ⟨m + 1, g, cap, rfl, by omega, by rw [hcl.out], by go_num, Lib.hid (by rw [hcl.out]; exact hY.out), hb⟩
      obtain ⟨b1, b2⟩ := ieq_no (a := (bA nt m).toNat) 42 (by omega)
      have hcl := Lib.hid (show (nt.data.toList.take (m + 1)).filter cleanP = L ++ [bA nt m] by
        rw [hsn.out, if_pos]
        unfold cleanP
        simp only [Bool.and_eq_true, bne_iff_ne, ne_eq]
        exact ⟨fun e => h10 (by rw [e]; rfl), fun e => h42 (by rw [e]; rfl)⟩)
      clear h10 h42
      go_wp2_with (at_builtin; refine wpList_push1 rfl _ _ rfl w.heap.size wr g cap L (bA nt m) _ rfl rfl hY.out rfl (by omega) hsz.out ?_; intro g3 cap3 w3 hY3 hb3'; have HY3 := Lib.hid hY3; have HB3 := Lib.hid (hb.out.trans hb3'); clear hY3 hb3')
      go_roundg (nt.size - (m + 1))
      case measure => omega
      case rel => exact ⟨m + 1, g3, cap3, rfl, by omega, by rw [hcl.out, List.length_append]; rfl, by go_num, Lib.hid (by rw [hcl.out]; exact HY3.out), HB3⟩
    · have hlt2 : ¬ ((m : Int) < nt.size) := by omega
      have hK10 := Lib.hid (show ∀ b ∈ (nt.data.toList.take m).filter cleanP, b ≠ 10 from fun b hb e => by
        have := (List.mem_filter.1 hb).2; rw [e] at this; exact absurd this (by decide))
      have hK42 := Lib.hid (show ∀ b ∈ (nt.data.toList.take m).filter cleanP, b ≠ 42 from fun b hb e => by
        have := (List.mem_filter.1 hb).2; rw [e] at this; exact absurd this (by decide))
      generalize hL : (nt.data.toList.take m).filter cleanP = K at *
      clear hL hgt
      have hz1 : (s ++ ⟨#[32, 10, 32]⟩ ++ t).data.toList = s.data.toList ++ 32 :: 10 :: 32 :: t.data.toList := by rw [cat_data, cat_data]; simp
      have hz2 : (s ++ ⟨#[32, 47, 42]⟩ ++ ⟨K.toArray⟩ ++ ⟨#[42, 47, 32, 37]⟩ ++ ⟨K.toArray⟩ ++ ⟨#[10, 32]⟩ ++ t).data.toList = s.data.toList ++ (32 :: 47 :: 42 :: (K ++ (42 :: 47 :: 32 :: 37 :: (K ++ (10 :: 32 :: t.data.toList))))) := by
        simp only [cat_data]; simp
      have hls : s.data.toList.length = s.size := by simp
      have hlt3 : t.data.toList.length = t.size := by simp
      have hz1s : (s ++ ⟨#[32, 10, 32]⟩ ++ t).size ≤ 4096 := by rw [size_of hz1]; simp only [List.length_append, List.length_cons, hls, hlt3]; omega
      have hz2s : (s ++ ⟨#[32, 47, 42]⟩ ++ ⟨K.toArray⟩ ++ ⟨#[42, 47, 32, 37]⟩ ++ ⟨K.toArray⟩ ++ ⟨#[10, 32]⟩ ++ t).size ≤ 4096 := by rw [size_of hz2]; simp only [List.length_append, List.length_cons, hls, hlt3]; omega
      have k1 := fun w hg => ltoks _ w hg (show (s ++ ⟨#[32, 10, 32]⟩ ++ t).size ≤ 9223372036854775807 by omega)
      have k3 := fun w => rtoks _ w (show (s ++ ⟨#[32, 10, 32]⟩ ++ t).size ≤ 9223372036854775807 by omega)
      have k2 := fun w hg => ltoks _ w hg (show (s ++ ⟨#[32, 47, 42]⟩ ++ ⟨K.toArray⟩ ++ ⟨#[42, 47, 32, 37]⟩ ++ ⟨K.toArray⟩ ++ ⟨#[10, 32]⟩ ++ t).size ≤ 9223372036854775807 by omega)
      have k4 := fun w => rtoks s w (by omega)
      rw [size_of hz1] at hz1s
      rw [size_of hz2] at hz2s
      rw [hz1] at k1 k3
      rw [hz2] at k2
      have hpure := Lib.hid (fun (a A : List Tok) (h1 : toksD s.data.toList = .ok a) (h2 : toksD (s.data.toList ++ 32 :: 10 :: 32 :: t.data.toList) = .ok A) => notes_two (t := t.data.toList) (by rwa [toksD_small (by omega)] at h1) hK10.out hK42.out (by rwa [toksD_small hz1s] at h2))
      have hD2 := Lib.hid (toksD_small hz2s)
      have HEs := Lib.hid (fun h => outE_ok (l := s.data.toList) h)
      have HEa := Lib.hid (fun h => outE_ok (l := s.data.toList ++ 32 :: 10 :: 32 :: t.data.toList) h)
      have la := outToks_len (s.data.toList ++ 32 :: 10 :: 32 :: t.data.toList)
      have lb := outToks_len (s.data.toList ++ (32 :: 47 :: 42 :: (K ++ (42 :: 47 :: 32 :: 37 :: (K ++ (10 :: 32 :: t.data.toList))))))
      clear hz1 hz2 hz1s hz2s hls hlt3
      generalize hoS : toksD s.data.toList = oS at *
      generalize hoA : toksD (s.data.toList ++ 32 :: 10 :: 32 :: t.data.toList) = oA at *
      generalize hoB : toksD (s.data.toList ++ (32 :: 47 :: 42 :: (K ++ (42 :: 47 :: 32 :: 37 :: (K ++ (10 :: 32 :: t.data.toList)))))) = oB at *

      clear hoS hoA hoB
      have e1 : ((outE oA : Int) != (outE oA : Int)) = false := by simp
      go_wp2_with fail
      refine (k1 _ (Hg.out.below hb.out hp)).mono ?_
      rintro e w1 ⟨v1, rfl, hT1, hb1'⟩
      have HT1 := Lib.hid hT1
      have HB1 := Lib.hid (hb.out.trans (hb1'.mono hb.out.size))
      have hcv := (hY.out.stay hb1').conv
      obtain ⟨a1, cap1, rfl⟩ := hT1.shape
      clear hT1 hb1'
      go_wp2_with fail
      refine (k2 _ (Hg.out.below HB1.out hp)).mono ?_
      rintro e w2 ⟨v2, rfl, hT2, hb2'⟩
      have HT12 := Lib.hid (HT1.out.stay hb2')
      have HT2 := Lib.hid hT2
      have HB2 := Lib.hid (HB1.out.trans (hb2'.mono HB1.out.size))
      obtain ⟨a2, cap2, rfl⟩ := hT2.shape
      clear hT2 hb2' HT1 hcv
      go_wp2_with fail
      refine (k3 _).mono ?_
      rintro e w3 ⟨v3, rfl, hT3, hb3'⟩
      have HT13 := Lib.hid (HT12.out.stay hb3')
      have HT23 := Lib.hid (HT2.out.stay hb3')
      have HT3 := Lib.hid hT3
      have HB3 := Lib.hid (HB2.out.trans (hb3'.mono HB2.out.size))
      clear hT3 hb3' HT12 HT2
      go_wp2_with fail
      refine (k4 _).mono ?_
      rintro e w4 ⟨v4, rfl, _, hb4'⟩
      have HT14 := Lib.hid (HT13.out.stay hb4')
      have HT24 := Lib.hid (HT23.out.stay hb4')
      have HT34 := Lib.hid (HT3.out.stay hb4')
      have HB4 := Lib.hid (HB3.out.trans (hb4'.mono HB3.out.size))
      clear hb4' HT13 HT23 HT3 k1 k2 k3 k4
      go_wp2_with fail
      have ks := same_c _ v3 _ _ w4 (Row.of HT14.out) (Row.of HT34.out) (by omega) (by omega)
      rw [decide_eq_true rfl] at ks
      refine ks.mono ?_
      rintro e w5 ⟨rfl, hb5'⟩
      have HT15 := Lib.hid (HT14.out.stay hb5')
      have HT25 := Lib.hid (HT24.out.stay hb5')
      have HB5 := Lib.hid (HB4.out.trans (hb5'.mono HB4.out.size))
      clear hb5' HT14 HT24 HT34 ks
      by_cases he : outE oS = 0
      · obtain ⟨A0, rfl⟩ := HEs.out he
        by_cases hf : outE oA = 0
        · obtain ⟨A, rfl⟩ := HEa.out hf
          obtain ⟨B, hB, hkt, hln⟩ := hpure.out A0 A rfl rfl
          obtain rfl : oB = .ok B := hD2.out.trans hB
          simp only [oT_ok, oE_ok, oP_ok] at *
          have Hkt := Lib.hid (fun i h1 h2 => kt_get hkt (i := i) h1 h2)
          have x1 : ((A.length : Int) != (B.length : Int)) = false := by simp; omega
          have Hln := Lib.hid hln
          clear hB hkt hln hf he
          go_wp2
          go_loopg [21] A.length (fun k i wr2 => ∃ m : Nat, k = A.length - m ∧ m ≤ A.length ∧ i = .int .i64 m ∧ Hid (Below w5.heap.size w5 wr2))
          case atStart => exact ⟨0, by omega, by omega, rfl, Lib.hid (Below.refl _ _)⟩
          case round =>
            obtain ⟨i, hgk2, hi, rfl, hw⟩ := hrel
            by_cases hli : i < A.length
            · have hli2 : (i : Int) < A.length := by omega
              have hlb : i < B.length := by have := Hln.out; omega
              have hlb2 : (i : Int) < B.length := by omega
              obtain ⟨g1, gc1, hv1, _, _, _, hcell1⟩ := (HT15.out.stay hw.out).row (by omega)
              obtain ⟨rfl, rfl⟩ : a1 = some ⟨g1, 0, none⟩ ∧ cap1 = gc1 := by simp at hv1; exact ⟨hv1.1, hv1.2⟩
              obtain ⟨g2, gc2, hv2, _, _, _, hcell2⟩ := (HT25.out.stay hw.out).row (by omega)
              obtain ⟨rfl, rfl⟩ : a2 = some ⟨g2, 0, none⟩ ∧ cap2 = gc2 := by simp at hv2; exact ⟨hv2.1, hv2.2⟩
              obtain ⟨c0, c1, _, _⟩ := hcell1 i hli
              obtain ⟨d0, d1, _, _⟩ := hcell2 i hlb
              obtain ⟨hk1, hk2⟩ := Hkt.out i hli hlb
              rw [← hk1] at d0
              rw [← hk2] at d1
              generalize A[i] = ta at *
              clear hv1 hv2 hcell1 hcell2 hk1 hk2
              have z0 : (((ta.kind : Nat) : Int) != (ta.kind : Int)) = false := by simp
              go_wp2
              go_quiet (fail)
              go_wp2
              go_roundg (A.length - (i + 1))
              case measure => omega
              case rel => exact ⟨i + 1, rfl, by omega, by go_num, Lib.hid (hw.out.trans (below_drawn ..))⟩
            · have hli2 : ¬ ((i : Int) < A.length) := by omega
              go_wp2
              go_ret
              exact ⟨rfl, HB5.out.trans (hw.out.mono HB5.out.size)⟩
        · obtain ⟨x1, x2⟩ := ieq_no (a := outE oA) 0 (by omega)
          obtain ⟨y1, y2⟩ := ieq_yes (a := outE (.ok A0)) 0 (by simp [outE])
          clear hf he
          go_wp2
          go_ret
          exact ⟨rfl, HB5.out⟩
      · obtain ⟨x1, x2⟩ := ieq_no (a := outE oS) 0 (by omega)
        clear he
        go_wp2
        go_ret
        exact ⟨rfl, HB5.out⟩
end Go.Proofs.Ytdcggedggngpoaa.lx
