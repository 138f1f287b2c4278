/- LexBetween: its walk. -/
import Derived.Test.YtdcggedggngpoaaLawQ
namespace Go.Proofs.Ytdcggedggngpoaa.lx
open Go.RowKit

theorem Tk.cut {B : Nat} {w : World} {a : Option Addr} {cap : Nat} {ts : List Tok} (h : Tk B w (.slice a ts.length cap) ts) {k : Nat} (hk : k ≤ ts.length) : Tk B w (.slice a k cap) (ts.take k) := by
  have hl : (ts.take k).length = k := by rw [List.length_take]; omega
  have ht : tcells (ts.take k) = (tcells ts).take (k * 4) := by
    have h1 := tcells_append (ts.take k) (ts.drop k)
    rw [List.take_append_drop] at h1
    have h2 : (tcells (ts.take k)).length = k * 4 := by rw [tcells_len, hl]
    rw [h1, ← h2, List.take_left]
  unfold Tk
  rw [hl]
  refine ⟨by rw [tcells_len, hl], ?_⟩
  rcases h.2 with ⟨h1, h2⟩ | ⟨g, cap', cur, h1, h2, h3, h4, h5, h6, h7⟩
  · left
    simp at h1
    obtain ⟨rfl, _, rfl⟩ := h1
    have : k = 0 := by omega
    subst this
    exact ⟨rfl, rfl⟩
  · right
    simp at h1
    obtain ⟨rfl, rfl⟩ := h1
    refine ⟨g, cap, cur, rfl, h2, h3, by omega, h5, h6, ?_⟩
    rw [ht, ← h7, List.take_take, Nat.min_eq_left (by omega)]
theorem oT_ok (ts : List Tok) : outToks (.ok ts) = ts := rfl
theorem oE_ok (ts : List Tok) : outE (.ok ts) = 0 := rfl
theorem oP_ok (ts : List Tok) : outP (.ok ts) = 0 := rfl
theorem outE_ok {l : List UInt8} (h : outE (toksD l) = 0) : ∃ A, toksD l = .ok A := by
  cases ho : toksD l with
  | ok A => exact ⟨A, rfl⟩
  | bad p e =>
    rw [ho] at h
    exfalso
    unfold toksD at ho
    split at ho
    · cases ho; exact absurd h (by decide)
    · exact ans_err _ _ _ _ _ _ ho h
theorem cat_data (a b : ByteArray) : (a ++ b).data.toList = a.data.toList ++ b.data.toList := by
  show (a.append b).data.toList = _
  simp

set_option maxRecDepth 100000 in
set_option maxHeartbeats 4000000 in
theorem between_w (s t : ByteArray) (w : World) (hz : s.size ≤ 9223372036854775807) (hz2 : t.size ≤ 9223372036854775807) (hg : GM w) :
    Calls Try.prog 7 #[.string s, .string t] w fun e w' => e = .returned (.bool true) ∧ Below w.heap.size w w' := by
  by_cases hbig : s.size > 1024
  · clear hg
    go_enter Try.func7, Try.ntmps7
    go_wp2
    go_ret
    exact ⟨rfl, Below.refl _ _⟩
  by_cases hbig2 : t.size > 1024
  · clear hg
    go_enter Try.func7, Try.ntmps7
    go_wp2
    go_ret
    exact ⟨rfl, Below.refl _ _⟩
  have hb1 : s.size ≤ 1024 := by omega
  have hb2 : t.size ≤ 1024 := by omega
  clear hz hz2
  have hp := heap_pos hg
  have hls : s.data.toList.length = s.size := by simp
  have hlt : t.data.toList.length = t.size := by simp
  have k1 := fun w hg => ltoks s w hg (by omega)
  have k2 := fun w hg => ltoks t w hg (by omega)
  have k3 := fun w => rtoks s w (by omega)
  have k4 := fun w => rtoks t w (by omega)
  have Hg := Lib.hid hg
  clear hg
  have la := outToks_len s.data.toList
  have lb := outToks_len t.data.toList
  have HEs := Lib.hid (fun h => outE_ok (l := s.data.toList) h)
  have HEt := Lib.hid (fun h => outE_ok (l := t.data.toList) h)
  have Hpl := Lib.hid (outToks_pl t.data.toList)
  have e1 : ((outE (toksD s.data.toList) : Int) != (outE (toksD s.data.toList) : Int)) = false := by simp
  have e2 : ((outE (toksD t.data.toList) : Int) != (outE (toksD t.data.toList) : Int)) = false := by simp
  have Hls := Lib.hid hls
  have Hlt := Lib.hid hlt
  clear hls hlt
  generalize hoS : toksD s.data.toList = oS at *
  generalize hoT : toksD t.data.toList = oT at *
  have HoS := Lib.hid hoS
  have HoT := Lib.hid hoT
  clear hoS hoT
  go_enter Try.func7, Try.ntmps7
  go_wp2_with fail
  refine (k1 _ Hg.out).mono ?_
  rintro e w1 ⟨v1, rfl, hT1, hb1'⟩
  have HT1 := Lib.hid hT1
  have HB1 := Lib.hid hb1'
  obtain ⟨a1, cap1, rfl⟩ := hT1.shape
  clear hT1 hb1'
  go_wp2_with fail
  refine (k2 _ (Hg.out.below HB1.out hp)).mono ?_
  rintro e w2 ⟨v2, rfl, hT2, hb2'⟩
  have HT1' := Lib.hid (HT1.out.stay hb2')
  have HT2 := Lib.hid hT2
  have HB2 := Lib.hid (HB1.out.trans (hb2'.mono HB1.out.size))
  obtain ⟨a2, cap2, rfl⟩ := hT2.shape
  clear hT2 hb2' HT1
  go_wp2_with fail
  refine (k3 _).mono ?_
  rintro e w3 ⟨v3, rfl, _, hb3'⟩
  have HB3 := Lib.hid (HB2.out.trans (hb3'.mono HB2.out.size))
  have HT13 := Lib.hid (HT1'.out.stay hb3')
  have HT23 := Lib.hid (HT2.out.stay hb3')
  clear hb3' HT1' HT2
  go_wp2_with fail
  refine (k4 _).mono ?_
  rintro e w4 ⟨v4, rfl, _, hb4'⟩
  have HB4 := Lib.hid (HB3.out.trans (hb4'.mono HB3.out.size))
  have HT14 := Lib.hid (HT13.out.stay hb4')
  have HT24 := Lib.hid (HT23.out.stay hb4')
  clear hb4' HT13 HT23 k1 k2 k3 k4
  go_wp2_with fail
  have hcat : (s ++ ⟨#[10]⟩ ++ t).data.toList = s.data.toList ++ 10 :: t.data.toList := by rw [cat_data, cat_data]; simp
  have hcz : (s ++ ⟨#[10]⟩ ++ t).size ≤ 4096 := by rw [size_of hcat, List.length_append, List.length_cons, Hls.out, Hlt.out]; omega
  refine (ltoks _ _ (Hg.out.below HB4.out hp) (by omega)).mono ?_
  rintro e w5 ⟨v5, rfl, hT5, hb5'⟩
  have HB5 := Lib.hid (HB4.out.trans (hb5'.mono HB4.out.size))
  have HT15 := Lib.hid (HT14.out.stay hb5')
  have HT25 := Lib.hid (HT24.out.stay hb5')
  clear hb5' HT14 HT24
  rw [hcat] at hT5 ⊢
  have Hcz := Lib.hid (show (s.data.toList ++ 10 :: t.data.toList).length ≤ 4096 by rw [← hcat, ← size_of rfl]; exact hcz)
  clear hcat hcz
  generalize hoC : toksD (s.data.toList ++ 10 :: t.data.toList) = oC at *
  have HoC := Lib.hid hoC
  clear hoC
  by_cases he : outE oS = 0
  · obtain ⟨A, rfl⟩ := HEs.out he
    by_cases hf : outE oT = 0
    · obtain ⟨B, rfl⟩ := HEt.out hf
      simp only [oT_ok, oE_ok, oP_ok] at *
      by_cases hn : A.length + B.length ≤ 1000
      · have hC : toksD (s.data.toList ++ 10 :: t.data.toList) = .ok (A ++ B.map (shT (s.size + 1))) := by
          have h1 := HoS.out
          have h2 := HoT.out
          rw [toksD_small (by rw [Hls.out]; omega)] at h1
          rw [toksD_small (by rw [Hlt.out]; omega)] at h2
          rw [toksD_small Hcz.out, between_feed h1 h2 hn, Hls.out]
        obtain rfl : oC = .ok (A ++ B.map (shT (s.size + 1))) := HoC.out.symm.trans hC
        simp only [oT_ok, oE_ok, oP_ok] at hT5 ⊢
        have hCl : (A ++ B.map (shT (s.size + 1))).length = A.length + B.length := by simp
        obtain ⟨a5, cap5, rfl⟩ := hT5.shape
        have HT5 := Lib.hid hT5
        rw [hCl]
        have HC := Lib.hid (show (A ++ B.map (shT (s.size + 1))).take A.length = A from List.take_left)
        have HCl := Lib.hid hCl
        have HCk := Lib.hid (show ∀ (m : Nat) (hm : m < B.length) (h : A.length + m < (A ++ B.map (shT (s.size + 1))).length), (A ++ B.map (shT (s.size + 1)))[A.length + m] = shT (s.size + 1) B[m] from fun m hm h => by
          rw [List.getElem_append_right (by omega)]; simp)
        generalize hCC : A ++ B.map (shT (s.size + 1)) = C at *
        clear hT5 hC hCl hCC he hf
        have hnn : ¬ ((1000 : Int) < (A.length : Int) + (B.length : Int)) := by omega
        have i1 : IntKind.i64.wrap ((A.length : Int) + (B.length : Int)) = ((A.length + B.length : Nat) : Int) := by rw [IntWalk.i64_in _ (by omega)]; omega
        have hnn2 : ¬ ((1000 : Int) < ((A.length + B.length : Nat) : Int)) := by omega
        go_wp2
        go_loopg [20] B.length (fun k i wr => ∃ m : Nat, k = B.length - m ∧ m ≤ B.length ∧ i = .int .i64 m ∧ Hid (Below w5.heap.size w5 wr))
        case atStart => exact ⟨0, by omega, by omega, rfl, Lib.hid (Below.refl _ _)⟩
        case round =>
          obtain ⟨m, hgk, hm, rfl, hw⟩ := hrel
          have HTc := Lib.hid (HT5.out.stay hw.out)
          have HTb := Lib.hid (HT25.out.stay hw.out)
          by_cases hlt : m < B.length
          · have hlt2 : (m : Int) < B.length := by omega
            have hcl : A.length + m < C.length := by have := HCl.out; omega
            obtain ⟨g2, gc2, hv2, hgc2, _, hgl2, hcell2⟩ := HTb.out.row (by omega)
            obtain ⟨rfl, rfl⟩ : a2 = some ⟨g2, 0, none⟩ ∧ cap2 = gc2 := by simp at hv2; exact ⟨hv2.1, hv2.2⟩
            obtain ⟨g5, gc5, hv5, hgc5, _, hgl5, hcell5⟩ := HTc.out.row (by omega)
            obtain ⟨rfl, rfl⟩ : a5 = some ⟨g5, 0, none⟩ ∧ cap5 = gc5 := by simp at hv5; exact ⟨hv5.1, hv5.2⟩
            obtain ⟨b0, b1, b2, b3⟩ := hcell2 m hlt
            obtain ⟨c0, c1, c2, c3⟩ := hcell5 (A.length + m) hcl
            rw [HCk.out m hlt hcl] at c0 c1 c2 c3
            obtain ⟨_, p2, p3, _, _⟩ := Hpl.out m hlt
            rw [Hlt.out] at p3
            have hcl2 : A.length + m < A.length + B.length := by omega
            have i2 : IntKind.i64.wrap ((A.length : Int) + (m : Int)) = ((A.length + m : Nat) : Int) := by rw [IntWalk.i64_in _ (by omega)]; omega
            clear hv2 hv5 hcell2 hcell5
            generalize hbm : B[m] = bt at *
            clear hbm
            have q1 : (((bt.frm + (s.size + 1) : Nat) : Int) != (bt.frm : Int) + (s.size : Int) + 1) = false := by simp; omega
            simp only [shT] at c0 c1 c2 c3
            go_wp2
            generalize hW2 : World.alloc wr _ = W2
            have hblk : W2.heap[wr.heap.size]? = some (.cells #[.int .i64 (bt.kind : Nat), .string ⟨bt.text.toArray⟩, .int .i64 ((bt.frm + (s.size + 1) : Nat) : Int), .int .i64 ((bt.to + (s.size + 1) : Nat) : Int)] 29 (0, 0)) := by rw [← hW2]; exact heap_alloc_new wr _
            have d0 : W2.cell? ⟨wr.heap.size, 0, none⟩ = some (.int .i64 (bt.kind : Nat)) := by rw [cell_at hblk]; rfl
            have d1 : W2.cell? ⟨wr.heap.size, 1, none⟩ = some (.string ⟨bt.text.toArray⟩) := by rw [cell_at hblk]; rfl
            have d2 : W2.cell? ⟨wr.heap.size, 2, none⟩ = some (.int .i64 ((bt.frm + (s.size + 1) : Nat) : Int)) := by rw [cell_at hblk]; rfl
            have x2 : ∀ j, W2.cell? ⟨g2, j, none⟩ = wr.cell? ⟨g2, j, none⟩ := fun j => by rw [← hW2]; exact World.cell?_of_block (Lib.alloc_old wr _ g2 hgl2)
            rw [← x2] at b0 b1 b2
            have HW2 := Lib.hid (show Below w5.heap.size w5 W2 by rw [← hW2]; exact hw.out.alloc hw.out.size _)
            clear hW2 hblk c0 c1 c2 c3 b3 x2 hw HTc HTb
            have z0 : (((bt.kind : Nat) : Int) != (bt.kind : Int)) = false := by simp
            go_wp2
            go_quiet (fail)
            go_wp2
            go_roundg (B.length - (m + 1))
            case measure => omega
            case rel => exact ⟨m + 1, rfl, by omega, by go_num, Lib.hid (HW2.out.trans (below_drawn ..))⟩
          · have hlt2 : ¬ ((m : Int) < B.length) := by omega
            have hcut := Lib.hid (HTc.out.cut (k := A.length) (by have := HCl.out; omega))
            have hle : A.length ≤ C.length := by have := HCl.out; omega
            have hcapc : C.length ≤ cap5 := by
              rcases HTc.out.2 with ⟨h1, h2⟩ | ⟨g, cp, cur, h1, _, _, h4, _⟩
              · omega
              · simp at h1; omega
            have hcut2 := hcut.out
            rw [HC.out] at hcut2
            have ks := same_c (.slice a5 A.length cap5) (.slice a1 A.length cap1) A A wr (Row.of hcut2) (Row.of (HT15.out.stay hw.out)) (by omega) (by omega)
            rw [decide_eq_true rfl] at ks
            have HW := Lib.hid (HB5.out.trans (hw.out.mono HB5.out.size))
            clear hcut2 HTc HTb
            go_wp2_with fail
            refine ks.mono ?_
            rintro e w6 ⟨rfl, hb6⟩
            have HB6 := Lib.hid (HW.out.trans (hb6.mono HW.out.size))
            clear hb6 ks
            go_wp2
            go_ret
            exact ⟨rfl, HB6.out⟩
      · have hnn : ((1000 : Int) < (A.length : Int) + (B.length : Int)) := by omega
        have i1 : IntKind.i64.wrap ((A.length : Int) + (B.length : Int)) = (A.length : Int) + (B.length : Int) := by rw [IntWalk.i64_in _ (by omega)]
        clear hT5
        go_wp2
        go_ret
        exact ⟨rfl, HB5.out⟩
    · obtain ⟨x1, x2⟩ := ieq_no (a := outE oT) 0 (by omega)
      obtain ⟨y1, y2⟩ := ieq_yes (a := outE (.ok A)) 0 (by simp [outE])
      clear hf he hT5
      go_wp2
      go_ret
      exact ⟨rfl, HB5.out⟩
  · obtain ⟨x1, x2⟩ := ieq_no (a := outE oS) 0 (by omega)
    clear he hT5
    go_wp2
    go_ret
    exact ⟨rfl, HB5.out⟩
end Go.Proofs.Ytdcggedggngpoaa.lx
