/- The scanner's skip: all that stands between tokens. -/
import Derived.Test.YtdcggedggngpoaaScanK
namespace Go.Proofs.Ytdcggedggngpoaa.lx
open Go.RowKit

theorem ans_blank (M : Nat) (b : UInt8) (l : List UInt8) (ts : List Tok) (n : Nat) (h : cl b = 1) : ans M (b :: l) ts n .btw = ans M l ts (n + 1) .btw := by
  rw [ans_cons, step, start, if_pos h]
theorem ans_remark (M : Nat) (l : List UInt8) (ts : List Tok) (n : Nat) : ans M (47 :: 42 :: l) ts n .btw = ans M l ts (n + 2) (.rem n) := by
  rw [ans_cons, step, start, if_neg (by decide), if_neg (by decide), if_pos rfl]
  simp only
  rw [ans_cons, step, if_pos rfl]
/-- a token begins at m, or the text is at its end -/
def Stop (s : ByteArray) (m : Nat) : Prop := m < s.size → cl (bA s m) ≠ 1 ∧ bA s m ≠ 37 ∧ Lib.hasPrefix (s.data.toList.drop m) [47, 42] = false
/-- the text from n on comes to what it comes to from m on -/
def Same (s : ByteArray) (n m : Nat) : Prop := ∀ M ts, ans M (s.data.toList.drop n) ts n .btw = ans M (s.data.toList.drop m) ts m .btw
def SkipP (B c : Nat) (s : ByteArray) (v : Value) (ts : List Tok) (n : Nat) (w : World) (e : Ending) (w' : World) : Prop :=
  Kp c w w' ∧ ((∃ m, e = .returned (.tuple #[]) ∧ Sc B c s m v ts w' ∧ n ≤ m ∧ m ≤ s.size ∧ Stop s m ∧ Same s n m) ∨
    (∃ p k, e = Wrong p k ∧ ∀ M ts', ans M (s.data.toList.drop n) ts' n .btw = .bad p k))
theorem rest_facts {s : ByteArray} {m : Nat} (h : m < s.size) : (∀ h0 : 0 < (s.extract m s.size).size, (s.extract m s.size)[0]'h0 = bA s m) ∧ 0 < (s.extract m s.size).size ∧ (s.extract m s.size).data.toList = s.data.toList.drop m := by
  have e : (s.extract m s.size).data.toList = s.data.toList.drop m := Lib.extract_to_end s m
  refine ⟨fun h0 => ?_, by rw [size_of e]; simp; omega, e⟩
  rw [get_bA]
  unfold bA
  rw [e]; simp
theorem same_line {s : ByteArray} {m : Nat} (h : m < s.size) (hb : bA s m = 37) : Same s m (m + lineLen (s.data.toList.drop m)) ∧ 1 ≤ lineLen (s.data.toList.drop m) ∧ m + lineLen (s.data.toList.drop m) ≤ s.size := by
  have hl := lineLen_le (s.data.toList.drop m)
  have hs : s.data.toList.length = s.size := by simp
  refine ⟨fun M ts => ?_, ?_, by rw [List.length_drop] at hl; omega⟩
  · have e := drop_bA h
    rw [hb] at e
    rw [← List.drop_drop, e]; exact ans_percent M _ ts m
  · rw [drop_bA h, hb, lineLen_cons _ _ (by decide)]; omega
theorem prefix_two {l : List UInt8} (h : Lib.hasPrefix l [47, 42] = true) : ∃ r, l = 47 :: 42 :: r := by
  unfold Lib.hasPrefix at h
  match l, h with
  | [], h => simp at h
  | [a], h => simp at h
  | a :: b :: r, h => simp at h; obtain ⟨rfl, rfl⟩ := h; exact ⟨r, rfl⟩
theorem same_remark {s : ByteArray} {m : Nat} (hm : m < s.size) (h : Lib.hasPrefix (s.data.toList.drop m) [47, 42] = true) : m + 2 ≤ s.size ∧
    (cutRem (s.data.toList.drop (m + 2)) = none → ∀ M ts', ans M (s.data.toList.drop m) ts' m .btw = .bad m 31) ∧
    (∀ q, cutRem (s.data.toList.drop (m + 2)) = some q → Same s m (s.size - q.length) ∧ m < s.size - q.length) := by
  obtain ⟨r, hr⟩ := prefix_two h
  have hs : s.data.toList.length = s.size := by simp
  have hl : (s.data.toList.drop m).length = r.length + 2 := by rw [hr]; rfl
  rw [List.length_drop] at hl
  have e2 : s.data.toList.drop (m + 2) = r := by rw [← List.drop_drop, hr]; rfl
  refine ⟨by omega, fun hq M ts' => ?_, fun q hq => ?_⟩
  · rw [hr, ans_remark]; rw [e2] at hq; exact (ans_rem M m ts' r (m + 2)).2.1 hq
  · rw [e2] at hq
    rcases cut_rem r with ⟨_, h1⟩ | ⟨x, _, h1, h2, h3⟩
    · rw [hq] at h1; cases h1
    · rw [hq] at h1; cases h1
      refine ⟨fun M ts => ?_, by omega⟩
      have hd : s.data.toList.drop (s.size - q.length) = q := by
        rw [show s.size - q.length = m + 2 + (r.length - q.length) from by omega, ← List.drop_drop, e2]; exact h3.symm
      rw [hr, ans_remark, hd, ((ans_rem M m ts r (m + 2)).1 q hq).1, show m + 2 + r.length - q.length = s.size - q.length from by omega]

set_option maxHeartbeats 2000000 in
theorem skip_c {B c n : Nat} {s : ByteArray} {v : Value} {ts : List Tok} {w : World} (h : Sc B c s n v ts w) (hg : GM w) (hc : 0 < c) (hn : n ≤ s.size) (hs : s.size ≤ 4096) :
    Calls Try.prog 26 #[.pointer (some ⟨c, 0, none⟩)] w (SkipP B c s v ts n w) := by
  have hh := Lib.hid h
  have hG := Lib.hid hg
  clear h hg
  go_enter Try.func26, Try.ntmps26
  go_wp2
  go_step3
  go_wp2
  go_step3
  go_wp2
  go_loopg [] (s.size - n) (fun k wr => ∃ m : Nat, k = s.size - m ∧ m ≤ s.size ∧ n ≤ m ∧ Hid (Same s n m) ∧ Hid (Sc B c s m v ts wr) ∧ Hid (Kp c w wr))
  case atStart => exact ⟨n, rfl, by omega, by omega, Lib.hid (fun _ _ => rfl), hh, Lib.hid (Kp.refl c w)⟩
  case round =>
    obtain ⟨m, hgk, hm, hnm, hj, hS, hK⟩ := hrel
    have c0 := hS.out.c0
    have c1 := hS.out.c1
    have f1 := hS.out.free 1
    have hmm : (m : Int) ≤ s.size := by omega
    by_cases hlt : m < s.size
    · have hlt2 : (m : Int) < s.size := by omega
      obtain ⟨r0, rz, rl⟩ := rest_facts hlt
      have Rl := Lib.hid rl
      clear rl
      have kc := class_c (bA s m).toNat (bA_le s _)
      go_wp2
      go_quiet (fail)
      go_wp2
      go_quiet (fail)
      generalize s.extract m s.size = r at *
      generalize hw2 : World.drewN (World.drewN wr _) _ = w2
      have hS2 := Lib.hid (show Sc B c s m v ts w2 by rw [← hw2]; exact (hS.out.drew _).drew _)
      have hK2 := Lib.hid (show Kp c w w2 by rw [← hw2]; exact (hK.out.drew _).drew _)
      clear hw2 c0 c1 f1 hS hK
      have c1 := hS2.out.c1
      have f1 := hS2.out.free 1
      by_cases hb1 : cls (bA s m).toNat = 1
      · obtain ⟨b1, b2⟩ := ieq_yes (a := cls (bA s m).toNat) 1 (by omega)
        have hj' := Lib.hid (show Same s n (m + 1) from fun M ts => by rw [hj.out M ts, drop_bA hlt, ans_blank M _ _ _ _ hb1])
        clear hb1
        go_wp2_with (first | (go_at_call 33; (with_reducible refine (kc _).mono ?_); rintro e w' ⟨rfl, rfl⟩))
        go_roundg (s.size - (m + 1))
        case measure => omega
        case rel => exact ⟨m + 1, rfl, by omega, by omega, hj', Lib.hid (hS2.out.move (m + 1) (by omega)), Lib.hid (hK2.out.set 1 _)⟩
      · obtain ⟨b1, b2⟩ := ieq_no (a := cls (bA s m).toNat) 1 (by omega)
        have Hb1 := Lib.hid hb1
        clear hb1
        by_cases hb2 : bA s m = 37
        · obtain ⟨d1, d2⟩ := ieq_yes (a := (bA s m).toNat) 37 (by rw [hb2]; rfl)
          have ks := skipLine_c hS2.out hm hs Rl.out
          obtain ⟨l1, l2, l3⟩ := same_line hlt hb2
          have hj' := Lib.hid (show Same s n (m + lineLen (s.data.toList.drop m)) from fun M ts => by rw [hj.out M ts, l1 M ts])
          clear hb2 l1
          go_wp2_with (first | (go_at_call 33; (with_reducible refine (kc _).mono ?_); rintro e w' ⟨rfl, rfl⟩) | (go_at_call 34; (with_reducible refine ks.mono ?_); rintro e w' ⟨rfl, hs1, hk1⟩))
          go_roundg (s.size - (m + lineLen (s.data.toList.drop m)))
          case measure => omega
          case rel => exact ⟨_, rfl, l3, by omega, hj', Lib.hid hs1, Lib.hid (hK2.out.trans hk1)⟩
        · obtain ⟨d1, d2⟩ := ieq_no (a := (bA s m).toNat) 37 (by intro e; exact hb2 (UInt8.toNat_inj.1 (by simp; omega)))
          have kp := fun w => Try.strings_HasPrefix r ⟨#[47, 42]⟩ w
          rw [Rl.out, show (ByteArray.mk #[47, 42]).data.toList = [47, 42] from rfl] at kp
          cases hp : Lib.hasPrefix (s.data.toList.drop m) [47, 42] <;> rw [hp] at kp
          · have hst := Lib.hid (show Stop s m from fun _ => ⟨Hb1.out, hb2, hp⟩)
            clear hb2 hp
            go_wp2_with (first | (go_at_call 33; (with_reducible refine (kc _).mono ?_); rintro e w' ⟨rfl, rfl⟩) | (go_at_call 35; (with_reducible refine (kp _).mono ?_); rintro e w' ⟨rfl, rfl⟩))
            rw [Exit.noGoto_normal]
            go_end0
            exact ⟨hK2.out, .inl ⟨m, rfl, hS2.out, hnm, hm, hst.out, hj.out⟩⟩
          · obtain ⟨m2, q1, q2⟩ := same_remark hlt hp
            cases hq : cutRem (s.data.toList.drop (m + 2)) with
            | none =>
              have kr := skipRemark_none hS2.out (hG.out.kp hK2.out hc) m2 hs Rl.out hq
              unfold Wrong at kr
              have hbad := Lib.hid (show ∀ M ts', ans M (s.data.toList.drop n) ts' n .btw = .bad m 31 from fun M ts' => by rw [hj.out M ts']; exact q1 hq M ts')
              clear hb2 hp hq q1 q2
              go_wp2_with (first | (go_at_call 33; (with_reducible refine (kc _).mono ?_); rintro e w' ⟨rfl, rfl⟩) | (go_at_call 35; (with_reducible refine (kp _).mono ?_); rintro e w' ⟨rfl, rfl⟩) | (go_at_call 36; (with_reducible refine kr.mono ?_); rintro e w' ⟨rfl, hk1⟩))
              exact ⟨rfl, hK2.out.trans hk1, .inr ⟨m, 31, rfl, hbad.out⟩⟩
            | some q =>
              have kr := skipRemark_some hS2.out (hG.out.kp hK2.out hc) m2 hs Rl.out hq
              obtain ⟨q3, q4⟩ := q2 q hq
              have hj' := Lib.hid (show Same s n (s.size - q.length) from fun M ts => by rw [hj.out M ts, q3 M ts])
              clear hb2 hp hq q1 q2 q3
              go_wp2_with (first | (go_at_call 33; (with_reducible refine (kc _).mono ?_); rintro e w' ⟨rfl, rfl⟩) | (go_at_call 35; (with_reducible refine (kp _).mono ?_); rintro e w' ⟨rfl, rfl⟩) | (go_at_call 36; (with_reducible refine kr.mono ?_); rintro e w' ⟨rfl, hs1, hk1⟩))
              go_roundg (s.size - (s.size - q.length))
              case measure => omega
              case rel => exact ⟨_, rfl, by omega, by omega, hj', Lib.hid hs1, Lib.hid (hK2.out.trans hk1)⟩
    · have hlt2 : ¬ ((m : Int) < s.size) := by omega
      go_wp2
      go_quiet (fail)
      go_wp2
      rw [Exit.noGoto_normal]
      go_end0
      exact ⟨hK.out.drew _, .inl ⟨m, rfl, hS.out.drew _, hnm, hm, fun h => absurd h hlt, hj.out⟩⟩
end Go.Proofs.Ytdcggedggngpoaa.lx
