/- The library's symMerge where one side has one element. -/
import Derived.Test.YtpkokolhmcophaaSymM
import Derived.Test.YtpkokolhmcophaaCmp
namespace Go.Proofs.Ytpkokolhmcophaa.sl
open Go.RowKit

theorem half (x : Nat) : ((x : Int) / 2).toNat = x / 2 := by omega

set_option maxRecDepth 100000 in
set_option maxHeartbeats 4000000 in
theorem symA_c (D : Nat → Nat → Bool) (K : Nat → Nat) (B n P : Nat) (w : World) (g cap a b N : Nat) (l : List Nat) (hN : l.length = N) (hs : N ≤ 1000000) (hab : a + 1 < b) (hbn : b ≤ N)
    (h : SlB B w g cap l) (hlow : Low n l) (hc : CmpOk g n P D w) (hx : Crs D K l a (a + 1) b) (hr : Srt K l (a + 1) b) :
    Calls Try.prog 29 #[.slice (some ⟨g, 0, none⟩) N cap, .int .i64 (a : Nat), .int .i64 ((a : Int) + 1), .int .i64 (b : Nat), .func (.func 24) #[] #[.pointer (some ⟨P, 0, none⟩)]] w
      (Into B w g cap fun l' => Moved a b l l' ∧ Srt K l' a b) := by
  obtain ⟨b1, b2, _⟩ := h.small
  unfold maxLen at b2
  have Hn := Lib.hid hN
  clear hN
  rw [Hn.out] at b1
  have ca := h.at a (by have := Hn.out; omega)
  have Hr := Lib.hid hr
  have Hx := Lib.hid hx
  clear hr hx
  go_enter Try.func29, Try.ntmps29
  go_wp2
  go_loopw [10, 11] (fun u v wr => ∃ (i j k : Nat), u = .int .i64 i ∧ v = .int .i64 j ∧ a + 1 ≤ i ∧ i ≤ j ∧ j ≤ b ∧ wr = w.drewN k ∧ Hid (∀ t, a + 1 ≤ t → t < i → K (l.getD t 0) < K (l.getD a 0)) ∧ Hid (∀ t, j ≤ t → t < b → K (l.getD a 0) ≤ K (l.getD t 0))) (fun u v _ => (intOf v).toNat - (intOf u).toNat)
  case atStart => exact ⟨a + 1, b, 0, by go_num, rfl, Nat.le_refl _, by omega, Nat.le_refl _, rfl, Lib.hid (fun t h1 h2 => by omega), Lib.hid (fun t h1 h2 => by omega)⟩
  case round =>
    obtain ⟨i, j, k, rfl, rfl, hi, hij, hj, rfl, hlo, hhi⟩ := hrel
    by_cases hlt : i < j
    · obtain ⟨q, hq⟩ : ∃ q : Nat, ((i : Int) + j) / 2 = q := ⟨(i + j) / 2, by omega⟩
      have hq1 : i ≤ q := by omega
      have hq2 : q < j := by omega
      have cq := h.at q (by have := Hn.out; omega)
      have hcall := fun k0 => hc.quiet2 (hlow q (by have := Hn.out; omega)) (hlow a (by have := Hn.out; omega)) k k0
      have ht := cmpV_neg D (l.getD q 0) (l.getD a 0)
      have hfr := Hx.out a q (Nat.le_refl _) (by omega) (by omega) (by omega)
      unfold Fair at hfr
      rw [hfr] at ht
      by_cases hK : K (l.getD q 0) < K (l.getD a 0)
      · rw [show decide (K (l.getD q 0) < K (l.getD a 0)) = true from by simpa using hK] at ht
        have hlo' := Lib.hid (one_low Hr.out ⟨hq1, by omega⟩ hi hK)
        clear hK hfr hlo
        generalize hzz : cmpV D (l.getD q 0) (l.getD a 0) = z at *
        clear hzz
        go_wp2
        go_quiet ((go_at_call 24; exact hcall _))
        go_wp2
        exact ⟨⟨q + 1, j, k + nq, by go_num, rfl, by omega, by omega, hj, by first | rfl | exact World.drewN_drewN .., hlo', hhi⟩, by first | (simp [intOf]; done) | (simp [intOf]; omega)⟩
      · rw [show decide (K (l.getD q 0) < K (l.getD a 0)) = false from by simpa using hK] at ht
        have hhi' := Lib.hid (one_high Hr.out (by omega) hK)
        clear hK hfr hhi
        generalize hzz : cmpV D (l.getD q 0) (l.getD a 0) = z at *
        clear hzz
        go_wp2
        go_quiet ((go_at_call 24; exact hcall _))
        go_wp2
        exact ⟨⟨i, q, k + nq, rfl, rfl, hi, hq1, by omega, by first | rfl | exact World.drewN_drewN .., hlo, hhi'⟩, by first | (simp [intOf]; done) | (simp [intOf]; omega)⟩
    · obtain rfl : i = j := by omega
      have hsl : SlB B (w.drewN k) g cap l := h.drawn k
      have hb : Below g w (w.drewN k) := below_drawn _ _ _
      generalize w.drewN k = w0 at *
      clear ca hc h
      go_wp2
      go_loopw [13] (fun u wr => ∃ (k : Nat) (c : List Nat), u = .int .i64 k ∧ a ≤ k ∧ k ≤ i - 1 ∧ SlB B wr g cap c ∧ Hid (Moved a b l c) ∧ Hid (∀ p, c.getD p 0 = l.getD (shR a k p) 0) ∧ Below g w wr) (fun u _ => i - (intOf u).toNat)
      case atStart => exact ⟨a, l, rfl, Nat.le_refl _, by omega, hsl, Lib.hid (Moved.refl _ _ _), Lib.hid (fun p => by rw [shR_start]), hb⟩
      case round =>
        clear hsl hb
        obtain ⟨k, c, rfl, hk, hki, hsl, hmv, hsh, hb⟩ := hrel
        have hl : Hid (c.length = N) := Lib.hid (by rw [hmv.out.1, Hn.out])
        by_cases hlt : k < i - 1
        · have c1 := hsl.at k (by have := hl.out; omega)
          have c2 := hsl.at (k + 1) (by have := hl.out; omega)
          have f1 := hsl.free k
          have f2 := hsl.free (k + 1)
          have hsw := Lib.hid (hsl.swap1 (p := k) (q := k + 1))
          have hmv' := Lib.hid (hmv.out.trans (Moved.swap c (p := k) (q := k + 1) ⟨by omega, by omega⟩ ⟨by omega, by omega⟩ (by have := hl.out; omega)))
          have hsh' := Lib.hid (shR_step (b := N) hk (by omega) (by have := hl.out; omega) hsh.out)
          clear hmv hsh hl hsl
          generalize swapL c k (k + 1) = c' at *
          generalize c.getD k 0 = x at *
          generalize c.getD (k + 1) 0 = y at *
          go_wp2
          go_region
          go_wp2_with fail
          exact ⟨⟨k + 1, c', by go_num, by omega, by omega, hsw.out.drew, hmv', hsh', ((hb.setCell (Nat.le_refl _) _).setCell (Nat.le_refl _) _).drew⟩, by first | (simp [intOf]; done) | (simp [intOf]; omega)⟩
        · obtain rfl : k = i - 1 := by omega
          go_wp2_with fail
          refine bodyPost_ret (results_none rfl _ _ _) rfl ?_
          exact ⟨c, rfl, hsl, hb, hmv.out, one_end Hr.out ⟨hi, hj⟩ hlo.out hhi.out hsh.out⟩
end Go.Proofs.Ytpkokolhmcophaa.sl
