/- The library's symMerge where the second side has one element. -/
import Derived.Test.YtpkokolhmcophaaSymM
import Derived.Test.YtpkokolhmcophaaCmp
namespace Go.Proofs.Ytpkokolhmcophaa.sl
open Go.RowKit

set_option maxRecDepth 100000 in
set_option maxHeartbeats 4000000 in
theorem symB_c (D : Nat → Nat → Bool) (K : Nat → Nat) (B n P : Nat) (w : World) (g cap a m N : Nat) (l : List Nat) (hN : l.length = N) (hs : N ≤ 1000000) (hab : a + 1 < m) (hbn : m + 1 ≤ N)
    (h : SlB B w g cap l) (hlow : Low n l) (hc : CmpOk g n P D w) (hx : Crs D K l a m (m + 1)) (hr : Srt K l a m) :
    Calls Try.prog 29 #[.slice (some ⟨g, 0, none⟩) N cap, .int .i64 (a : Nat), .int .i64 (m : Nat), .int .i64 ((m : Int) + 1), .func (.func 24) #[] #[.pointer (some ⟨P, 0, none⟩)]] w
      (Into B w g cap fun l' => Moved a (m + 1) l l' ∧ Srt K l' a (m + 1)) := by
  obtain ⟨b1, b2, _⟩ := h.small
  unfold maxLen at b2
  have Hn := Lib.hid hN
  clear hN
  rw [Hn.out] at b1
  have ca := h.at m (by have := Hn.out; omega)
  have Hr := Lib.hid hr
  have Hx := Lib.hid hx
  clear hr hx
  have t0 : ((m : Int) - a == 1) = false := by simp; omega
  go_enter Try.func29, Try.ntmps29
  go_wp2
  go_loopw [14, 15] (fun u v wr => ∃ (i j k : Nat), u = .int .i64 i ∧ v = .int .i64 j ∧ a ≤ i ∧ i ≤ j ∧ j ≤ m ∧ wr = w.drewN k ∧ Hid (∀ t, a ≤ t → t < i → K (l.getD t 0) ≤ K (l.getD m 0)) ∧ Hid (∀ t, j ≤ t → t < m → K (l.getD m 0) < K (l.getD t 0))) (fun u v _ => (intOf v).toNat - (intOf u).toNat)
  case atStart => exact ⟨a, m, 0, rfl, rfl, Nat.le_refl _, by omega, Nat.le_refl _, rfl, Lib.hid (fun t h1 h2 => by omega), Lib.hid (fun t h1 h2 => by omega)⟩
  case round =>
    obtain ⟨i, j, k, rfl, rfl, hi, hij, hj, rfl, hlo, hhi⟩ := hrel
    by_cases hlt : i < j
    · obtain ⟨q, hq⟩ : ∃ q : Nat, ((i : Int) + j) / 2 = q := ⟨(i + j) / 2, by omega⟩
      have hq1 : i ≤ q := by omega
      have hq2 : q < j := by omega
      have cq := h.at q (by have := Hn.out; omega)
      have hcall := fun k0 => hc.quiet2 (hlow m (by have := Hn.out; omega)) (hlow q (by have := Hn.out; omega)) k k0
      have ht := cmpV_neg D (l.getD m 0) (l.getD q 0)
      have hfr := Hx.out q m (by omega) (by omega) (Nat.le_refl _) (by omega)
      unfold Fair at hfr
      rw [hfr] at ht
      by_cases hK : K (l.getD m 0) < K (l.getD q 0)
      · rw [show decide (K (l.getD m 0) < K (l.getD q 0)) = true from by simpa using hK] at ht
        have hhi' := Lib.hid (last_high Hr.out (by omega) hK)
        clear hK hfr hhi
        generalize hzz : cmpV D (l.getD m 0) (l.getD q 0) = z at *
        clear hzz
        go_wp2
        go_quiet ((go_at_call 24; exact hcall _))
        go_wp2
        exact ⟨⟨i, q, k + nq, rfl, rfl, hi, hq1, by omega, by first | rfl | exact World.drewN_drewN .., hlo, hhi'⟩, by first | (simp [intOf]; done) | (simp [intOf]; omega)⟩
      · rw [show decide (K (l.getD m 0) < K (l.getD q 0)) = false from by simpa using hK] at ht
        have hlo' := Lib.hid (last_low Hr.out (by omega) hK)
        clear hK hfr hlo
        generalize hzz : cmpV D (l.getD m 0) (l.getD q 0) = z at *
        clear hzz
        go_wp2
        go_quiet ((go_at_call 24; exact hcall _))
        go_wp2
        exact ⟨⟨q + 1, j, k + nq, by go_num, rfl, by omega, by omega, hj, by first | rfl | exact World.drewN_drewN .., hlo', hhi⟩, by first | (simp [intOf]; done) | (simp [intOf]; omega)⟩
    · obtain rfl : i = j := by omega
      have hsl : SlB B (w.drewN k) g cap l := h.drawn k
      have hb : Below g w (w.drewN k) := below_drawn _ _ _
      generalize w.drewN k = w0 at *
      clear ca hc h
      go_wp2
      go_loopw [17] (fun u wr => ∃ (k : Nat) (c : List Nat), u = .int .i64 k ∧ i ≤ k ∧ k ≤ m ∧ SlB B wr g cap c ∧ Hid (Moved a (m + 1) l c) ∧ Hid (∀ p, c.getD p 0 = l.getD (shL m k p) 0) ∧ Below g w wr) (fun u _ => (intOf u).toNat)
      case atStart => exact ⟨m, l, rfl, by omega, Nat.le_refl _, hsl, Lib.hid (Moved.refl _ _ _), Lib.hid (fun p => by rw [shL_start]), hb⟩
      case round =>
        clear hsl hb
        obtain ⟨k, c, rfl, hk, hki, hsl, hmv, hsh, hb⟩ := hrel
        have hl : Hid (c.length = N) := Lib.hid (by rw [hmv.out.1, Hn.out])
        by_cases hlt : i < k
        · obtain ⟨k, rfl⟩ : ∃ k', k = k' + 1 := ⟨k - 1, by omega⟩
          have c1 := hsl.at (k + 1) (by have := hl.out; omega)
          have c2 := hsl.at k (by have := hl.out; omega)
          have f1 := hsl.free (k + 1)
          have f2 := hsl.free k
          have hsw := Lib.hid (hsl.swap1 (p := k + 1) (q := k))
          have hmv' := Lib.hid (hmv.out.trans (Moved.swap c (p := k + 1) (q := k) ⟨by omega, by omega⟩ ⟨by omega, by omega⟩ (by have := hl.out; omega)))
          have hsh' := Lib.hid (shL_step hki (by have := hl.out; omega) hsh.out)
          clear hmv hsh hl hsl
          generalize swapL c (k + 1) k = c' at *
          generalize c.getD (k + 1) 0 = x at *
          generalize c.getD k 0 = y at *
          rw [show ((k + 1 : Nat) : Int) = (k : Int) + 1 from by omega] at *
          go_wp2
          go_region
          go_wp2_with fail
          exact ⟨⟨k, c', by go_num, by omega, by omega, hsw.out.drew, hmv', hsh', ((hb.setCell (Nat.le_refl _) _).setCell (Nat.le_refl _) _).drew⟩, by first | (simp [intOf]; done) | (simp [intOf]; omega)⟩
        · obtain rfl : k = i := by omega
          go_wp2_with fail
          refine bodyPost_ret (results_none rfl _ _ _) rfl ?_
          exact ⟨c, rfl, hsl, hb, hmv.out, last_end Hr.out ⟨hi, hj⟩ hlo.out hhi.out hsh.out⟩
end Go.Proofs.Ytpkokolhmcophaa.sl
