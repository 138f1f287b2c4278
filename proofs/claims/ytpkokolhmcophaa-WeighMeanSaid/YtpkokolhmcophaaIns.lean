/- The contract of the library's insertionSort. -/
import Derived.Test.YtpkokolhmcophaaSortM
import Derived.Test.YtpkokolhmcophaaCmp
namespace Go.Proofs.Ytpkokolhmcophaa.sl
open Go.RowKit

set_option maxHeartbeats 1000000 in
theorem insertion_c (D : Nat → Nat → Bool) (K : Nat → Nat) (B n P : Nat) (w : World) (g cap a b N : Nat) (l : List Nat) (hN : l.length = N) (hs : N ≤ 1000000) (hab : a ≤ b) (hbn : b ≤ N)
    (h : SlB B w g cap l) (hlow : Low n l) (hf : Fwd D K n) (hc : CmpOk g n P D w) (hx : CrsAll D K l a b) :
    Calls Try.prog 28 #[.slice (some ⟨g, 0, none⟩) N cap, .int .i64 (a : Nat), .int .i64 (b : Nat), .func (.func 24) #[] #[.pointer (some ⟨P, 0, none⟩)]] w
      (Into B w g cap fun l' => Moved a b l l' ∧ Srt K l' a b) := by
  obtain ⟨b1, b2, _⟩ := h.small
  unfold maxLen at b2
  have Hn := Lib.hid hN
  clear hN
  rw [Hn.out] at b1
  go_enter Try.func28, Try.ntmps28
  go_wp2
  go_loopw [8] (fun u wr => ∃ (i : Nat) (c : List Nat), u = .int .i64 i ∧ a + 1 ≤ i ∧ (i ≤ b ∨ b = a ∧ i = a + 1) ∧ SlB B wr g cap c ∧ Hid (Moved a b l c) ∧ Hid (Srt K c a i) ∧ Hid (CrsAll D K c a b) ∧ Below g w wr) (fun u _ => b + 1 - (intOf u).toNat)
  case atStart => exact ⟨a + 1, l, by go_num, Nat.le_refl _, by omega, h, Lib.hid (Moved.refl _ _ _), Lib.hid (fun p q h1 h2 h3 => by omega), Lib.hid hx, Below.refl _ _⟩
  case round =>
    obtain ⟨i, c, rfl, hi, hib, hsl, hmv, hsr, hcr, hb⟩ := hrel
    by_cases hlt : i < b
    · go_wp2
      go_loopw [9] (fun v wr => ∃ (j : Nat) (c : List Nat), v = .int .i64 j ∧ a ≤ j ∧ j ≤ i ∧ SlB B wr g cap c ∧ Hid (Moved a b l c) ∧ Hid (Ins K a i j c) ∧ Hid (CrsAll D K c a b) ∧ Below g w wr) (fun v _ => (intOf v).toNat)
      case atStart => exact ⟨i, c, rfl, by omega, Nat.le_refl _, hsl, hmv, Lib.hid (ins_start hsr.out), hcr, hb⟩
      case round =>
        clear hsl hmv hsr hcr hb
        rename_i wr0 _
        obtain ⟨j, c, rfl, hj, hji, hsl, hmv, hin, hcr, hb⟩ := hrel
        have hl : Hid (c.length = N) := Lib.hid (by rw [hmv.out.1, Hn.out])
        by_cases hja : a < j
        · obtain ⟨j, rfl⟩ : ∃ k, j = k + 1 := ⟨j - 1, by omega⟩
          have c1 := hsl.at (j + 1) (by have := hl.out; omega)
          have c2 := hsl.at j (by have := hl.out; omega)
          have f1 := hsl.free (j + 1)
          have f2 := hsl.free j
          have hlw := hmv.out.low (by have := Hn.out; omega) hlow
          have hq := fun q => (hc.on hb).quiet (hlw (j + 1) (by have := hl.out; omega)) (hlw j (by have := hl.out; omega)) q
          have ht := cmpV_neg D (c.getD (j + 1) 0) (c.getD j 0)
          have hfr := hcr.out j (j + 1) (by omega) (by omega) (by omega)
          unfold Fair at hfr
          rw [hfr] at ht
          have e0 : ((j + 1 : Nat) : Int) - 1 = (j : Int) := by omega
          have ha1 : decide ((a : Int) < ((j + 1 : Nat) : Int)) = true := by simp; omega
          by_cases hK : K (c.getD (j + 1) 0) < K (c.getD j 0)
          · have hsw := fun q => Lib.hid ((hsl.drawn q).swap1 (p := j + 1) (q := j))
            have hmv' := Lib.hid (hmv.out.trans (Moved.swap c (p := j + 1) (q := j) ⟨by omega, by omega⟩ ⟨by omega, by omega⟩ (by have := hl.out; omega)))
            have hin' := Lib.hid (ins_step hin.out (by omega) (by omega) (by have := hl.out; omega) hK)
            have hcr' := Lib.hid (crs_swap hf hlw hcr.out (by omega) (by omega) (by have := hl.out; omega) hK)
            rw [show decide (K (c.getD (j + 1) 0) < K (c.getD j 0)) = true from by simpa using hK] at ht
            clear hK hfr hlw hin hcr hmv hl hsl
            generalize swapL c (j + 1) j = c' at *
            generalize c.getD (j + 1) 0 = x at *
            generalize c.getD j 0 = y at *
            generalize cmpV D x y = z at *
            rw [show ((j + 1 : Nat) : Int) = (j : Int) + 1 from by omega] at *
            go_wp2
            go_quiet ((go_at_call 24; exact hq _))
            go_wp2
            have d1 : (wr.drewN nq).cell? ⟨g, j + 1, none⟩ = _ := c1
            have d2 : (wr.drewN nq).cell? ⟨g, j, none⟩ = _ := c2
            have g1 : (wr.drewN nq).frozen? ⟨g, j + 1, none⟩ = _ := f1
            have g2 : (wr.drewN nq).frozen? ⟨g, j, none⟩ = _ := f2
            have hsw1 := hsw nq
            have hb1 := hb.trans (below_drawn _ _ nq)
            clear c1 c2 f1 f2 hsw hq hb ht
            generalize wr.drewN nq = w1 at *
            go_region
            go_wp2_with fail
            exact ⟨⟨j, c', by go_num, by omega, by omega, hsw1.out.drew, hmv', hin', hcr', ((hb1.setCell (Nat.le_refl _) _).setCell (Nat.le_refl _) _).drew⟩, by first | (simp [intOf]; done) | (simp [intOf]; omega)⟩
          · have hend := Lib.hid (ins_end hin.out (.inr ⟨by omega, by simp only [Nat.add_sub_cancel]; omega⟩))
            rw [show decide (K (c.getD (j + 1) 0) < K (c.getD j 0)) = false from by simpa using hK] at ht
            have hsl' := fun q => Lib.hid (hsl.drawn q)
            clear hK hfr hlw hin hl hsl
            generalize c.getD (j + 1) 0 = x at *
            generalize c.getD j 0 = y at *
            generalize cmpV D x y = z at *
            rw [show ((j + 1 : Nat) : Int) = (j : Int) + 1 from by omega] at *
            go_wp2
            go_quiet ((go_at_call 24; exact hq _))
            go_wp2
            exact ⟨⟨i + 1, c, by go_num, by omega, by omega, (hsl' nq).out, hmv, hend, hcr, hb.trans (below_drawn _ _ nq)⟩, by first | (simp [intOf]; done) | (simp [intOf]; omega)⟩
        · obtain rfl : j = a := by omega
          have hend := Lib.hid (ins_end hin.out (.inl rfl))
          have ha1 : decide ((j : Int) < (j : Int)) = false := by simp
          have hsl' := fun q => Lib.hid (hsl.drawn q)
          clear hsl hin hl
          go_wp2
          go_quiet (fail)
          go_wp2
          exact ⟨⟨i + 1, c, by go_num, by omega, by omega, (hsl' nq).out, hmv, hend, hcr, hb.trans (below_drawn _ _ nq)⟩, by first | (simp [intOf]; done) | (simp [intOf]; omega)⟩
    · go_wp2
      go_end0
      exact ⟨c, rfl, hsl, hb, hmv.out, fun p q h1 h2 h3 => hsr.out p q h1 h2 (by omega)⟩
end Go.Proofs.Ytpkokolhmcophaa.sl
