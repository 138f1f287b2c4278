/- The library's stable sort: the contracts of stable and SortStableFunc. -/
import Derived.Test.YtpkokolhmcophaaSymC
import Derived.Test.YtpkokolhmcophaaIns
namespace Go.Proofs.Ytpkokolhmcophaa.sl
open Go.RowKit
section
variable {D : Nat → Nat → Bool} {K : Nat → Nat}

theorem crsAll_moved {n a b N : Nat} {l l' : List Nat} (hf : Fwd D K n) (hm : Moved a b l l') (hs : Srt K l' a b) (hlow : Low n l) (hbN : b ≤ N) (hN : l.length = N) (h : CrsAll D K l 0 N) : CrsAll D K l' 0 N := by
  have hlow' := hm.low (by omega) hlow
  have hl := hm.1
  intro i j _ h2 h3
  by_cases ci : a ≤ i ∧ i < b
  · by_cases cj : a ≤ j ∧ j < b
    · exact fair_of_le hf (hlow' i (by omega)) (hlow' j (by omega)) (hs i j ci.1 h2 cj.2)
    · obtain ⟨i', i1, i2, i3⟩ := hm.in i ci.1 ci.2
      rw [i3, hm.out j (by omega)]; exact h i' j (by omega) (by omega) h3
  · rw [hm.out i (by omega)]
    by_cases cj : a ≤ j ∧ j < b
    · obtain ⟨j', j1, j2, j3⟩ := hm.in j cj.1 cj.2
      rw [j3]; exact h i j' (by omega) (by omega) (by omega)
    · rw [hm.out j (by omega)]; exact h i j (by omega) h2 h3

/-- the pieces of s places ahead of the t-th rise; those from the t-th on -/
def BLo (K : Nat → Nat) (N s t : Nat) (c : List Nat) : Prop := ∀ u i j, u < t → u * s ≤ i → i < j → j < u * s + s → j < N → K (c.getD i 0) ≤ K (c.getD j 0)
def BHi (K : Nat → Nat) (N s t : Nat) (c : List Nat) : Prop := ∀ u i j, t ≤ u → u * s ≤ i → i < j → j < u * s + s → j < N → K (c.getD i 0) ≤ K (c.getD j 0)
theorem mul_step {u t s : Nat} (h : u < t) : u * s + s ≤ t * s := by
  have := Nat.mul_le_mul_right s (show u + 1 ≤ t from h)
  rwa [Nat.succ_mul] at this
theorem bLo_step {N s t b : Nat} {c c' : List Nat} (h : BLo K N s t c) (hm : Moved (t * s) b c c') (hs : Srt K c' (t * s) b) (hb : t * s + s ≤ b ∨ N ≤ b) : BLo K N s (t + 1) c' := by
  intro u i j h1 h2 h3 h4 h5
  by_cases c1 : u = t
  · subst c1; exact hs i j h2 h3 (by omega)
  · have := mul_step (s := s) (show u < t by omega)
    rw [hm.out i (by omega), hm.out j (by omega)]; exact h u i j (by omega) h2 h3 h4 h5
theorem bHi_keep {N s t a b : Nat} {c c' : List Nat} (h : BHi K N s t c) (hm : Moved a b c c') (hb : b ≤ t * s) : BHi K N s t c' := by
  intro u i j h1 h2 h3 h4 h5
  have := Nat.mul_le_mul_right s h1
  rw [hm.out i (by omega), hm.out j (by omega)]; exact h u i j h1 h2 h3 h4 h5
theorem bHi_all {N s t : Nat} {c : List Nat} (h : BLo K N s t c) (hN : N ≤ t * s) : BHi K N s 0 c := by
  intro u i j h1 h2 h3 h4 h5
  by_cases c1 : u < t
  · exact h u i j c1 h2 h3 h4 h5
  · have := Nat.mul_le_mul_right s (show t ≤ u by omega); omega
theorem bHi_srt {N s t : Nat} {c : List Nat} (h : BHi K N s t c) {u e : Nat} (hu : t ≤ u) (he : e ≤ u * s + s) (heN : e ≤ N) : Srt K c (u * s) e := fun i j h1 h2 h3 => h u i j hu h1 h2 (by omega) (by omega)
theorem bHi_on {N s t t' : Nat} {c : List Nat} (h : BHi K N s t c) (ht : t ≤ t') : BHi K N s t' c := fun u i j h1 => h u i j (by omega)
theorem bLo_zero {N s : Nat} {c : List Nat} : BLo K N s 0 c := fun u i j h1 => by omega
theorem bHi_end {N s : Nat} {c : List Nat} (h : BHi K N s 0 c) (hs : N ≤ s) : Srt K c 0 N := fun i j _ h2 h3 => h 0 i j (Nat.le_refl _) (by omega) h2 (by omega) h3
theorem two_mul' (t s : Nat) : (2 * t) * s = t * (2 * s) ∧ (2 * t + 1) * s = t * (2 * s) + s ∧ (2 * t + 2) * s = t * (2 * s) + 2 * s ∧ (t + 1) * (2 * s) = t * (2 * s) + 2 * s := by
  have e : (2 * t) * s = t * (2 * s) := by rw [Nat.mul_comm 2 t, Nat.mul_assoc]
  refine ⟨e, ?_, ?_, ?_⟩
  · rw [Nat.succ_mul, e]
  · rw [Nat.add_mul, e]
  · rw [Nat.succ_mul]
theorem crs_of_all {l : List Nat} {a m b N : Nat} (h : CrsAll D K l 0 N) (hb : b ≤ N) : Crs D K l a m b := fun i j h1 h2 h3 h4 => h i j (by omega) (by omega) (by omega)
theorem all_of_all {l : List Nat} {a b N : Nat} (h : CrsAll D K l 0 N) (hb : b ≤ N) : CrsAll D K l a b := fun i j h1 h2 h3 => h i j (by omega) h2 (by omega)
end

set_option maxRecDepth 100000 in
set_option maxHeartbeats 4000000 in
theorem stable_c (D : Nat → Nat → Bool) (K : Nat → Nat) (B n P : Nat) (w : World) (g cap N : Nat) (l : List Nat) (hN : l.length = N) (hs : N ≤ 1000000)
    (h : SlB B w g cap l) (hlow : Low n l) (hf : Fwd D K n) (hc : CmpOk g n P D w) (hx : CrsAll D K l 0 N) :
    Calls Try.prog 26 #[.slice (some ⟨g, 0, none⟩) N cap, .int .i64 (N : Nat), .func (.func 24) #[] #[.pointer (some ⟨P, 0, none⟩)]] w
      (Into B w g cap fun l' => Moved 0 N l l' ∧ Srt K l' 0 N) := by
  obtain ⟨b1, b2, _⟩ := h.small
  unfold maxLen at b2
  have Hn := Lib.hid hN
  clear hN
  rw [Hn.out] at b1
  go_enter Try.func26, Try.ntmps26
  go_wp2
  go_loopw [7, 8] (fun u v wr => ∃ (t : Nat) (c : List Nat), u = .int .i64 ((t * 20 : Nat) : Int) ∧ v = .int .i64 ((t * 20 + 20 : Nat) : Int) ∧ t * 20 ≤ N ∧ SlB B wr g cap c ∧ Hid (Moved 0 N l c) ∧ Hid (CrsAll D K c 0 N) ∧ Hid (BLo K N 20 t c) ∧ Below g w wr) (fun u _ _ => N + 20 - (intOf u).toNat)
  case atStart => exact ⟨0, l, by go_num, by go_num, by omega, h, Lib.hid (Moved.refl _ _ _), Lib.hid hx, Lib.hid bLo_zero, Below.refl _ _⟩
  case round =>
    obtain ⟨t, c, rfl, rfl, ht, hsl, hmv, hcr, hbl, hb⟩ := hrel
    have hl : Hid (c.length = N) := Lib.hid (by rw [hmv.out.1, Hn.out])
    have hlw := hmv.out.low (by have := Hn.out; omega) hlow
    by_cases hlt : t * 20 + 20 ≤ N
    · have k1 := insertion_c D K B n P wr g cap (t * 20) (t * 20 + 20) N c hl.out hs (by omega) hlt hsl hlw hf (hc.on hb) (all_of_all hcr.out hlt)
      go_wp2_with fail
      refine k1.mono ?_; rintro e0 w1 ⟨c', rfl, hs1, hb1, hm1, hr1⟩
      have hcr' := Lib.hid (crsAll_moved hf hm1 hr1 hlw hlt hl.out hcr.out)
      have hmv' := Lib.hid (hmv.out.trans (hm1.wide (Nat.zero_le _) hlt))
      have hbl' := Lib.hid (bLo_step hbl.out hm1 hr1 (.inl (Nat.le_refl _)))
      clear hm1 hr1
      go_wp2_with fail
      exact ⟨⟨t + 1, c', by go_num, by go_num, by omega, hs1, hmv', hcr', hbl', hb.trans hb1⟩, by first | (simp [intOf]; done) | (simp [intOf]; omega)⟩
    · have k1 := insertion_c D K B n P wr g cap (t * 20) N N c hl.out hs ht (Nat.le_refl _) hsl hlw hf (hc.on hb) (all_of_all hcr.out (Nat.le_refl _))
      go_wp2_with fail
      refine k1.mono ?_; rintro e0 w1 ⟨c', rfl, hs1, hb1, hm1, hr1⟩
      have hcr' := Lib.hid (crsAll_moved hf hm1 hr1 hlw (Nat.le_refl _) hl.out hcr.out)
      have hmv' := Lib.hid (hmv.out.trans (hm1.wide (Nat.zero_le _) (Nat.le_refl _)))
      have hbl' := Lib.hid (bHi_all (bLo_step hbl.out hm1 hr1 (.inr (Nat.le_refl _))) (by omega))
      have hb' := hb.trans hb1
      clear hm1 hr1 hcr hmv hbl hl hlw hsl hb hb1 k1
      go_wp2_with fail
      go_loopw [6] (fun v wr => ∃ (s : Nat) (c : List Nat), v = .int .i64 s ∧ 0 < s ∧ s ≤ 2000020 ∧ SlB B wr g cap c ∧ Hid (Moved 0 N l c) ∧ Hid (CrsAll D K c 0 N) ∧ Hid (BHi K N s 0 c) ∧ Below g w wr) (fun v _ => N - (intOf v).toNat)
      case atStart => exact ⟨20, c', by go_num, by omega, by omega, hs1, hmv', hcr', hbl', hb'⟩
      case round =>
        clear hmv' hcr' hbl' hs1 hb'
        obtain ⟨s, c, rfl, hs0, hs2, hsl, hmv, hcr, hbl, hb⟩ := hrel
        by_cases hlt2 : s < N
        · go_wp2_with fail
          go_loopw [7, 8] (fun u v wr => ∃ (a t : Nat) (c : List Nat), u = .int .i64 (a : Nat) ∧ v = .int .i64 ((a : Int) + 2 * s) ∧ a ≤ N ∧ Hid (a = t * (2 * s)) ∧ SlB B wr g cap c ∧ Hid (Moved 0 N l c) ∧ Hid (CrsAll D K c 0 N) ∧ Hid (BLo K N (2 * s) t c) ∧ Hid (BHi K N s (2 * t) c) ∧ Below g w wr) (fun u _ _ => N + 1 - (intOf u).toNat)
          case atStart => exact ⟨0, 0, c, by go_num, by go_num, by omega, Lib.hid (by omega), hsl, hmv, hcr, Lib.hid bLo_zero, hbl, hb⟩
          case round =>
            clear hsl hmv hcr hbl hb
            obtain ⟨a, t, c, rfl, rfl, haN, ha, hsl, hmv, hcr, hlo, hhi, hb⟩ := hrel
            have hl : Hid (c.length = N) := Lib.hid (by rw [hmv.out.1, Hn.out])
            have hlw := hmv.out.low (by have := Hn.out; omega) hlow
            obtain ⟨e1, e2, e3, e4⟩ := two_mul' t s
            have E1 := Lib.hid e1
            have E2 := Lib.hid e2
            have E3 := Lib.hid e3
            have E4 := Lib.hid e4
            clear e1 e2 e3 e4
            by_cases hlt3 : a + 2 * s ≤ N
            · have k1 := sym_c D K B n P g cap N hs (a + 2 * s - a) a (a + s) (a + 2 * s) (Nat.le_refl _) (by omega) (by omega) hlt3 wr c hl.out hsl hlw (hc.on hb) (crs_of_all hcr.out hlt3)
                (by have := bHi_srt hhi.out (u := 2 * t) (e := a + s) (Nat.le_refl _) (by have := E1.out; have := ha.out; omega) (by omega); rw [E1.out, ← ha.out] at this; exact this)
                (by have := bHi_srt hhi.out (u := 2 * t + 1) (e := a + 2 * s) (by omega) (by have := E2.out; have := ha.out; omega) (by omega); rw [E2.out, ← ha.out] at this; exact this)
              rw [show ((a + s : Nat) : Int) = (a : Int) + s from by omega, show ((a + 2 * s : Nat) : Int) = (a : Int) + 2 * s from by omega] at k1
              go_wp2_with fail
              refine k1.mono ?_; rintro e0 w2 ⟨c2, rfl, hs2', hb2, hm2, hr2⟩
              have hcr' := Lib.hid (crsAll_moved hf hm2 hr2 hlw hlt3 hl.out hcr.out)
              have hmv' := Lib.hid (hmv.out.trans (hm2.wide (Nat.zero_le _) hlt3))
              have hhi' := Lib.hid (bHi_keep (bHi_on hhi.out (show 2 * t ≤ 2 * t + 2 by omega)) hm2 (by have := E3.out; have := ha.out; omega))
              have hm2e := hm2
              rw [ha.out] at hm2e
              have hr2e := hr2
              rw [ha.out] at hr2e
              have hlo' := Lib.hid (bLo_step hlo.out hm2e hr2e (.inl (Nat.le_refl _)))
              clear hm2 hr2 hm2e hr2e hlo hhi hcr hmv
              go_wp2_with fail
              exact ⟨⟨a + 2 * s, t + 1, c2, by go_num, by go_num, by omega, Lib.hid (by rw [E4.out, ha.out]), hs2', hmv', hcr', hlo', by rw [show 2 * (t + 1) = 2 * t + 2 from by omega]; exact hhi', hb.trans hb2⟩, by first | (simp [intOf]; done) | (simp [intOf]; omega)⟩
            · by_cases hlt4 : a + s < N
              · have k1 := sym_c D K B n P g cap N hs (N - a) a (a + s) N (Nat.le_refl _) (by omega) hlt4 (Nat.le_refl _) wr c hl.out hsl hlw (hc.on hb) (crs_of_all hcr.out (Nat.le_refl _))
                  (by have := bHi_srt hhi.out (u := 2 * t) (e := a + s) (Nat.le_refl _) (by have := E1.out; have := ha.out; omega) (by omega); rw [E1.out, ← ha.out] at this; exact this)
                  (by have := bHi_srt hhi.out (u := 2 * t + 1) (e := N) (by omega) (by have := E2.out; have := ha.out; omega) (by omega); rw [E2.out, ← ha.out] at this; exact this)
                rw [show ((a + s : Nat) : Int) = (a : Int) + s from by omega] at k1
                go_wp2_with fail
                refine k1.mono ?_; rintro e0 w2 ⟨c2, rfl, hs2', hb2, hm2, hr2⟩
                have hcr' := Lib.hid (crsAll_moved hf hm2 hr2 hlw (Nat.le_refl _) hl.out hcr.out)
                have hmv' := Lib.hid (hmv.out.trans (hm2.wide (Nat.zero_le _) (Nat.le_refl _)))
                rw [ha.out] at hm2 hr2
                have hall := Lib.hid (bHi_all (bLo_step hlo.out hm2 hr2 (.inr (Nat.le_refl _))) (by have := E4.out; have := ha.out; omega))
                rw [Nat.mul_comm 2 s] at hall
                clear hm2 hr2 hlo hhi hcr hmv
                go_wp2_with fail
                exact ⟨⟨s * 2, c2, by go_num, by omega, by omega, hs2', hmv', hcr', hall, hb.trans hb2⟩, by first | (simp [intOf]; done) | (simp [intOf]; omega)⟩
              · have hall : Hid (BHi K N (s * 2) 0 c) := Lib.hid (by
                  rw [Nat.mul_comm s 2]
                  refine bHi_all (bLo_step hlo.out (Moved.refl _ N _) ?_ (.inr (Nat.le_refl _))) (by have := E4.out; have := ha.out; omega)
                  have := bHi_srt hhi.out (u := 2 * t) (e := N) (Nat.le_refl _) (by have := E1.out; have := ha.out; omega) (Nat.le_refl _)
                  rw [E1.out] at this; exact this)
                go_wp2_with fail
                exact ⟨⟨s * 2, c, by go_num, by omega, by omega, hsl, hmv, hcr, hall, hb⟩, by first | (simp [intOf]; done) | (simp [intOf]; omega)⟩
        · go_wp2_with fail
          go_end0
          exact ⟨c, rfl, hsl, hb, hmv.out, bHi_end hbl.out (by omega)⟩

theorem sortStable_c (D : Nat → Nat → Bool) (K : Nat → Nat) (B n P : Nat) (w : World) (g cap N : Nat) (l : List Nat) (hN : l.length = N) (hs : N ≤ 1000000)
    (h : SlB B w g cap l) (hlow : Low n l) (hf : Fwd D K n) (hc : CmpOk g n P D w) (hx : CrsAll D K l 0 N) :
    Calls Try.prog 23 #[.slice (some ⟨g, 0, none⟩) N cap, .func (.func 24) #[] #[.pointer (some ⟨P, 0, none⟩)]] w
      (Into B w g cap fun l' => Moved 0 N l l' ∧ Srt K l' 0 N) := by
  have k1 := stable_c D K B n P w g cap N l hN hs h hlow hf hc hx
  clear hN hx hlow hf
  go_enter Try.func23, Try.ntmps23
  go_wp2_with fail
  refine k1.mono ?_; rintro e0 w1 ⟨c', rfl, hs1, hb1, hm1, hr1⟩
  have hm2 := Lib.hid hm1
  have hr2 := Lib.hid hr1
  clear hm1 hr1
  go_wp2_with fail
  go_end0
  exact ⟨c', rfl, hs1, hb1, hm2.out, hr2.out⟩
end Go.Proofs.Ytpkokolhmcophaa.sl
