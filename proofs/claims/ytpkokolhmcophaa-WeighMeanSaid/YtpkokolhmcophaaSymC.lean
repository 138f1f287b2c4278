/- The library's symMerge: where both sides have more than one element; and whole, by induction. -/
import Derived.Test.YtpkokolhmcophaaSymA
import Derived.Test.YtpkokolhmcophaaSymB
namespace Go.Proofs.Ytpkokolhmcophaa.sl
open Go.RowKit

/-- what a merge in place of [a, m) and [m, b) comes to -/
def SymSays (D : Nat → Nat → Bool) (K : Nat → Nat) (B n P g cap N a m b : Nat) : Prop :=
  ∀ (w : World) (l : List Nat), l.length = N → SlB B w g cap l → Low n l → CmpOk g n P D w → Crs D K l a m b → Srt K l a m → Srt K l m b →
    Calls Try.prog 29 #[.slice (some ⟨g, 0, none⟩) N cap, .int .i64 (a : Nat), .int .i64 (m : Nat), .int .i64 (b : Nat), .func (.func 24) #[] #[.pointer (some ⟨P, 0, none⟩)]] w
      (Into B w g cap fun l' => Moved a b l l' ∧ Srt K l' a b)

theorem sym_end {a s mid e b : Nat} {l l1 l2 l3 : List Nat} {D : Nat → Nat → Bool} {K : Nat → Nat} (hf : Four D K l1 a s mid e b) (has : a ≤ s ∧ s ≤ mid ∧ mid ≤ e ∧ e ≤ b) (hmv : Moved a b l l1)
    (m2 : (Moved a mid l1 l2 ∧ Srt K l2 a mid) ∨ (l2 = l1 ∧ ¬ (a < s ∧ s < mid))) (m3 : (Moved mid b l2 l3 ∧ Srt K l3 mid b) ∨ (l3 = l2 ∧ ¬ (mid < e ∧ e < b))) : Moved a b l l3 ∧ Srt K l3 a b := by
  have h2 : Moved a mid l1 l2 ∧ Srt K l2 a mid := by
    rcases m2 with h | ⟨rfl, h⟩
    · exact h
    · exact ⟨Moved.refl _ _ _, srt_of_two hf.s1 hf.s2 h has.1 has.2.1⟩
  have h3 : Moved mid b l2 l3 ∧ Srt K l3 mid b := by
    rcases m3 with h | ⟨rfl, h⟩
    · exact h
    · exact ⟨Moved.refl _ _ _, srt_of_two (srt_out h2.1 (.inr (Nat.le_refl _)) hf.s3) (srt_out h2.1 (.inr has.2.2.1) hf.s4) h has.2.2.1 has.2.2.2⟩
  exact ⟨(hmv.trans (h2.1.wide (Nat.le_refl _) (by omega))).trans (h3.1.wide (by omega) (Nat.le_refl _)), four_end hf.low h2.1 h3.1 h2.2 h3.2⟩

set_option maxRecDepth 100000 in
set_option maxHeartbeats 8000000 in
theorem symC_c (D : Nat → Nat → Bool) (K : Nat → Nat) (B n P g cap N a m b : Nat) (hs : N ≤ 1000000) (ham : a + 1 < m) (hmb : m + 1 < b) (hbn : b ≤ N)
    (ih : ∀ a' m' b', a' < m' → m' < b' → b' ≤ N → b' - a' < b - a → SymSays D K B n P g cap N a' m' b') : SymSays D K B n P g cap N a m b := by
  intro w l hN h hlow hc hx hr1 hr2
  obtain ⟨b1, b2, _⟩ := h.small
  unfold maxLen at b2
  have Hn := Lib.hid hN
  clear hN
  rw [Hn.out] at b1
  have Hr1 := Lib.hid hr1
  have Hr2 := Lib.hid hr2
  have Hx := Lib.hid hx
  clear hr1 hr2 hx
  have t0 : ((m : Int) - a == 1) = false := by simp; omega
  have t1 : ((b : Int) - m == 1) = false := by simp; omega
  obtain ⟨mid, hmid⟩ : ∃ mid : Nat, ((a : Int) + b) / 2 = mid := ⟨(a + b) / 2, by omega⟩
  have hm2 : mid = (a + b) / 2 := by omega
  have Hm2 := Lib.hid hm2
  have hm3 : a < mid ∧ mid < b := by omega
  clear hm2
  by_cases hcase : mid < m
  · have hrng := Lib.hid (show Rng a m b mid (mid + m - b) mid from ⟨.inl ⟨hcase, rfl, rfl⟩, by omega, by omega, Hm2.out⟩)
    go_enter Try.func29, Try.ntmps29
    go_wp2
    go_loopw [20, 21] (fun u v wr => ∃ (i j k : Nat), u = .int .i64 i ∧ v = .int .i64 j ∧ mid + m - b ≤ i ∧ i ≤ j ∧ j ≤ mid ∧ wr = w.drewN k ∧ Hid (Lo K l (mid + m) (mid + m - b) i) ∧ Hid (Hi K l (mid + m) (mid) j)) (fun u v _ => (intOf v).toNat - (intOf u).toNat)
    case atStart => exact ⟨mid + m - b, mid, 0, by go_num, by go_num, Nat.le_refl _, by omega, Nat.le_refl _, rfl, Lib.hid (fun t h1 h2 => by omega), Lib.hid (fun t h1 h2 => by omega)⟩
    case round =>
      obtain ⟨i, j, k, rfl, rfl, hi, hij, hj, rfl, hlo, hhi⟩ := hrel
      by_cases hlt : i < j
      · obtain ⟨q, hq⟩ : ∃ q : Nat, ((i : Int) + j) / 2 = q := ⟨(i + j) / 2, by omega⟩
        have hq1 : i ≤ q := by omega
        have hq2 : q < j := by omega
        obtain ⟨d, hd⟩ : ∃ d : Nat, (mid : Int) + m - 1 - q = d := ⟨mid + m - 1 - q, by have := Hm2.out; omega⟩
        have hd1 : mid + m - 1 - q = d := by omega
        have cq := h.at q (by have := Hn.out; have := Hm2.out; omega)
        have cd := h.at d (by have := Hn.out; have := Hm2.out; omega)
        have hdb : (d : Int) < N := by have := Hm2.out; omega
        have hcall := fun k0 => hc.quiet2 (hlow d (by have := Hn.out; have := Hm2.out; omega)) (hlow q (by have := Hn.out; have := Hm2.out; omega)) k k0
        have ht := cmpV_neg D (l.getD d 0) (l.getD q 0)
        have hfr := Hx.out q d (by have := Hm2.out; omega) (by have := Hm2.out; omega) (by have := Hm2.out; omega) (by have := Hm2.out; omega)
        unfold Fair at hfr
        rw [hfr] at ht
        by_cases hK : K (l.getD d 0) < K (l.getD q 0)
        · rw [show decide (K (l.getD d 0) < K (l.getD q 0)) = true from by simpa using hK] at ht
          have hhi' := Lib.hid (hi_step hrng.out Hr1.out Hr2.out (c := q) ⟨by omega, by omega⟩ (by rw [hd1]; exact hK))
          clear hK hfr hhi hd1
          generalize hzz : cmpV D (l.getD d 0) (l.getD q 0) = z at *
          clear hzz
          go_wp2
          go_quiet ((go_at_call 24; exact hcall _))
          go_wp2
          exact ⟨⟨i, q, k + nq, rfl, rfl, hi, hq1, by omega, by first | rfl | exact World.drewN_drewN .., hlo, hhi'⟩, by first | (simp [intOf]; done) | (simp [intOf]; omega)⟩
        · rw [show decide (K (l.getD d 0) < K (l.getD q 0)) = false from by simpa using hK] at ht
          have hlo' := Lib.hid (lo_step hrng.out Hr1.out Hr2.out (c := q) ⟨hq1, by omega⟩ hi (by rw [hd1]; exact hK))
          clear hK hfr hlo hd1
          generalize hzz : cmpV D (l.getD d 0) (l.getD q 0) = z at *
          clear hzz
          go_wp2
          go_quiet ((go_at_call 24; exact hcall _))
          go_wp2
          exact ⟨⟨q + 1, j, k + nq, by go_num, rfl, by omega, by omega, hj, by first | rfl | exact World.drewN_drewN .., hlo', hhi⟩, by first | (simp [intOf]; done) | (simp [intOf]; omega)⟩
      · obtain rfl : i = j := by omega
        have hsl : SlB B (w.drewN k) g cap l := h.drawn k
        have hb : Below g w (w.drewN k) := below_drawn _ _ _
        have hc' := hc.on hb
        generalize w.drewN k = w0 at *
        clear h
        obtain ⟨e, he⟩ : ∃ e : Nat, (mid : Int) + m - i = e := ⟨mid + m - i, by have := Hm2.out; omega⟩
        have he1 : e = mid + m - i := by omega
        have hord : a ≤ i ∧ i ≤ mid ∧ mid ≤ e ∧ e ≤ b ∧ i ≤ m ∧ m ≤ e := by have := Hm2.out; omega
        have hfour := fun c hcc => four_of hrng.out Hr1.out Hr2.out Hx.out (s := i) (c := c) ⟨hi, hj⟩ hlo.out hhi.out hcc
        rw [← he1] at hfour
        have Hfour := Lib.hid hfour
        clear hfour he1 hlo hhi
        by_cases hrot : i < m ∧ m < e
        · obtain ⟨r1, r2⟩ := hrot
          have hrc := rotate_c B w0 g cap i m e N (.func (.func 24) #[] #[.pointer (some ⟨P, 0, none⟩)]) l Hn.out hs r1 r2 (by omega) hsl
          go_wp2_with fail
          refine hrc.mono ?_; rintro e0 w1 ⟨l1, rfl, hs1, hb1, hn1, hf1⟩
          have hf := Lib.hid (Hfour.out l1 hf1)
          have hmv := Lib.hid (Moved.wide (Moved.rot r1 r2 (by rw [hn1, Hn.out]) hf1) hord.1 hord.2.2.2.1)
          have hL1 := Lib.hid hn1
          clear hf1 hn1
          have hc1 := hc'.on hb1
          have hB1 := hb.trans hb1
          have hlw1 := (hmv.out).low (by have := Hn.out; omega) hlow
          by_cases ra : a < i ∧ i < mid
          · have k2 := ih a i mid ra.1 ra.2 (by omega) (by omega) w1 l1 hL1.out hs1 hlw1 hc1 hf.out.c1 hf.out.s1 hf.out.s2
            obtain ⟨ra1, ra2⟩ := ra
            go_wp2_with fail
            refine k2.mono ?_; rintro e0 w2 ⟨l2, rfl, hs2, hb2, hm2, hr2⟩
            have hm2' := Lib.hid hm2
            have hr2' := Lib.hid hr2
            have hL2 : Hid (l2.length = N) := Lib.hid (by rw [hm2.1, hL1.out])
            have hlw2 := hm2.low (by have := hL1.out; omega) hlw1
            clear hm2 hr2
            have hc2 := hc1.on hb2
            have hB2 := hB1.trans hb2
            by_cases rb : mid < e ∧ e < b
            · have k3 := ih mid e b rb.1 rb.2 (by omega) (by omega) w2 l2 hL2.out hs2 hlw2 hc2 (crs_out hm2'.out (Nat.le_refl _) hf.out.c2) (srt_out hm2'.out (.inr (Nat.le_refl _)) hf.out.s3) (srt_out hm2'.out (.inr (by omega)) hf.out.s4)
              obtain ⟨rb1, rb2⟩ := rb
              go_wp2_with fail
              refine k3.mono ?_; rintro e0 w3 ⟨l3, rfl, hs3, hb3, hm3, hr3⟩
              have hE := Lib.hid (sym_end hf.out ⟨hord.1, hord.2.1, hord.2.2.1, hord.2.2.2.1⟩ hmv.out (.inl ⟨hm2'.out, hr2'.out⟩) (.inl ⟨hm3, hr3⟩))
              clear hm3 hr3
              go_wp2_with fail
              go_end0
              exact ⟨l3, rfl, hs3, hB2.trans hb3, hE.out⟩
            · have hE := Lib.hid (sym_end hf.out ⟨hord.1, hord.2.1, hord.2.2.1, hord.2.2.2.1⟩ hmv.out (.inl ⟨hm2'.out, hr2'.out⟩) (.inr ⟨rfl, rb⟩))
              by_cases rb1 : mid < e
              · have rb2 : ¬ e < b := fun h => rb ⟨rb1, h⟩
                go_wp2_with fail
                go_end0
                exact ⟨l2, rfl, hs2, hB2, hE.out⟩
              · go_wp2_with fail
                go_end0
                exact ⟨l2, rfl, hs2, hB2, hE.out⟩
          · by_cases rb : mid < e ∧ e < b
            · have k3 := ih mid e b rb.1 rb.2 (by omega) (by omega) w1 l1 hL1.out hs1 hlw1 hc1 hf.out.c2 hf.out.s3 hf.out.s4
              obtain ⟨rb1, rb2⟩ := rb
              by_cases ra1 : a < i
              · have ra2 : ¬ i < mid := fun h => ra ⟨ra1, h⟩
                go_wp2_with fail
                refine k3.mono ?_; rintro e0 w3 ⟨l3, rfl, hs3, hb3, hm3, hr3⟩
                have hE := Lib.hid (sym_end hf.out ⟨hord.1, hord.2.1, hord.2.2.1, hord.2.2.2.1⟩ hmv.out (.inr ⟨rfl, ra⟩) (.inl ⟨hm3, hr3⟩))
                clear hm3 hr3
                go_wp2_with fail
                go_end0
                exact ⟨l3, rfl, hs3, hB1.trans hb3, hE.out⟩
              · go_wp2_with fail
                refine k3.mono ?_; rintro e0 w3 ⟨l3, rfl, hs3, hb3, hm3, hr3⟩
                have hE := Lib.hid (sym_end hf.out ⟨hord.1, hord.2.1, hord.2.2.1, hord.2.2.2.1⟩ hmv.out (.inr ⟨rfl, ra⟩) (.inl ⟨hm3, hr3⟩))
                clear hm3 hr3
                go_wp2_with fail
                go_end0
                exact ⟨l3, rfl, hs3, hB1.trans hb3, hE.out⟩
            · have hE := Lib.hid (sym_end hf.out ⟨hord.1, hord.2.1, hord.2.2.1, hord.2.2.2.1⟩ hmv.out (.inr ⟨rfl, ra⟩) (.inr ⟨rfl, rb⟩))
              have hra : ¬ a < i ∨ (a < i ∧ ¬ i < mid) := by omega
              have hrb : ¬ mid < e ∨ (mid < e ∧ ¬ e < b) := by omega
              rcases hra with ra1 | ⟨ra1, ra2⟩ <;> rcases hrb with rb1 | ⟨rb1, rb2⟩
              all_goals
                go_wp2_with fail
                go_end0
                exact ⟨_, rfl, hs1, hB1, hE.out⟩
        · have hf := Lib.hid (Hfour.out l (fun p => by congr 1; unfold rotI; (repeat' split) <;> omega))
          have hmv := Lib.hid (Moved.refl a b l)
          have hL1 := Hn
          have hc1 := hc'
          have hB1 := hb
          have hs1 := hsl
          clear hsl hb
          by_cases r1 : i < m
          · have r2 : ¬ m < e := fun h => hrot ⟨r1, h⟩
            have hlw1 := (hmv.out).low (by have := Hn.out; omega) hlow
            by_cases ra : a < i ∧ i < mid
            · have k2 := ih a i mid ra.1 ra.2 (by omega) (by omega) w0 l hL1.out hs1 hlw1 hc1 hf.out.c1 hf.out.s1 hf.out.s2
              obtain ⟨ra1, ra2⟩ := ra
              go_wp2_with fail
              refine k2.mono ?_; rintro e0 w2 ⟨l2, rfl, hs2, hb2, hm2, hr2⟩
              have hm2' := Lib.hid hm2
              have hr2' := Lib.hid hr2
              have hL2 : Hid (l2.length = N) := Lib.hid (by rw [hm2.1, hL1.out])
              have hlw2 := hm2.low (by have := hL1.out; omega) hlw1
              clear hm2 hr2
              have hc2 := hc1.on hb2
              have hB2 := hB1.trans hb2
              by_cases rb : mid < e ∧ e < b
              · have k3 := ih mid e b rb.1 rb.2 (by omega) (by omega) w2 l2 hL2.out hs2 hlw2 hc2 (crs_out hm2'.out (Nat.le_refl _) hf.out.c2) (srt_out hm2'.out (.inr (Nat.le_refl _)) hf.out.s3) (srt_out hm2'.out (.inr (by omega)) hf.out.s4)
                obtain ⟨rb1, rb2⟩ := rb
                go_wp2_with fail
                refine k3.mono ?_; rintro e0 w3 ⟨l3, rfl, hs3, hb3, hm3, hr3⟩
                have hE := Lib.hid (sym_end hf.out ⟨hord.1, hord.2.1, hord.2.2.1, hord.2.2.2.1⟩ hmv.out (.inl ⟨hm2'.out, hr2'.out⟩) (.inl ⟨hm3, hr3⟩))
                clear hm3 hr3
                go_wp2_with fail
                go_end0
                exact ⟨l3, rfl, hs3, hB2.trans hb3, hE.out⟩
              · have hE := Lib.hid (sym_end hf.out ⟨hord.1, hord.2.1, hord.2.2.1, hord.2.2.2.1⟩ hmv.out (.inl ⟨hm2'.out, hr2'.out⟩) (.inr ⟨rfl, rb⟩))
                by_cases rb1 : mid < e
                · have rb2 : ¬ e < b := fun h => rb ⟨rb1, h⟩
                  go_wp2_with fail
                  go_end0
                  exact ⟨l2, rfl, hs2, hB2, hE.out⟩
                · go_wp2_with fail
                  go_end0
                  exact ⟨l2, rfl, hs2, hB2, hE.out⟩
            · by_cases rb : mid < e ∧ e < b
              · have k3 := ih mid e b rb.1 rb.2 (by omega) (by omega) w0 l hL1.out hs1 hlw1 hc1 hf.out.c2 hf.out.s3 hf.out.s4
                obtain ⟨rb1, rb2⟩ := rb
                by_cases ra1 : a < i
                · have ra2 : ¬ i < mid := fun h => ra ⟨ra1, h⟩
                  go_wp2_with fail
                  refine k3.mono ?_; rintro e0 w3 ⟨l3, rfl, hs3, hb3, hm3, hr3⟩
                  have hE := Lib.hid (sym_end hf.out ⟨hord.1, hord.2.1, hord.2.2.1, hord.2.2.2.1⟩ hmv.out (.inr ⟨rfl, ra⟩) (.inl ⟨hm3, hr3⟩))
                  clear hm3 hr3
                  go_wp2_with fail
                  go_end0
                  exact ⟨l3, rfl, hs3, hB1.trans hb3, hE.out⟩
                · go_wp2_with fail
                  refine k3.mono ?_; rintro e0 w3 ⟨l3, rfl, hs3, hb3, hm3, hr3⟩
                  have hE := Lib.hid (sym_end hf.out ⟨hord.1, hord.2.1, hord.2.2.1, hord.2.2.2.1⟩ hmv.out (.inr ⟨rfl, ra⟩) (.inl ⟨hm3, hr3⟩))
                  clear hm3 hr3
                  go_wp2_with fail
                  go_end0
                  exact ⟨l3, rfl, hs3, hB1.trans hb3, hE.out⟩
              · have hE := Lib.hid (sym_end hf.out ⟨hord.1, hord.2.1, hord.2.2.1, hord.2.2.2.1⟩ hmv.out (.inr ⟨rfl, ra⟩) (.inr ⟨rfl, rb⟩))
                have hra : ¬ a < i ∨ (a < i ∧ ¬ i < mid) := by omega
                have hrb : ¬ mid < e ∨ (mid < e ∧ ¬ e < b) := by omega
                rcases hra with ra1 | ⟨ra1, ra2⟩ <;> rcases hrb with rb1 | ⟨rb1, rb2⟩
                all_goals
                  go_wp2_with fail
                  go_end0
                  exact ⟨_, rfl, hs1, hB1, hE.out⟩
          · have hlw1 := (hmv.out).low (by have := Hn.out; omega) hlow
            by_cases ra : a < i ∧ i < mid
            · have k2 := ih a i mid ra.1 ra.2 (by omega) (by omega) w0 l hL1.out hs1 hlw1 hc1 hf.out.c1 hf.out.s1 hf.out.s2
              obtain ⟨ra1, ra2⟩ := ra
              go_wp2_with fail
              refine k2.mono ?_; rintro e0 w2 ⟨l2, rfl, hs2, hb2, hm2, hr2⟩
              have hm2' := Lib.hid hm2
              have hr2' := Lib.hid hr2
              have hL2 : Hid (l2.length = N) := Lib.hid (by rw [hm2.1, hL1.out])
              have hlw2 := hm2.low (by have := hL1.out; omega) hlw1
              clear hm2 hr2
              have hc2 := hc1.on hb2
              have hB2 := hB1.trans hb2
              by_cases rb : mid < e ∧ e < b
              · have k3 := ih mid e b rb.1 rb.2 (by omega) (by omega) w2 l2 hL2.out hs2 hlw2 hc2 (crs_out hm2'.out (Nat.le_refl _) hf.out.c2) (srt_out hm2'.out (.inr (Nat.le_refl _)) hf.out.s3) (srt_out hm2'.out (.inr (by omega)) hf.out.s4)
                obtain ⟨rb1, rb2⟩ := rb
                go_wp2_with fail
                refine k3.mono ?_; rintro e0 w3 ⟨l3, rfl, hs3, hb3, hm3, hr3⟩
                have hE := Lib.hid (sym_end hf.out ⟨hord.1, hord.2.1, hord.2.2.1, hord.2.2.2.1⟩ hmv.out (.inl ⟨hm2'.out, hr2'.out⟩) (.inl ⟨hm3, hr3⟩))
                clear hm3 hr3
                go_wp2_with fail
                go_end0
                exact ⟨l3, rfl, hs3, hB2.trans hb3, hE.out⟩
              · have hE := Lib.hid (sym_end hf.out ⟨hord.1, hord.2.1, hord.2.2.1, hord.2.2.2.1⟩ hmv.out (.inl ⟨hm2'.out, hr2'.out⟩) (.inr ⟨rfl, rb⟩))
                by_cases rb1 : mid < e
                · have rb2 : ¬ e < b := fun h => rb ⟨rb1, h⟩
                  go_wp2_with fail
                  go_end0
                  exact ⟨l2, rfl, hs2, hB2, hE.out⟩
                · go_wp2_with fail
                  go_end0
                  exact ⟨l2, rfl, hs2, hB2, hE.out⟩
            · by_cases rb : mid < e ∧ e < b
              · have k3 := ih mid e b rb.1 rb.2 (by omega) (by omega) w0 l hL1.out hs1 hlw1 hc1 hf.out.c2 hf.out.s3 hf.out.s4
                obtain ⟨rb1, rb2⟩ := rb
                by_cases ra1 : a < i
                · have ra2 : ¬ i < mid := fun h => ra ⟨ra1, h⟩
                  go_wp2_with fail
                  refine k3.mono ?_; rintro e0 w3 ⟨l3, rfl, hs3, hb3, hm3, hr3⟩
                  have hE := Lib.hid (sym_end hf.out ⟨hord.1, hord.2.1, hord.2.2.1, hord.2.2.2.1⟩ hmv.out (.inr ⟨rfl, ra⟩) (.inl ⟨hm3, hr3⟩))
                  clear hm3 hr3
                  go_wp2_with fail
                  go_end0
                  exact ⟨l3, rfl, hs3, hB1.trans hb3, hE.out⟩
                · go_wp2_with fail
                  refine k3.mono ?_; rintro e0 w3 ⟨l3, rfl, hs3, hb3, hm3, hr3⟩
                  have hE := Lib.hid (sym_end hf.out ⟨hord.1, hord.2.1, hord.2.2.1, hord.2.2.2.1⟩ hmv.out (.inr ⟨rfl, ra⟩) (.inl ⟨hm3, hr3⟩))
                  clear hm3 hr3
                  go_wp2_with fail
                  go_end0
                  exact ⟨l3, rfl, hs3, hB1.trans hb3, hE.out⟩
              · have hE := Lib.hid (sym_end hf.out ⟨hord.1, hord.2.1, hord.2.2.1, hord.2.2.2.1⟩ hmv.out (.inr ⟨rfl, ra⟩) (.inr ⟨rfl, rb⟩))
                have hra : ¬ a < i ∨ (a < i ∧ ¬ i < mid) := by omega
                have hrb : ¬ mid < e ∨ (mid < e ∧ ¬ e < b) := by omega
                rcases hra with ra1 | ⟨ra1, ra2⟩ <;> rcases hrb with rb1 | ⟨rb1, rb2⟩
                all_goals
                  go_wp2_with fail
                  go_end0
                  exact ⟨_, rfl, hs1, hB1, hE.out⟩

  · have hrng := Lib.hid (show Rng a m b mid a m from ⟨.inr ⟨by omega, rfl, rfl⟩, by omega, by omega, Hm2.out⟩)
    go_enter Try.func29, Try.ntmps29
    go_wp2
    go_loopw [20, 21] (fun u v wr => ∃ (i j k : Nat), u = .int .i64 i ∧ v = .int .i64 j ∧ a ≤ i ∧ i ≤ j ∧ j ≤ m ∧ wr = w.drewN k ∧ Hid (Lo K l (mid + m) (a) i) ∧ Hid (Hi K l (mid + m) (m) j)) (fun u v _ => (intOf v).toNat - (intOf u).toNat)
    case atStart => exact ⟨a, m, 0, by go_num, by go_num, Nat.le_refl _, by omega, Nat.le_refl _, rfl, Lib.hid (fun t h1 h2 => by omega), Lib.hid (fun t h1 h2 => by omega)⟩
    case round =>
      obtain ⟨i, j, k, rfl, rfl, hi, hij, hj, rfl, hlo, hhi⟩ := hrel
      by_cases hlt : i < j
      · obtain ⟨q, hq⟩ : ∃ q : Nat, ((i : Int) + j) / 2 = q := ⟨(i + j) / 2, by omega⟩
        have hq1 : i ≤ q := by omega
        have hq2 : q < j := by omega
        obtain ⟨d, hd⟩ : ∃ d : Nat, (mid : Int) + m - 1 - q = d := ⟨mid + m - 1 - q, by have := Hm2.out; omega⟩
        have hd1 : mid + m - 1 - q = d := by omega
        have cq := h.at q (by have := Hn.out; have := Hm2.out; omega)
        have cd := h.at d (by have := Hn.out; have := Hm2.out; omega)
        have hdb : (d : Int) < N := by have := Hm2.out; omega
        have hcall := fun k0 => hc.quiet2 (hlow d (by have := Hn.out; have := Hm2.out; omega)) (hlow q (by have := Hn.out; have := Hm2.out; omega)) k k0
        have ht := cmpV_neg D (l.getD d 0) (l.getD q 0)
        have hfr := Hx.out q d (by have := Hm2.out; omega) (by have := Hm2.out; omega) (by have := Hm2.out; omega) (by have := Hm2.out; omega)
        unfold Fair at hfr
        rw [hfr] at ht
        by_cases hK : K (l.getD d 0) < K (l.getD q 0)
        · rw [show decide (K (l.getD d 0) < K (l.getD q 0)) = true from by simpa using hK] at ht
          have hhi' := Lib.hid (hi_step hrng.out Hr1.out Hr2.out (c := q) ⟨by omega, by omega⟩ (by rw [hd1]; exact hK))
          clear hK hfr hhi hd1
          generalize hzz : cmpV D (l.getD d 0) (l.getD q 0) = z at *
          clear hzz
          go_wp2
          go_quiet ((go_at_call 24; exact hcall _))
          go_wp2
          exact ⟨⟨i, q, k + nq, rfl, rfl, hi, hq1, by omega, by first | rfl | exact World.drewN_drewN .., hlo, hhi'⟩, by first | (simp [intOf]; done) | (simp [intOf]; omega)⟩
        · rw [show decide (K (l.getD d 0) < K (l.getD q 0)) = false from by simpa using hK] at ht
          have hlo' := Lib.hid (lo_step hrng.out Hr1.out Hr2.out (c := q) ⟨hq1, by omega⟩ hi (by rw [hd1]; exact hK))
          clear hK hfr hlo hd1
          generalize hzz : cmpV D (l.getD d 0) (l.getD q 0) = z at *
          clear hzz
          go_wp2
          go_quiet ((go_at_call 24; exact hcall _))
          go_wp2
          exact ⟨⟨q + 1, j, k + nq, by go_num, rfl, by omega, by omega, hj, by first | rfl | exact World.drewN_drewN .., hlo', hhi⟩, by first | (simp [intOf]; done) | (simp [intOf]; omega)⟩
      · obtain rfl : i = j := by omega
        have hsl : SlB B (w.drewN k) g cap l := h.drawn k
        have hb : Below g w (w.drewN k) := below_drawn _ _ _
        have hc' := hc.on hb
        generalize w.drewN k = w0 at *
        clear h
        obtain ⟨e, he⟩ : ∃ e : Nat, (mid : Int) + m - i = e := ⟨mid + m - i, by have := Hm2.out; omega⟩
        have he1 : e = mid + m - i := by omega
        have hord : a ≤ i ∧ i ≤ mid ∧ mid ≤ e ∧ e ≤ b ∧ i ≤ m ∧ m ≤ e := by have := Hm2.out; omega
        have hfour := fun c hcc => four_of hrng.out Hr1.out Hr2.out Hx.out (s := i) (c := c) ⟨hi, hj⟩ hlo.out hhi.out hcc
        rw [← he1] at hfour
        have Hfour := Lib.hid hfour
        clear hfour he1 hlo hhi
        by_cases hrot : i < m ∧ m < e
        · obtain ⟨r1, r2⟩ := hrot
          have hrc := rotate_c B w0 g cap i m e N (.func (.func 24) #[] #[.pointer (some ⟨P, 0, none⟩)]) l Hn.out hs r1 r2 (by omega) hsl
          go_wp2_with fail
          refine hrc.mono ?_; rintro e0 w1 ⟨l1, rfl, hs1, hb1, hn1, hf1⟩
          have hf := Lib.hid (Hfour.out l1 hf1)
          have hmv := Lib.hid (Moved.wide (Moved.rot r1 r2 (by rw [hn1, Hn.out]) hf1) hord.1 hord.2.2.2.1)
          have hL1 := Lib.hid hn1
          clear hf1 hn1
          have hc1 := hc'.on hb1
          have hB1 := hb.trans hb1
          have hlw1 := (hmv.out).low (by have := Hn.out; omega) hlow
          by_cases ra : a < i ∧ i < mid
          · have k2 := ih a i mid ra.1 ra.2 (by omega) (by omega) w1 l1 hL1.out hs1 hlw1 hc1 hf.out.c1 hf.out.s1 hf.out.s2
            obtain ⟨ra1, ra2⟩ := ra
            go_wp2_with fail
            refine k2.mono ?_; rintro e0 w2 ⟨l2, rfl, hs2, hb2, hm2, hr2⟩
            have hm2' := Lib.hid hm2
            have hr2' := Lib.hid hr2
            have hL2 : Hid (l2.length = N) := Lib.hid (by rw [hm2.1, hL1.out])
            have hlw2 := hm2.low (by have := hL1.out; omega) hlw1
            clear hm2 hr2
            have hc2 := hc1.on hb2
            have hB2 := hB1.trans hb2
            by_cases rb : mid < e ∧ e < b
            · have k3 := ih mid e b rb.1 rb.2 (by omega) (by omega) w2 l2 hL2.out hs2 hlw2 hc2 (crs_out hm2'.out (Nat.le_refl _) hf.out.c2) (srt_out hm2'.out (.inr (Nat.le_refl _)) hf.out.s3) (srt_out hm2'.out (.inr (by omega)) hf.out.s4)
              obtain ⟨rb1, rb2⟩ := rb
              go_wp2_with fail
              refine k3.mono ?_; rintro e0 w3 ⟨l3, rfl, hs3, hb3, hm3, hr3⟩
              have hE := Lib.hid (sym_end hf.out ⟨hord.1, hord.2.1, hord.2.2.1, hord.2.2.2.1⟩ hmv.out (.inl ⟨hm2'.out, hr2'.out⟩) (.inl ⟨hm3, hr3⟩))
              clear hm3 hr3
              go_wp2_with fail
              go_end0
              exact ⟨l3, rfl, hs3, hB2.trans hb3, hE.out⟩
            · have hE := Lib.hid (sym_end hf.out ⟨hord.1, hord.2.1, hord.2.2.1, hord.2.2.2.1⟩ hmv.out (.inl ⟨hm2'.out, hr2'.out⟩) (.inr ⟨rfl, rb⟩))
              by_cases rb1 : mid < e
              · have rb2 : ¬ e < b := fun h => rb ⟨rb1, h⟩
                go_wp2_with fail
                go_end0
                exact ⟨l2, rfl, hs2, hB2, hE.out⟩
              · go_wp2_with fail
                go_end0
                exact ⟨l2, rfl, hs2, hB2, hE.out⟩
          · by_cases rb : mid < e ∧ e < b
            · have k3 := ih mid e b rb.1 rb.2 (by omega) (by omega) w1 l1 hL1.out hs1 hlw1 hc1 hf.out.c2 hf.out.s3 hf.out.s4
              obtain ⟨rb1, rb2⟩ := rb
              by_cases ra1 : a < i
              · have ra2 : ¬ i < mid := fun h => ra ⟨ra1, h⟩
                go_wp2_with fail
                refine k3.mono ?_; rintro e0 w3 ⟨l3, rfl, hs3, hb3, hm3, hr3⟩
                have hE := Lib.hid (sym_end hf.out ⟨hord.1, hord.2.1, hord.2.2.1, hord.2.2.2.1⟩ hmv.out (.inr ⟨rfl, ra⟩) (.inl ⟨hm3, hr3⟩))
                clear hm3 hr3
                go_wp2_with fail
                go_end0
                exact ⟨l3, rfl, hs3, hB1.trans hb3, hE.out⟩
              · go_wp2_with fail
                refine k3.mono ?_; rintro e0 w3 ⟨l3, rfl, hs3, hb3, hm3, hr3⟩
                have hE := Lib.hid (sym_end hf.out ⟨hord.1, hord.2.1, hord.2.2.1, hord.2.2.2.1⟩ hmv.out (.inr ⟨rfl, ra⟩) (.inl ⟨hm3, hr3⟩))
                clear hm3 hr3
                go_wp2_with fail
                go_end0
                exact ⟨l3, rfl, hs3, hB1.trans hb3, hE.out⟩
            · have hE := Lib.hid (sym_end hf.out ⟨hord.1, hord.2.1, hord.2.2.1, hord.2.2.2.1⟩ hmv.out (.inr ⟨rfl, ra⟩) (.inr ⟨rfl, rb⟩))
              have hra : ¬ a < i ∨ (a < i ∧ ¬ i < mid) := by omega
              have hrb : ¬ mid < e ∨ (mid < e ∧ ¬ e < b) := by omega
              rcases hra with ra1 | ⟨ra1, ra2⟩ <;> rcases hrb with rb1 | ⟨rb1, rb2⟩
              all_goals
                go_wp2_with fail
                go_end0
                exact ⟨_, rfl, hs1, hB1, hE.out⟩
        · have hf := Lib.hid (Hfour.out l (fun p => by congr 1; unfold rotI; (repeat' split) <;> omega))
          have hmv := Lib.hid (Moved.refl a b l)
          have hL1 := Hn
          have hc1 := hc'
          have hB1 := hb
          have hs1 := hsl
          clear hsl hb
          by_cases r1 : i < m
          · have r2 : ¬ m < e := fun h => hrot ⟨r1, h⟩
            have hlw1 := (hmv.out).low (by have := Hn.out; omega) hlow
            by_cases ra : a < i ∧ i < mid
            · have k2 := ih a i mid ra.1 ra.2 (by omega) (by omega) w0 l hL1.out hs1 hlw1 hc1 hf.out.c1 hf.out.s1 hf.out.s2
              obtain ⟨ra1, ra2⟩ := ra
              go_wp2_with fail
              refine k2.mono ?_; rintro e0 w2 ⟨l2, rfl, hs2, hb2, hm2, hr2⟩
              have hm2' := Lib.hid hm2
              have hr2' := Lib.hid hr2
              have hL2 : Hid (l2.length = N) := Lib.hid (by rw [hm2.1, hL1.out])
              have hlw2 := hm2.low (by have := hL1.out; omega) hlw1
              clear hm2 hr2
              have hc2 := hc1.on hb2
              have hB2 := hB1.trans hb2
              by_cases rb : mid < e ∧ e < b
              · have k3 := ih mid e b rb.1 rb.2 (by omega) (by omega) w2 l2 hL2.out hs2 hlw2 hc2 (crs_out hm2'.out (Nat.le_refl _) hf.out.c2) (srt_out hm2'.out (.inr (Nat.le_refl _)) hf.out.s3) (srt_out hm2'.out (.inr (by omega)) hf.out.s4)
                obtain ⟨rb1, rb2⟩ := rb
                go_wp2_with fail
                refine k3.mono ?_; rintro e0 w3 ⟨l3, rfl, hs3, hb3, hm3, hr3⟩
                have hE := Lib.hid (sym_end hf.out ⟨hord.1, hord.2.1, hord.2.2.1, hord.2.2.2.1⟩ hmv.out (.inl ⟨hm2'.out, hr2'.out⟩) (.inl ⟨hm3, hr3⟩))
                clear hm3 hr3
                go_wp2_with fail
                go_end0
                exact ⟨l3, rfl, hs3, hB2.trans hb3, hE.out⟩
              · have hE := Lib.hid (sym_end hf.out ⟨hord.1, hord.2.1, hord.2.2.1, hord.2.2.2.1⟩ hmv.out (.inl ⟨hm2'.out, hr2'.out⟩) (.inr ⟨rfl, rb⟩))
                by_cases rb1 : mid < e
                · have rb2 : ¬ e < b := fun h => rb ⟨rb1, h⟩
                  go_wp2_with fail
                  go_end0
                  exact ⟨l2, rfl, hs2, hB2, hE.out⟩
                · go_wp2_with fail
                  go_end0
                  exact ⟨l2, rfl, hs2, hB2, hE.out⟩
            · by_cases rb : mid < e ∧ e < b
              · have k3 := ih mid e b rb.1 rb.2 (by omega) (by omega) w0 l hL1.out hs1 hlw1 hc1 hf.out.c2 hf.out.s3 hf.out.s4
                obtain ⟨rb1, rb2⟩ := rb
                by_cases ra1 : a < i
                · have ra2 : ¬ i < mid := fun h => ra ⟨ra1, h⟩
                  go_wp2_with fail
                  refine k3.mono ?_; rintro e0 w3 ⟨l3, rfl, hs3, hb3, hm3, hr3⟩
                  have hE := Lib.hid (sym_end hf.out ⟨hord.1, hord.2.1, hord.2.2.1, hord.2.2.2.1⟩ hmv.out (.inr ⟨rfl, ra⟩) (.inl ⟨hm3, hr3⟩))
                  clear hm3 hr3
                  go_wp2_with fail
                  go_end0
                  exact ⟨l3, rfl, hs3, hB1.trans hb3, hE.out⟩
                · go_wp2_with fail
                  refine k3.mono ?_; rintro e0 w3 ⟨l3, rfl, hs3, hb3, hm3, hr3⟩
                  have hE := Lib.hid (sym_end hf.out ⟨hord.1, hord.2.1, hord.2.2.1, hord.2.2.2.1⟩ hmv.out (.inr ⟨rfl, ra⟩) (.inl ⟨hm3, hr3⟩))
                  clear hm3 hr3
                  go_wp2_with fail
                  go_end0
                  exact ⟨l3, rfl, hs3, hB1.trans hb3, hE.out⟩
              · have hE := Lib.hid (sym_end hf.out ⟨hord.1, hord.2.1, hord.2.2.1, hord.2.2.2.1⟩ hmv.out (.inr ⟨rfl, ra⟩) (.inr ⟨rfl, rb⟩))
                have hra : ¬ a < i ∨ (a < i ∧ ¬ i < mid) := by omega
                have hrb : ¬ mid < e ∨ (mid < e ∧ ¬ e < b) := by omega
                rcases hra with ra1 | ⟨ra1, ra2⟩ <;> rcases hrb with rb1 | ⟨rb1, rb2⟩
                all_goals
                  go_wp2_with fail
                  go_end0
                  exact ⟨_, rfl, hs1, hB1, hE.out⟩
          · have hlw1 := (hmv.out).low (by have := Hn.out; omega) hlow
            by_cases ra : a < i ∧ i < mid
            · have k2 := ih a i mid ra.1 ra.2 (by omega) (by omega) w0 l hL1.out hs1 hlw1 hc1 hf.out.c1 hf.out.s1 hf.out.s2
              obtain ⟨ra1, ra2⟩ := ra
              go_wp2_with fail
              refine k2.mono ?_; rintro e0 w2 ⟨l2, rfl, hs2, hb2, hm2, hr2⟩
              have hm2' := Lib.hid hm2
              have hr2' := Lib.hid hr2
              have hL2 : Hid (l2.length = N) := Lib.hid (by rw [hm2.1, hL1.out])
              have hlw2 := hm2.low (by have := hL1.out; omega) hlw1
              clear hm2 hr2
              have hc2 := hc1.on hb2
              have hB2 := hB1.trans hb2
              by_cases rb : mid < e ∧ e < b
              · have k3 := ih mid e b rb.1 rb.2 (by omega) (by omega) w2 l2 hL2.out hs2 hlw2 hc2 (crs_out hm2'.out (Nat.le_refl _) hf.out.c2) (srt_out hm2'.out (.inr (Nat.le_refl _)) hf.out.s3) (srt_out hm2'.out (.inr (by omega)) hf.out.s4)
                obtain ⟨rb1, rb2⟩ := rb
                go_wp2_with fail
                refine k3.mono ?_; rintro e0 w3 ⟨l3, rfl, hs3, hb3, hm3, hr3⟩
                have hE := Lib.hid (sym_end hf.out ⟨hord.1, hord.2.1, hord.2.2.1, hord.2.2.2.1⟩ hmv.out (.inl ⟨hm2'.out, hr2'.out⟩) (.inl ⟨hm3, hr3⟩))
                clear hm3 hr3
                go_wp2_with fail
                go_end0
                exact ⟨l3, rfl, hs3, hB2.trans hb3, hE.out⟩
              · have hE := Lib.hid (sym_end hf.out ⟨hord.1, hord.2.1, hord.2.2.1, hord.2.2.2.1⟩ hmv.out (.inl ⟨hm2'.out, hr2'.out⟩) (.inr ⟨rfl, rb⟩))
                by_cases rb1 : mid < e
                · have rb2 : ¬ e < b := fun h => rb ⟨rb1, h⟩
                  go_wp2_with fail
                  go_end0
                  exact ⟨l2, rfl, hs2, hB2, hE.out⟩
                · go_wp2_with fail
                  go_end0
                  exact ⟨l2, rfl, hs2, hB2, hE.out⟩
            · by_cases rb : mid < e ∧ e < b
              · have k3 := ih mid e b rb.1 rb.2 (by omega) (by omega) w0 l hL1.out hs1 hlw1 hc1 hf.out.c2 hf.out.s3 hf.out.s4
                obtain ⟨rb1, rb2⟩ := rb
                by_cases ra1 : a < i
                · have ra2 : ¬ i < mid := fun h => ra ⟨ra1, h⟩
                  go_wp2_with fail
                  refine k3.mono ?_; rintro e0 w3 ⟨l3, rfl, hs3, hb3, hm3, hr3⟩
                  have hE := Lib.hid (sym_end hf.out ⟨hord.1, hord.2.1, hord.2.2.1, hord.2.2.2.1⟩ hmv.out (.inr ⟨rfl, ra⟩) (.inl ⟨hm3, hr3⟩))
                  clear hm3 hr3
                  go_wp2_with fail
                  go_end0
                  exact ⟨l3, rfl, hs3, hB1.trans hb3, hE.out⟩
                · go_wp2_with fail
                  refine k3.mono ?_; rintro e0 w3 ⟨l3, rfl, hs3, hb3, hm3, hr3⟩
                  have hE := Lib.hid (sym_end hf.out ⟨hord.1, hord.2.1, hord.2.2.1, hord.2.2.2.1⟩ hmv.out (.inr ⟨rfl, ra⟩) (.inl ⟨hm3, hr3⟩))
                  clear hm3 hr3
                  go_wp2_with fail
                  go_end0
                  exact ⟨l3, rfl, hs3, hB1.trans hb3, hE.out⟩
              · have hE := Lib.hid (sym_end hf.out ⟨hord.1, hord.2.1, hord.2.2.1, hord.2.2.2.1⟩ hmv.out (.inr ⟨rfl, ra⟩) (.inr ⟨rfl, rb⟩))
                have hra : ¬ a < i ∨ (a < i ∧ ¬ i < mid) := by omega
                have hrb : ¬ mid < e ∨ (mid < e ∧ ¬ e < b) := by omega
                rcases hra with ra1 | ⟨ra1, ra2⟩ <;> rcases hrb with rb1 | ⟨rb1, rb2⟩
                all_goals
                  go_wp2_with fail
                  go_end0
                  exact ⟨_, rfl, hs1, hB1, hE.out⟩


theorem sym_c (D : Nat → Nat → Bool) (K : Nat → Nat) (B n P g cap N : Nat) (hs : N ≤ 1000000) : ∀ (s a m b : Nat), b - a ≤ s → a < m → m < b → b ≤ N → SymSays D K B n P g cap N a m b := by
  intro s
  induction s with
  | zero => intro a m b h1 h2 h3; omega
  | succ s ih =>
    intro a m b h1 h2 h3 h4
    by_cases c1 : m = a + 1
    · subst c1
      intro w l hN h hlow hc hx hr1 hr2
      exact symA_c D K B n P w g cap a b N l hN hs h3 h4 h hlow hc hx hr2
    · by_cases c2 : b = m + 1
      · subst c2
        intro w l hN h hlow hc hx hr1 hr2
        exact symB_c D K B n P w g cap a m N l hN hs (by omega) h4 h hlow hc hx hr1
      · exact symC_c D K B n P g cap N a m b hs (by omega) (by omega) h4 fun a' m' b' g1 g2 g3 g4 => ih a' m' b' (by omega) g1 g2 g3
end Go.Proofs.Ytpkokolhmcophaa.sl
