/- The walk of WeighJoined. -/
import Derived.Test.YtpkokolhmcophaaBest
import Derived.Test.YtpkokolhmcophaaFArr
namespace Go.Proofs.Ytpkokolhmcophaa.sl
open Go.RowKit Go.Proofs.Ytpkokolhmcophaa.fl

theorem rk_le_iff {fs : List Nat} {i j : Nat} (hi : i < fs.length) (hj : j < fs.length) : rk fs i ≤ rk fs j ↔ bef fs j i = false := by
  constructor
  · intro h
    cases e : bef fs j i
    · rfl
    · have := rk_lt hj e; omega
  · intro h
    by_cases c : i = j
    · rw [c]; exact Nat.le_refl _
    · rcases bef_total fs c with h1 | h1
      · exact Nat.le_of_lt (rk_lt hi h1)
      · rw [h] at h1; cases h1
theorem ap_left {a b : List Nat} {i : Nat} (h : i < a.length) : (a ++ b).getD i 0 = a.getD i 0 := by
  rw [List.getD_eq_getElem?_getD, List.getElem?_append_left h, ← List.getD_eq_getElem?_getD]
theorem ap_right (a b : List Nat) (i : Nat) : (a ++ b).getD (a.length + i) 0 = b.getD i 0 := by
  rw [List.getD_eq_getElem?_getD, List.getElem?_append_right (by omega), Nat.add_sub_cancel_left, ← List.getD_eq_getElem?_getD]
theorem bef_left {a b : List Nat} {i j : Nat} (hi : i < a.length) (hj : j < a.length) : bef (a ++ b) i j = bef a i j := by
  unfold bef ahead; rw [ap_left hi, ap_left hj]
theorem bef_right (a b : List Nat) (i j : Nat) : bef (a ++ b) (a.length + i) (a.length + j) = bef b i j := by
  unfold bef ahead; rw [ap_right, ap_right]
  simp
theorem best_nil {fs : List Nat} {r : Int} (h : BestOf fs [] fs.length r) : (r = -1 ∧ fs = []) ∨ ∃ b : Nat, r = b ∧ b < fs.length ∧ ∀ i, i < fs.length → rk fs b ≤ rk fs i := by
  rcases h with ⟨h1, h2⟩ | ⟨b, h1, h2, _, h4⟩
  · refine .inl ⟨h1, List.eq_nil_of_length_eq_zero ?_⟩
    refine Nat.le_antisymm (Nat.le_of_not_lt fun c => ?_) (Nat.zero_le _)
    have := h2 0 c; simp [sk] at this
  · exact .inr ⟨b, h1, h2, fun i hi => h4 i hi (by simp [sk])⟩
theorem best_two {a b : List Nat} {x y : Nat} (hx : x < a.length) (hy : y < b.length) (hbx : ∀ i, i < a.length → rk a x ≤ rk a i) (hby : ∀ i, i < b.length → rk b y ≤ rk b i) :
    BestOf (a ++ b) [] (a ++ b).length (if less (b.getD y 0) (a.getD x 0) = true then ((a.length + y : Nat) : Int) else x) := by
  have hl : (a ++ b).length = a.length + b.length := by simp
  have A : ∀ i, i < a.length → rk (a ++ b) x ≤ rk (a ++ b) i := fun i hi => by
    rw [rk_le_iff (by omega) (by omega), bef_left hi hx, ← rk_le_iff hx hi]; exact hbx i hi
  have B : ∀ i, i < b.length → rk (a ++ b) (a.length + y) ≤ rk (a ++ b) (a.length + i) := fun i hi => by
    rw [rk_le_iff (by omega) (by omega), bef_right, ← rk_le_iff hy hi]; exact hby i hi
  have hah : ahead (a ++ b) (a.length + y) x = less (b.getD y 0) (a.getD x 0) := by unfold ahead; rw [ap_right, ap_left hx]
  by_cases c : less (b.getD y 0) (a.getD x 0) = true
  · rw [if_pos c]
    have hlt : rk (a ++ b) (a.length + y) < rk (a ++ b) x := rk_lt (by omega) (by unfold bef; rw [hah, c]; rfl)
    refine .inr ⟨a.length + y, rfl, by omega, by simp [sk], fun i hi _ => ?_⟩
    by_cases ci : i < a.length
    · have := A i ci; omega
    · have := B (i - a.length) (by omega); rw [show a.length + (i - a.length) = i by omega] at this; exact this
  · rw [if_neg c]
    have hlt : rk (a ++ b) x < rk (a ++ b) (a.length + y) := rk_lt (by omega) (by
      unfold bef; rw [hah, show less (b.getD y 0) (a.getD x 0) = false by simpa using c]
      simp; right; omega)
    refine .inr ⟨x, rfl, by omega, by simp [sk], fun i hi _ => ?_⟩
    by_cases ci : i < a.length
    · exact A i ci
    · have := B (i - a.length) (by omega); rw [show a.length + (i - a.length) = i by omega] at this; omega
theorem brow_nil (w : World) : BRow w none 0 [] := ⟨Nat.le_refl _, Nat.zero_le _, fun _ hi => absurd hi (Nat.not_lt_zero _)⟩

theorem best_b (w : World) (a a2 : Option Addr) (cap cap2 : Nat) (fs : List Nat) (bs : List Bool) (h : FRow w a cap fs) (h2 : BRow w a2 cap2 bs) :
    Calls Try.prog 14 #[.slice a fs.length cap, .slice a2 bs.length cap2] w (BestRet2 w fs bs) :=
  (best_c w a a2 cap cap2 fs bs h h2).mono fun _ _ ⟨r, h1, h2, k, h3⟩ => ⟨r, h1, h2, by rw [h3]; exact below_drawn _ _ _⟩

set_option maxRecDepth 100000 in
set_option maxHeartbeats 4000000 in
theorem weighJoined_walk (a0 : Option Addr) (cap0 : Nat) (z0 : List Nat) (a1 : Option Addr) (cap1 : Nat) (z1 : List Nat) (w : World) (h0 : FRow w a0 cap0 z0) (h1 : FRow w a1 cap1 z1) :
    Calls Try.prog 4 #[.slice a0 z0.length cap0, .slice a1 z1.length cap1] w fun e w' => e = .returned (.bool true) ∧ Below w.heap.size w w' := by
  have m0 := h0.2.1
  have m1 := h1.2.1
  have l0 := h0.1
  have l1 := h1.1
  unfold maxLen at m0 m1
  by_cases hbig : 128 < z0.length ∨ 128 < z1.length
  · by_cases hb0 : 128 < z0.length
    · go_enter Try.func4, Try.ntmps4
      go_wp2
      go_ret
      exact ⟨rfl, Below.refl _ _⟩
    · have hb1 : 128 < z1.length := by omega
      go_enter Try.func4, Try.ntmps4
      go_wp2
      go_ret
      exact ⟨rfl, Below.refl _ _⟩
  · have hs0 : z0.length ≤ 128 := by omega
    have hs1 : z1.length ≤ 128 := by omega
    clear hbig
    have hW0 := Lib.hid h0
    have hW1 := Lib.hid h1
    have hwf : ∀ x ∈ z0 ++ z1, x < 2 ^ 64 := fun x hx => (List.mem_append.1 hx).elim (h0.2.2.1 x) (h1.2.2.1 x)
    have HWF := Lib.hid hwf
    clear h0 h1 hwf
    go_enter Try.func4, Try.ntmps4
    go_wp2_with (at_builtin; refine wpList_fspread rfl _ _ rfl w.heap.size _ w.heap.size 0 0 [] rfl rfl (FlB.empty _ _ (Nat.le_refl _)) a0 z0.length cap0 z0 rfl rfl (hW0.out.kept ((Below.refl w.heap.size w).alloc (Nat.le_refl _) _) rfl) (by omega) (by go_size) z0.length (Nat.zero_add _) ?e1)
    case e1 =>
      intro g1 c1 w1 hf1 hb1
      try rw [List.nil_append] at hf1
      have hB1 : Below w.heap.size w w1 := ((Below.refl _ _).alloc (Nat.le_refl _) _).trans hb1
      go_wp2_with (at_builtin; refine wpList_fspread rfl _ _ rfl w.heap.size _ g1 z0.length c1 z0 rfl rfl hf1 a1 z1.length cap1 z1 rfl rfl (hW1.out.kept hB1 rfl) (by omega) hB1.size (z0.length + z1.length) rfl ?e2)
      case e2 =>
        intro g2 c2 w2 hf2 hb2
        have hB2 : Below w.heap.size w w2 := hB1.trans hb2
        have hrow2 := Lib.hid (FlB.row hf2 HWF.out)
        clear hf1 hb1 hf2 hb2
        have k1 := best_b w2 a0 none cap0 0 z0 [] (hW0.out.kept hB2 rfl) (brow_nil _)
        rw [List.length_nil] at k1
        go_wp2_with fail
        refine k1.mono ?_; rintro e w3 ⟨x, rfl, hx, hb3⟩
        have hB3 := hB2.trans (hb3.mono hB2.size)
        have k2 := best_b w3 a1 none cap1 0 z1 [] (hW1.out.kept hB3 rfl) (brow_nil _)
        rw [List.length_nil] at k2
        have Hx := Lib.hid hx
        clear hx k1
        go_wp2_with fail
        refine k2.mono ?_; rintro e w4 ⟨y, rfl, hy, hb4⟩
        have hB4 := hB3.trans (hb4.mono hB3.size)
        have k3 := best_b w4 (some ⟨g2, 0, none⟩) none c2 0 (z0 ++ z1) [] (hrow2.out.kept (hb3.trans (hb4.mono hb3.size)) rfl) (brow_nil _)
        rw [List.length_nil, List.length_append] at k3
        have Hy := Lib.hid hy
        clear hy k2
        go_wp2_with fail
        refine k3.mono ?_; rintro e w5 ⟨z, rfl, hz, hb5⟩
        have hB5 := hB4.trans (hb5.mono hB4.size)
        have Hz := Lib.hid hz
        clear hz k3
        have k4 := refBest_c w5 a0 none cap0 0 z0 [] (hW0.out.kept hB5 rfl) (brow_nil _) (by omega)
        rw [List.length_nil] at k4
        have hcases : ((x = -1 ∧ z0 = []) ∨ ∃ b : Nat, x = b ∧ b < z0.length ∧ ∀ i, i < z0.length → rk z0 b ≤ rk z0 i) ∧ ((y = -1 ∧ z1 = []) ∨ ∃ b : Nat, y = b ∧ b < z1.length ∧ ∀ i, i < z1.length → rk z1 b ≤ rk z1 i) := ⟨best_nil Hx.out, best_nil Hy.out⟩
        rcases hcases with ⟨hcx, hcy⟩
        rcases hcx with ⟨rfl, rfl⟩ | ⟨bx, rfl, hbx, hmx⟩
        · obtain rfl : z = y := best_unique (fs := z1) (bs := []) Hz.out Hy.out
          by_cases hz0 : z < 0
          · go_wp2_with fail
            refine k4.mono ?_; rintro e w6 ⟨x', rfl, hx', hb6⟩
            obtain rfl := best_unique hx' Hx.out
            have hB6 := hB5.trans (hb6.mono hB5.size)
            have k5 := refBest_c w6 a1 none cap1 0 z1 [] (hW1.out.kept hB6 rfl) (brow_nil _) (by omega)
            rw [List.length_nil] at k5
            clear hx'
            go_wp2_with fail
            refine k5.mono ?_; rintro e w7 ⟨y', rfl, hy', hb7⟩
            obtain rfl := best_unique hy' Hy.out
            have hB7 := hB6.trans (hb7.mono hB6.size)
            clear hy' k4 k5
            go_wp2_with fail
            go_ret
            exact ⟨rfl, hB7⟩
          · go_wp2_with fail
            refine k4.mono ?_; rintro e w6 ⟨x', rfl, hx', hb6⟩
            obtain rfl := best_unique hx' Hx.out
            have hB6 := hB5.trans (hb6.mono hB5.size)
            have k5 := refBest_c w6 a1 none cap1 0 z1 [] (hW1.out.kept hB6 rfl) (brow_nil _) (by omega)
            rw [List.length_nil] at k5
            clear hx'
            go_wp2_with fail
            refine k5.mono ?_; rintro e w7 ⟨y', rfl, hy', hb7⟩
            obtain rfl := best_unique hy' Hy.out
            have hB7 := hB6.trans (hb7.mono hB6.size)
            clear hy' k4 k5
            go_wp2_with fail
            go_ret
            exact ⟨rfl, hB7⟩
        · rcases hcy with ⟨rfl, rfl⟩ | ⟨by', rfl, hby, hmy⟩
          · obtain rfl : z = (bx : Int) := best_unique (fs := z0) (bs := []) (by have := Hz.out; rwa [List.append_nil] at this) Hx.out
            go_wp2_with fail
            refine k4.mono ?_; rintro e w6 ⟨x', rfl, hx', hb6⟩
            obtain rfl := best_unique hx' Hx.out
            have hB6 := hB5.trans (hb6.mono hB5.size)
            have k5 := refBest_c w6 a1 none cap1 0 [] [] (hW1.out.kept hB6 rfl) (brow_nil _) (by omega)
            rw [List.length_nil] at k5
            clear hx'
            go_wp2_with fail
            refine k5.mono ?_; rintro e w7 ⟨y', rfl, hy', hb7⟩
            obtain rfl := best_unique hy' Hy.out
            have hB7 := hB6.trans (hb7.mono hB6.size)
            clear hy' k4 k5
            go_wp2_with fail
            go_ret
            exact ⟨rfl, hB7⟩
          · have hz2 := best_unique Hz.out (best_two hbx hby hmx hmy)
            have Hmx := Lib.hid hmx
            have Hmy := Lib.hid hmy
            clear hmx hmy
            have hr0 : z0.getD bx 0 = z0[bx] := getD_get z0 bx hbx
            have hr1 : z1.getD by' 0 = z1[by'] := getD_get z1 by' hby
            rw [hr0, hr1] at hz2
            have kl := less_c z1[by'] z0[bx]
            clear hr0 hr1
            by_cases hd : less z1[by'] z0[bx] = true
            · rw [if_pos hd] at hz2
              rw [hd] at kl
              obtain rfl := hz2
              clear hd
              go_wp2_with fail
              refine k4.mono ?_; rintro e w6 ⟨x', rfl, hx', hb6⟩
              obtain rfl := best_unique hx' Hx.out
              have hB6 := hB5.trans (hb6.mono hB5.size)
              have k5 := refBest_c w6 a1 none cap1 0 z1 [] (hW1.out.kept hB6 rfl) (brow_nil _) (by omega)
              rw [List.length_nil] at k5
              clear hx'
              go_wp2_with fail
              refine k5.mono ?_; rintro e w7 ⟨y', rfl, hy', hb7⟩
              obtain rfl := best_unique hy' Hy.out
              have hB7 := hB6.trans (hb7.mono hB6.size)
              clear hy' k4 k5
              obtain ⟨ad0, rfl, hcl0⟩ := (hW0.out.kept hB7 rfl).cells hbx
              obtain ⟨ad1, rfl, hcl1⟩ := (hW1.out.kept hB7 rfl).cells hby
              have cx := hcl0 bx hbx
              have cy := hcl1 by' hby
              clear hcl0 hcl1
              generalize z0[bx] = p at *
              generalize z1[by'] = q at *
              go_wp2_with fail
              go_quiet ((go_at_call 13; first | exact still kl | exact still0 kl))
              go_wp2_with fail
              go_ret
              exact ⟨rfl, hB7.trans (below_drawn _ _ _)⟩
            · rw [if_neg hd] at hz2
              rw [show less z1[by'] z0[bx] = false by simpa using hd] at kl
              obtain rfl := hz2
              clear hd
              go_wp2_with fail
              refine k4.mono ?_; rintro e w6 ⟨x', rfl, hx', hb6⟩
              obtain rfl := best_unique hx' Hx.out
              have hB6 := hB5.trans (hb6.mono hB5.size)
              have k5 := refBest_c w6 a1 none cap1 0 z1 [] (hW1.out.kept hB6 rfl) (brow_nil _) (by omega)
              rw [List.length_nil] at k5
              clear hx'
              go_wp2_with fail
              refine k5.mono ?_; rintro e w7 ⟨y', rfl, hy', hb7⟩
              obtain rfl := best_unique hy' Hy.out
              have hB7 := hB6.trans (hb7.mono hB6.size)
              clear hy' k4 k5
              obtain ⟨ad0, rfl, hcl0⟩ := (hW0.out.kept hB7 rfl).cells hbx
              obtain ⟨ad1, rfl, hcl1⟩ := (hW1.out.kept hB7 rfl).cells hby
              have cx := hcl0 bx hbx
              have cy := hcl1 by' hby
              clear hcl0 hcl1
              generalize z0[bx] = p at *
              generalize z1[by'] = q at *
              go_wp2_with fail
              go_quiet ((go_at_call 13; first | exact still kl | exact still0 kl))
              go_wp2_with fail
              go_ret
              exact ⟨rfl, hB7.trans (below_drawn _ _ _)⟩
end Go.Proofs.Ytpkokolhmcophaa.sl
