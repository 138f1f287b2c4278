/- Plain arithmetic of 64-bit integers, for the layer num: no program in sight. -/
import Derived.WalkKit
namespace Go.Proofs.Ytpfkcllincfpkaa.nm
open Go.RowKit

/-- it fits 64 bits -/
def Fit (n : Int) : Prop := -9223372036854775808 ≤ n ∧ n ≤ 9223372036854775807
instance (n : Int) : Decidable (Fit n) := by unfold Fit; infer_instance

theorem fit_wf {n : Int} (h : (Lit.int .i64 n).wf = true) : Fit n := by
  simpa [Lit.wf, IntKind.min, IntKind.max, IntKind.signed, IntKind.bits, Fit] using h

/-- a result, or 0 beyond 64 bits; its error -/
def val (n : Int) : Int := if Fit n then n else 0
def err (n : Int) : Int := if Fit n then 0 else 10

theorem val_fit (n : Int) : Fit (val n) := by
  unfold val; split
  · assumption
  · unfold Fit; omega
theorem val_of {n : Int} (h : Fit n) : val n = n := if_pos h
theorem err_of {n : Int} (h : Fit n) : err n = 0 := if_pos h
theorem val_no {n : Int} (h : ¬ Fit n) : val n = 0 := if_neg h
theorem err_no {n : Int} (h : ¬ Fit n) : err n = 10 := if_neg h
theorem err_cases (n : Int) : err n = 0 ∧ val n = n ∧ Fit n ∨ err n = 10 ∧ val n = 0 ∧ ¬ Fit n := by
  by_cases h : Fit n
  · exact .inl ⟨err_of h, val_of h, h⟩
  · exact .inr ⟨err_no h, val_no h, h⟩

theorem wrap_fit {n : Int} (h : Fit n) : wrap64 n = n := by unfold wrap64; unfold Fit at h; omega
theorem wrap_is_fit (n : Int) : Fit (wrap64 n) := by unfold wrap64 Fit; omega
theorem wrap_mod (n : Int) : ∃ k : Int, wrap64 n = n + 18446744073709551616 * k := by
  unfold wrap64; exact ⟨-((n + 9223372036854775808) / 18446744073709551616), by omega⟩
theorem least_fit : Fit (-9223372036854775808) := by unfold Fit; omega
theorem small_fit {n : Int} (h : -1000000 ≤ n ∧ n ≤ 1000000) : Fit n := by unfold Fit; omega

/-! ### dividing -/
theorem tdiv_abs_le (a b : Int) (hb : b ≠ 0) (hb1 : b ≠ -1) (ha : Fit a) : Fit (a.tdiv b) := by
  have h := Int.natAbs_tdiv a b
  by_cases h1 : b = 1
  · subst h1; rw [Int.tdiv_one]; exact ha
  · have h2 : a.natAbs.div b.natAbs ≤ a.natAbs / 2 := Nat.div_le_div_left (by omega) (by omega)
    unfold Fit at *; omega
theorem tdiv_neg_one (a : Int) : a.tdiv (-1) = -a := by
  rw [Int.tdiv_neg, Int.tdiv_one]
theorem tdiv_fit {a b : Int} (ha : Fit a) (hb : b ≠ 0) (h : ¬ (a = -9223372036854775808 ∧ b = -1)) : Fit (a.tdiv b) := by
  by_cases h1 : b = -1
  · subst h1; rw [tdiv_neg_one]; unfold Fit at *; omega
  · exact tdiv_abs_le a b hb h1 ha
theorem tdiv_least : ¬ Fit ((-9223372036854775808 : Int).tdiv (-1)) := by rw [tdiv_neg_one]; unfold Fit; omega
theorem natAbs_tmod_lt (a b : Int) (hb : b ≠ 0) : (a.tmod b).natAbs < b.natAbs := by
  rw [Int.natAbs_tmod]; exact Nat.mod_lt _ (by omega)
theorem tmod_fit {a b : Int} (ha : Fit a) : Fit (a.tmod b) := by
  have h := Int.natAbs_tmod a b
  have h2 : a.natAbs % b.natAbs ≤ a.natAbs := Nat.mod_le _ _
  have h3 : 0 ≤ a → 0 ≤ a.tmod b := fun h => Int.tmod_nonneg b h
  have h4 : a ≤ 0 → a.tmod b ≤ 0 := fun h => by
    have := Int.tmod_nonneg (a := -a) b (by omega)
    rw [Int.neg_tmod] at this; omega
  unfold Fit at *; omega

/-- whether the cut-off quotient lies above the true one -/
def lean (r b : Int) : Bool := decide (r ≠ 0) && (decide (r < 0) != decide (b < 0))
theorem tmod_sign (a b : Int) : (0 ≤ a → 0 ≤ a.tmod b) ∧ (a ≤ 0 → a.tmod b ≤ 0) := by
  refine ⟨fun h => Int.tmod_nonneg b h, fun h => ?_⟩
  have := Int.tmod_nonneg (a := -a) b (by omega)
  rw [Int.neg_tmod] at this; omega
theorem fdiv_is (a b : Int) (hb : b ≠ 0) : a.fdiv b = if lean (a.tmod b) b then a.tdiv b - 1 else a.tdiv b := by
  rw [Int.fdiv_eq_tdiv]
  have hs := tmod_sign a b
  have hd : b ∣ a ↔ a.tmod b = 0 := Int.dvd_iff_tmod_eq_zero
  unfold lean
  by_cases h0 : a.tmod b = 0
  · simp [h0, hd]
  · have hd' : ¬ b ∣ a := by rw [hd]; exact h0
    have ha0 : a ≠ 0 := by intro h; subst h; simp at h0
    rw [if_neg hd']
    rcases Int.lt_or_gt_of_ne hb with h1 | h1
    · have hsg : b.sign = -1 := Int.sign_eq_neg_one_of_neg h1
      by_cases h2 : 0 ≤ a
      · have := hs.1 h2; simp [h2, h0, h1, show ¬ (0 ≤ b) from by omega, show ¬ a.tmod b < 0 from by omega]
      · have := hs.2 (by omega); simp [h2, h0, h1, show ¬ (0 ≤ b) from by omega, show a.tmod b < 0 from by omega, hsg]
    · have hsg : b.sign = 1 := Int.sign_eq_one_of_pos h1
      by_cases h2 : 0 ≤ a
      · have := hs.1 h2; simp [h2, h0, show ¬ b < 0 from by omega, show 0 ≤ b from by omega, show ¬ a.tmod b < 0 from by omega]
      · have := hs.2 (by omega); simp [h2, h0, show ¬ b < 0 from by omega, show 0 ≤ b from by omega, show a.tmod b < 0 from by omega, hsg]
theorem fmod_is (a b : Int) (hb : b ≠ 0) : a.fmod b = if lean (a.tmod b) b then a.tmod b + b else a.tmod b := by
  have h1 := Int.mul_fdiv_add_fmod a b
  have h2 := Int.mul_tdiv_add_tmod a b
  have h3 := fdiv_is a b hb
  split at h3 <;> rename_i hl
  · rw [if_pos hl]; rw [h3, Int.mul_sub] at h1; omega
  · rw [if_neg hl]; rw [h3] at h1; omega
theorem lean_bd (a b : Int) (hb : b ≠ 0) (h : lean (a.tmod b) b = true) : a.tmod b ≠ 0 ∧ (a.tmod b < 0 ∧ 0 < b ∨ 0 < a.tmod b ∧ b < 0) := by
  unfold lean at h
  simp at h
  refine ⟨h.1, ?_⟩
  have h2 := h.2
  by_cases c1 : a.tmod b < 0 <;> by_cases c2 : b < 0 <;> simp [c1, c2] at h2 <;> omega
theorem fdiv_fit {a b : Int} (ha : Fit a) (hb : b ≠ 0) (h : ¬ (a = -9223372036854775808 ∧ b = -1)) : Fit (a.fdiv b) := by
  rw [fdiv_is a b hb]
  have hq := tdiv_fit ha hb h
  split
  · rename_i hl
    have h3 := lean_bd a b hb hl
    by_cases h1 : b = 1
    · subst h1; simp at h3
    · by_cases h2 : b = -1
      · subst h2; simp at h3
      · have h4 := Int.natAbs_tdiv a b
        have h5 : a.natAbs.div b.natAbs ≤ a.natAbs / 2 := Nat.div_le_div_left (by omega) (by omega)
        unfold Fit at *; omega
  · exact hq
theorem fmod_fit {a b : Int} (ha : Fit a) (hbf : Fit b) (hb : b ≠ 0) : Fit (a.fmod b) := by
  rw [fmod_is a b hb]
  have hq := tmod_fit (b := b) ha
  split
  · rename_i hl; have h3 := lean_bd a b hb hl; unfold Fit at *; omega
  · exact hq
theorem fdiv_least : ¬ Fit ((-9223372036854775808 : Int).fdiv (-1)) := by
  have : (-9223372036854775808 : Int).fdiv (-1) = 9223372036854775808 := by decide
  rw [this]; unfold Fit; omega

/-- what the four come to, and their errors -/
def quoV (a b : Int) : Int := if b = 0 then 0 else val (a.tdiv b)
def quoE (a b : Int) : Int := if b = 0 then 11 else err (a.tdiv b)
def remV (a b : Int) : Int := if b = 0 then 0 else a.tmod b
def remE (b : Int) : Int := if b = 0 then 11 else 0
def divV (a b : Int) : Int := if b = 0 then 0 else val (a.fdiv b)
def divE (a b : Int) : Int := if b = 0 then 11 else err (a.fdiv b)
def modV (a b : Int) : Int := if b = 0 then 0 else a.fmod b

/-! ### a product, divided back -/
theorem mul_back {a b : Int} (ha : Fit a) (hb : Fit b) (hb0 : b ≠ 0) (h : ¬ (a = -9223372036854775808 ∧ b = -1)) (hf : ¬ Fit (a * b)) :
    wrap64 ((wrap64 (a * b)).tdiv b) ≠ a := by
  have hb1 : b ≠ -1 := by
    intro h1; subst h1; apply hf
    unfold Fit at *; omega
  rw [wrap_fit (tdiv_abs_le _ _ hb0 hb1 (wrap_is_fit _))]
  intro h2
  have h3 := Int.mul_tdiv_add_tmod (wrap64 (a * b)) b
  rw [h2] at h3
  obtain ⟨k, hk⟩ := wrap_mod (a * b)
  have h4 := natAbs_tmod_lt (wrap64 (a * b)) b hb0
  have h5 : (wrap64 (a * b)).tmod b = 18446744073709551616 * k := by
    have : b * a = a * b := Int.mul_comm _ _
    omega
  have h6 : k = 0 := by rw [h5] at h4; unfold Fit at hb; omega
  subst h6
  apply hf
  have := wrap_is_fit (a * b)
  rw [hk] at this
  simpa using this
theorem mul_least : ¬ Fit ((-9223372036854775808 : Int) * (-1)) := by unfold Fit; omega

end Go.Proofs.Ytpfkcllincfpkaa.nm
