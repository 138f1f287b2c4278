/- Plain arithmetic of powers and shifts of 64-bit integers. -/
import Derived.Test.YtpfkcllincfpkaaNumMath
namespace Go.Proofs.Ytpfkcllincfpkaa.nm
open Go.RowKit

theorem pow_ge (k n : Nat) (h : k ≤ n) : (2 : Int) ^ k ≤ 2 ^ n := by
  have := Nat.pow_le_pow_right (show 0 < 2 by omega) h
  have e : ∀ i : Nat, (2 : Int) ^ i = ((2 ^ i : Nat) : Int) := fun i => by rw [Int.natCast_pow]; rfl
  rw [e, e]; exact Int.ofNat_le.2 this
theorem pow_pos2 (n : Nat) : (0 : Int) < 2 ^ n := Int.pow_pos (by omega)
theorem p63 : (2 : Int) ^ 63 = 9223372036854775808 := by decide
theorem p64 : (2 : Int) ^ 64 = 18446744073709551616 := by decide

theorem div_big {a P : Int} (ha : Fit a) (hP : 9223372036854775808 ≤ P) : a / P = if a < 0 then -1 else 0 := by
  unfold Fit at ha
  split
  · rw [show (-1 : Int) = -1 from rfl]
    exact Int.ediv_eq_neg_one_of_neg_of_le (by omega) (by omega)
  · exact Int.ediv_eq_zero_of_lt (by omega) (by omega)
theorem shr_min {a : Int} (ha : Fit a) (n : Nat) : a / 2 ^ min n 64 = a / 2 ^ n := by
  by_cases h : n ≤ 64
  · rw [Nat.min_eq_left h]
  · rw [Nat.min_eq_right (by omega)]
    have h1 := pow_ge 64 n (by omega)
    rw [p64] at *
    rw [div_big ha (by omega), div_big ha (by omega)]
theorem shr_fit {a : Int} (ha : Fit a) (n : Nat) : Fit (a / 2 ^ n) := by
  have h := pow_pos2 n
  rcases (show a < 0 ∨ 0 ≤ a by omega) with h1 | h1
  · have h2 : a / 2 ^ n < 0 := Int.ediv_neg_of_neg_of_pos h1 h
    have h3 : a ≤ a / 2 ^ n := by
      have := Int.mul_ediv_add_emod a (2 ^ n)
      have h4 := Int.emod_nonneg a (show (2 : Int) ^ n ≠ 0 by omega)
      have h6 : a / 2 ^ n * (2 ^ n - 1) ≤ 0 := Int.mul_nonpos_of_nonpos_of_nonneg (by omega) (by omega)
      have h7 := Int.ediv_mul_le a (show (2 : Int) ^ n ≠ 0 by omega)
      have h8 : 2 ^ n * (a / 2 ^ n) + a % 2 ^ n = a := this
      have h9 := Int.emod_lt_of_pos a h
      have h10 : (a / 2 ^ n + 1) * (2 ^ n - 1) ≤ 0 := Int.mul_nonpos_of_nonpos_of_nonneg (by omega) (by omega)
      have e1 : (a / 2 ^ n + 1) * (2 ^ n - 1) = 2 ^ n * (a / 2 ^ n) - a / 2 ^ n + 2 ^ n - 1 := by
        rw [Int.add_mul, Int.mul_sub, Int.mul_comm (a / 2 ^ n) (2 ^ n)]; omega
      omega
    unfold Fit at *; omega
  · have h2 := Int.ediv_nonneg h1 (Int.le_of_lt h)
    have h3 := Int.ediv_le_self (2 ^ n) h1
    unfold Fit at *; omega

theorem shl_not {a : Int} {n : Nat} (hn : n ≤ 64) (hf : ¬ Fit (a * 2 ^ n)) : wrap64 (a * 2 ^ n) / 2 ^ n ≠ a := by
  intro h
  have hp := pow_pos2 n
  have h64 := pow_ge n 64 hn
  rw [p64] at h64
  obtain ⟨k, hk⟩ := wrap_mod (a * 2 ^ n)
  have h1 := Int.mul_ediv_add_emod (wrap64 (a * 2 ^ n)) (2 ^ n)
  rw [h] at h1
  have h2 := Int.emod_nonneg (wrap64 (a * 2 ^ n)) (show (2 : Int) ^ n ≠ 0 by omega)
  have h3 := Int.emod_lt_of_pos (wrap64 (a * 2 ^ n)) hp
  have h4 : (2 : Int) ^ n * a = a * 2 ^ n := Int.mul_comm _ _
  have h5 : k = 0 := by omega
  apply hf
  have := wrap_is_fit (a * 2 ^ n)
  rw [hk, h5] at this
  simpa using this
theorem shl_back {a : Int} {n : Nat} (hf : Fit (a * 2 ^ n)) : wrap64 (a * 2 ^ n) / 2 ^ n = a := by
  rw [wrap_fit hf]; exact Int.mul_ediv_cancel _ (by have := pow_pos2 n; omega)
theorem shl_big {a : Int} {n : Nat} (hn : 64 ≤ n) (h : a ≠ 0) : ¬ Fit (a * 2 ^ n) := by
  have h1 := pow_ge 64 n hn
  rw [p64] at h1
  generalize (2 : Int) ^ n = P at *
  unfold Fit
  rcases (show a ≤ -1 ∨ 1 ≤ a by omega) with h2 | h2
  · have : a * P ≤ -1 * P := Int.mul_le_mul_of_nonneg_right h2 (by omega)
    omega
  · have : 1 * P ≤ a * P := Int.mul_le_mul_of_nonneg_right h2 (by omega)
    omega
theorem shl_wrap64 (a : Int) : wrap64 (a * 2 ^ 64) = 0 := by rw [p64]; unfold wrap64; omega

/-! ### powers -/
theorem pow_one_cases (a : Int) (h : -1 ≤ a ∧ a ≤ 1) (k : Nat) : a ^ (k + 2) = a ^ k ∨ (a = 0 ∧ k = 0) := by
  rcases (show a = -1 ∨ a = 0 ∨ a = 1 by omega) with rfl | rfl | rfl
  · left; rw [Int.pow_succ, Int.pow_succ]; omega
  · cases k with
    | zero => exact .inr ⟨rfl, rfl⟩
    | succ k => left; rw [Int.pow_succ, Int.mul_zero, Int.pow_succ, Int.mul_zero]
  · left; rw [Int.pow_succ, Int.pow_succ]; omega
/-- of -1, 0 and 1 the power hangs on whether n is even, from 1 on -/
theorem pow_small_n (a : Int) (h : -1 ≤ a ∧ a ≤ 1) (n : Nat) (hn : 0 < n) : a ^ n = a ^ (2 - n % 2) := by
  induction n using Nat.strongRecOn with
  | ind n ih =>
    by_cases h1 : n = 1
    · subst h1; rfl
    · by_cases h2 : n = 2
      · subst h2; rfl
      · obtain ⟨k, rfl⟩ : ∃ k, n = k + 2 := ⟨n - 2, by omega⟩
        have hp := pow_one_cases a h k
        rcases hp with hp | ⟨_, hp⟩
        · rw [hp, ih k (by omega) (by omega), show (k + 2) % 2 = k % 2 from by omega]
        · omega
theorem natAbs_pow_ge (a : Int) (h : 2 ≤ a.natAbs) (n : Nat) : 2 ^ n ≤ (a ^ n).natAbs := by
  rw [Int.natAbs_pow]; exact Nat.pow_le_pow_left h n
theorem pow_big {a : Int} (h : a < -1 ∨ 1 < a) {n : Nat} (hn : 64 ≤ n) : ¬ Fit (a ^ n) := by
  have h1 := natAbs_pow_ge a (by omega) n
  have h2 := Nat.pow_le_pow_right (show 0 < 2 by omega) hn
  have h3 : (2 : Nat) ^ 64 = 18446744073709551616 := by decide
  unfold Fit; omega
/-- once beyond 64 bits, always -/
theorem pow_no {a : Int} {i n : Nat} (h : i ≤ n) (hf : ¬ Fit (a ^ i)) : ¬ Fit (a ^ n) := by
  by_cases h0 : -1 ≤ a ∧ a ≤ 1
  · exfalso; apply hf
    have : ∀ k : Nat, -1 ≤ a ^ k ∧ a ^ k ≤ 1 := by
      intro k
      induction k with
      | zero => rw [Int.pow_zero]; omega
      | succ k ih =>
        rw [Int.pow_succ]
        rcases (show a = -1 ∨ a = 0 ∨ a = 1 by omega) with rfl | rfl | rfl <;> omega
    have := this i; unfold Fit; omega
  · have e : (a ^ n).natAbs = (a ^ i).natAbs * (a ^ (n - i)).natAbs := by
      rw [← Int.natAbs_mul, ← Int.pow_add, Nat.add_sub_cancel' h]
    by_cases hi : i = n
    · subst hi; exact hf
    · have g := natAbs_pow_ge a (by omega) (n - i)
      have g2 : 2 ^ 1 ≤ 2 ^ (n - i) := Nat.pow_le_pow_right (by omega) (by omega)
      have g3 : (a ^ i).natAbs * 2 ≤ (a ^ i).natAbs * (a ^ (n - i)).natAbs := Nat.mul_le_mul (Nat.le_refl _) (by omega)
      unfold Fit at *; omega

end Go.Proofs.Ytpfkcllincfpkaa.nm
