/- The walks of NumLaws and NumBack: out of num's contracts. -/
import Derived.Test.YtpfkcllincfpkaaNum
namespace Go.Proofs.Ytpfkcllincfpkaa.nm
open Go.RowKit

theorem ret1b {p : Bool} (h : p = true) : Ending.returned (.bool p) = .returned (.bool true) := by rw [h]
theorem add_ok (a b : Int) (ha : Fit a) (hb : Fit b) (h : Fit (a + b)) (w : World) :
    Calls Try.prog 13 #[.int .i64 a, .int .i64 b] w fun e w' => e = .returned (.tuple #[.int .i64 (a + b), .int .i64 0]) ∧ w = w' :=
  (add_c a b ha hb w).mono fun e w' ⟨he, hw⟩ => ⟨by rw [he, val_of h, err_of h], hw⟩
theorem mul_ok (a b : Int) (ha : Fit a) (hb : Fit b) (h : Fit (a * b)) (w : World) :
    Calls Try.prog 16 #[.int .i64 a, .int .i64 b] w fun e w' => e = .returned (.tuple #[.int .i64 (a * b), .int .i64 0]) ∧ w = w' :=
  (mul_c a b ha hb w).mono fun e w' ⟨he, hw⟩ => ⟨by rw [he, val_of h, err_of h], hw⟩

theorem mul_bd {a b A B : Int} (ha : -A ≤ a ∧ a ≤ A) (hb : -B ≤ b ∧ b ≤ B) : -(A * B) ≤ a * b ∧ a * b ≤ A * B := by
  have h : (a * b).natAbs ≤ (A * B).natAbs := by
    rw [Int.natAbs_mul, Int.natAbs_mul]; exact Nat.mul_le_mul (by omega) (by omega)
  have : 0 ≤ A * B := Int.mul_nonneg (by omega) (by omega)
  omega

theorem numLaws_walk (a0 : Int) (a1 : Int) (a2 : Int) (w : World) (w0 : (Lit.int .i32 a0).wf = true) (w1 : (Lit.int .i32 a1).wf = true) (w2 : (Lit.int .i32 a2).wf = true) :
    Calls Try.prog 12 #[.int .i32 a0, .int .i32 a1, .int .i32 a2] w fun e w' => e = .returned (.bool true) ∧ Below w.heap.size w w' := by
  have b0 : -2147483648 ≤ a0 ∧ a0 ≤ 2147483647 := by simpa [Lit.wf, IntKind.min, IntKind.max, IntKind.signed, IntKind.bits] using w0
  have b1 : -2147483648 ≤ a1 ∧ a1 ≤ 2147483647 := by simpa [Lit.wf, IntKind.min, IntKind.max, IntKind.signed, IntKind.bits] using w1
  have b2 : -2147483648 ≤ a2 ∧ a2 ≤ 2147483647 := by simpa [Lit.wf, IntKind.min, IntKind.max, IntKind.signed, IntKind.bits] using w2
  clear w0 w1 w2
  have bz : -1023 ≤ a2.tmod 1024 ∧ a2.tmod 1024 ≤ 1023 := by have := natAbs_tmod_lt a2 1024 (by omega); omega
  go_enter Try.func12, Try.ntmps12
  go_wp2_with fail
  generalize a2.tmod 1024 = z at *
  have m1 := mul_bd (a := a0 + a1) (b := z) (A := 4294967296) (B := 1023) (by omega) (by omega)
  have m2 := mul_bd (a := a0) (b := z) (A := 2147483648) (B := 1023) (by omega) (by omega)
  have m3 := mul_bd (a := a1) (b := z) (A := 2147483648) (B := 1023) (by omega) (by omega)
  have hd := Lib.hid (Int.add_mul a0 a1 z)
  have hc := Lib.hid (Int.add_comm a1 a0)
  refine (add_ok a0 a1 (by unfold Fit; omega) (by unfold Fit; omega) (by unfold Fit; omega) _).mono ?_; rintro e w' ⟨rfl, rfl⟩; go_wp2_with fail
  refine (add_ok a1 a0 (by unfold Fit; omega) (by unfold Fit; omega) (by unfold Fit; omega) _).mono ?_; rintro e w' ⟨rfl, rfl⟩; rw [hc.out]; go_wp2_with fail
  refine (mul_ok (a0 + a1) z (by unfold Fit; omega) (by unfold Fit; omega) (by unfold Fit; omega) _).mono ?_; rintro e w' ⟨rfl, rfl⟩; go_wp2_with fail
  refine (mul_ok a0 z (by unfold Fit; omega) (by unfold Fit; omega) (by unfold Fit; omega) _).mono ?_; rintro e w' ⟨rfl, rfl⟩; go_wp2_with fail
  refine (mul_ok a1 z (by unfold Fit; omega) (by unfold Fit; omega) (by unfold Fit; omega) _).mono ?_; rintro e w' ⟨rfl, rfl⟩; go_wp2_with fail
  refine (add_ok (a0 * z) (a1 * z) (by unfold Fit; omega) (by unfold Fit; omega) (by unfold Fit; omega) _).mono ?_; rintro e w' ⟨rfl, rfl⟩; rw [← hd.out]; go_wp2_with fail
  go_ret
  exact ⟨rfl, Below.refl _ _⟩

theorem quo_ok (a b : Int) (ha : Fit a) (h0 : b ≠ 0) (h1 : b ≠ -1) (w : World) :
    Calls Try.prog 17 #[.int .i64 a, .int .i64 b] w fun e w' => e = .returned (.tuple #[.int .i64 (a.tdiv b), .int .i64 0]) ∧ w = w' :=
  (quo_c a b ha w).mono fun e w' ⟨he, hw⟩ => ⟨by rw [he, quoV, quoE, if_neg h0, if_neg h0, val_of (tdiv_fit ha h0 fun h => h1 h.2), err_of (tdiv_fit ha h0 fun h => h1 h.2)], hw⟩
theorem rem_ok (a b : Int) (h0 : b ≠ 0) (w : World) :
    Calls Try.prog 18 #[.int .i64 a, .int .i64 b] w fun e w' => e = .returned (.tuple #[.int .i64 (a.tmod b), .int .i64 0]) ∧ w = w' :=
  (rem_c a b w).mono fun e w' ⟨he, hw⟩ => ⟨by rw [he, remV, remE, if_neg h0, if_neg h0], hw⟩
theorem div_ok (a b : Int) (ha : Fit a) (h0 : b ≠ 0) (h1 : b ≠ -1) (w : World) :
    Calls Try.prog 31 #[.int .i64 a, .int .i64 b] w fun e w' => e = .returned (.tuple #[.int .i64 (a.fdiv b), .int .i64 0]) ∧ w = w' :=
  (div_c a b ha w).mono fun e w' ⟨he, hw⟩ => ⟨by rw [he, divV, divE, if_neg h0, if_neg h0, val_of (fdiv_fit ha h0 fun h => h1 h.2), err_of (fdiv_fit ha h0 fun h => h1 h.2)], hw⟩
theorem mod_ok (a b : Int) (ha : Fit a) (hb : Fit b) (h0 : b ≠ 0) (w : World) :
    Calls Try.prog 33 #[.int .i64 a, .int .i64 b] w fun e w' => e = .returned (.tuple #[.int .i64 (a.fmod b), .int .i64 0]) ∧ w = w' :=
  (mod_c a b ha hb w).mono fun e w' ⟨he, hw⟩ => ⟨by rw [he, modV, remE, if_neg h0, if_neg h0], hw⟩

set_option maxRecDepth 100000 in
set_option maxHeartbeats 2000000 in
theorem numBack_zero (a : Int) (w : World) (ha : Fit a) :
    Calls Try.prog 11 #[.int .i64 a, .int .i64 0] w fun e w' => e = .returned (.bool true) ∧ Below w.heap.size w w' := by
  have hb : Fit 0 := by unfold Fit; omega
  have e1 : quoE a 0 = 11 := rfl
  have e2 : remE 0 = 11 := rfl
  have e3 : divE a 0 = 11 := rfl
  go_enter Try.func11, Try.ntmps11
  go_wp2_with fail
  refine (quo_c a 0 ha _).mono ?_; rintro e w' ⟨rfl, rfl⟩; go_wp2_with fail
  refine (rem_c a 0 _).mono ?_; rintro e w' ⟨rfl, rfl⟩; go_wp2_with fail
  refine (div_c a 0 ha _).mono ?_; rintro e w' ⟨rfl, rfl⟩; go_wp2_with fail
  refine (mod_c a 0 ha hb _).mono ?_; rintro e w' ⟨rfl, rfl⟩; go_wp2_with fail
  go_ret
  exact ⟨rfl, Below.refl _ _⟩

set_option maxRecDepth 100000 in
set_option maxHeartbeats 2000000 in
theorem numBack_one (a : Int) (w : World) (ha : Fit a) :
    Calls Try.prog 11 #[.int .i64 a, .int .i64 (-1)] w fun e w' => e = .returned (.bool true) ∧ Below w.heap.size w w' := by
  have hb : Fit (-1) := by unfold Fit; omega
  have z1 : a.tmod (-1) = 0 := by simp
  have z2 : a.fmod (-1) = 0 := by rw [fmod_is a (-1) (by omega), z1]; rfl
  have f2 : remE (-1) = 0 := rfl
  have r1 : remV a (-1) = 0 := by unfold remV; rw [if_neg (by omega), z1]
  have m1 : modV a (-1) = 0 := by unfold modV; rw [if_neg (by omega), z2]
  have e1 : quoE a (-1) = err (-a) := by unfold quoE; rw [if_neg (by omega), tdiv_neg_one]
  have e3 : divE a (-1) = err (-a) := by
    unfold divE; rw [if_neg (by omega), fdiv_is a (-1) (by omega), z1, show lean 0 (-1) = false from rfl, tdiv_neg_one]; rfl
  have t : (err (-a) == 0) = decide (-9223372036854775807 ≤ a) := by
    rcases err_cases (-a) with ⟨h, _, h2⟩ | ⟨h, _, h2⟩
    · rw [h]; unfold Fit at h2; simp; omega
    · rw [h]; unfold Fit at *; simp; omega
  clear z1 z2
  go_enter Try.func11, Try.ntmps11
  go_wp2_with fail
  refine (quo_c a (-1) ha _).mono ?_; rintro e w' ⟨rfl, rfl⟩; go_wp2_with fail
  refine (rem_c a (-1) _).mono ?_; rintro e w' ⟨rfl, rfl⟩; go_wp2_with fail
  refine (div_c a (-1) ha _).mono ?_; rintro e w' ⟨rfl, rfl⟩; go_wp2_with fail
  refine (mod_c a (-1) ha hb _).mono ?_; rintro e w' ⟨rfl, rfl⟩; go_wp2_with fail
  go_ret
  exact ⟨rfl, Below.refl _ _⟩

set_option maxRecDepth 100000 in
set_option maxHeartbeats 2000000 in
/-- the general case: q, r, d, m are what the four give; the tests decided -/
theorem numBack_gen (a b : Int) (w : World) (ha : Fit a) (hb : Fit b) (h0 : b ≠ 0) (h1 : b ≠ -1) :
    Calls Try.prog 11 #[.int .i64 a, .int .i64 b] w fun e w' => e = .returned (.bool true) ∧ Below w.heap.size w w' := by
  have k1 := quo_ok a b ha h0 h1
  have k2 := rem_ok a b h0
  have k3 := div_ok a b ha h0 h1
  have k4 := mod_ok a b ha hb h0
  have n1 : (b == 0) = false := by simp [h0]
  have n2 : (b == -1) = false := by simp [h1]
  have s1 := tmod_sign a b
  have s2 := natAbs_tmod_lt a b h0
  have s3 := Int.mul_tdiv_add_tmod a b
  rw [Int.mul_comm] at s3
  have s4 := fdiv_is a b h0
  have s5 := fmod_is a b h0
  have s6 := tdiv_fit ha h0 fun h => h1 h.2
  have s7 := fdiv_fit ha h0 fun h => h1 h.2
  have s8 := fmod_fit ha hb h0
  generalize hq : a.tdiv b = q at *
  generalize hr : a.tmod b = r at *
  generalize hd : a.fdiv b = d at *
  generalize hm : a.fmod b = m at *
  clear hq hr hd hm
  unfold Fit at *
  have B1 : -9223372036854775808 ≤ q * b ∧ q * b ≤ 9223372036854775807 := by clear s4 s5; omega
  have B2 : -9223372036854775808 ≤ q * b + r ∧ q * b + r ≤ 9223372036854775807 := by rw [s3]; exact ha
  by_cases hr0 : r = 0
  · have hl : lean r b = false := by rw [hr0]; rfl
    rw [hl] at s4 s5
    simp only [Bool.false_eq_true, if_false] at s4 s5
    subst hr0 s4 s5
    have T1 : (d * b != a) = false := by rw [Int.add_zero] at s3; rw [s3]; simp
    clear hl s3 s1
    by_cases hbn : b < 0
    · go_enter Try.func11, Try.ntmps11
      go_wp2_with fail
      refine (k1 _).mono ?_; rintro e w' ⟨rfl, rfl⟩; go_wp2_with fail
      refine (k2 _).mono ?_; rintro e w' ⟨rfl, rfl⟩; go_wp2_with fail
      refine (k3 _).mono ?_; rintro e w' ⟨rfl, rfl⟩; go_wp2_with fail
      refine (k4 _).mono ?_; rintro e w' ⟨rfl, rfl⟩; go_wp2_with fail
      go_ret
      exact ⟨ret1b (by first | rfl | (simp; omega)), Below.refl _ _⟩
    · go_enter Try.func11, Try.ntmps11
      go_wp2_with fail
      refine (k1 _).mono ?_; rintro e w' ⟨rfl, rfl⟩; go_wp2_with fail
      refine (k2 _).mono ?_; rintro e w' ⟨rfl, rfl⟩; go_wp2_with fail
      refine (k3 _).mono ?_; rintro e w' ⟨rfl, rfl⟩; go_wp2_with fail
      refine (k4 _).mono ?_; rintro e w' ⟨rfl, rfl⟩; go_wp2_with fail
      go_ret
      exact ⟨ret1b (by first | rfl | (simp; omega)), Below.refl _ _⟩
  · have R0 : (r == 0) = false := by simp [hr0]
    have R1 : (r != 0) = true := by simp [hr0]
    have T1 : (q * b + r != a) = false := by rw [s3]; simp
    by_cases hl : lean r b = true
    · have hl2 := hl
      unfold lean at hl2
      rw [if_pos hl] at s4 s5
      subst s4 s5
      simp [hr0] at hl2
      clear hl
      by_cases hbn : b < 0
      · have s9 : 0 < r := by by_cases c : r < 0 <;> simp [c, hbn] at hl2 <;> omega
        have s10 : 0 ≤ a := by omega
        clear hl2 s3 s1
        have D1 : decide (r < 0) = false := by simp; omega
        have D2 : decide (a < 0) = false := by simp; omega
        have D3 : decide (b < 0) = true := by simp; omega
        go_enter Try.func11, Try.ntmps11
        go_wp2_with fail
        refine (k1 _).mono ?_; rintro e w' ⟨rfl, rfl⟩; go_wp2_with fail
        refine (k2 _).mono ?_; rintro e w' ⟨rfl, rfl⟩; go_wp2_with fail
        refine (k3 _).mono ?_; rintro e w' ⟨rfl, rfl⟩; go_wp2_with fail
        refine (k4 _).mono ?_; rintro e w' ⟨rfl, rfl⟩; go_wp2_with fail
        go_ret
        exact ⟨ret1b (by first | rfl | (simp; omega)), Below.refl _ _⟩
      · have s9 : r < 0 := by by_cases c : r < 0 <;> simp [c, hbn] at hl2 <;> omega
        have s10 : a < 0 := by omega
        clear hl2 s3 s1
        have D1 : decide (r < 0) = true := by simp; omega
        have D2 : decide (a < 0) = true := by simp; omega
        have D3 : decide (b < 0) = false := by simp; omega
        go_enter Try.func11, Try.ntmps11
        go_wp2_with fail
        refine (k1 _).mono ?_; rintro e w' ⟨rfl, rfl⟩; go_wp2_with fail
        refine (k2 _).mono ?_; rintro e w' ⟨rfl, rfl⟩; go_wp2_with fail
        refine (k3 _).mono ?_; rintro e w' ⟨rfl, rfl⟩; go_wp2_with fail
        refine (k4 _).mono ?_; rintro e w' ⟨rfl, rfl⟩; go_wp2_with fail
        go_ret
        exact ⟨ret1b (by first | rfl | (simp; omega)), Below.refl _ _⟩
    · have hl2 := hl
      unfold lean at hl2
      rw [if_neg hl] at s4 s5
      subst s4 s5
      simp [hr0] at hl2
      clear hl
      by_cases hbn : b < 0
      · have s9 : m < 0 := by by_cases c : m < 0 <;> simp [c, hbn] at hl2 <;> omega
        have s10 : a < 0 := by omega
        clear hl2 s3 s1
        have D1 : decide (m < 0) = true := by simp; omega
        have D2 : decide (a < 0) = true := by simp; omega
        have D3 : decide (b < 0) = true := by simp; omega
        go_enter Try.func11, Try.ntmps11
        go_wp2_with fail
        refine (k1 _).mono ?_; rintro e w' ⟨rfl, rfl⟩; go_wp2_with fail
        refine (k2 _).mono ?_; rintro e w' ⟨rfl, rfl⟩; go_wp2_with fail
        refine (k3 _).mono ?_; rintro e w' ⟨rfl, rfl⟩; go_wp2_with fail
        refine (k4 _).mono ?_; rintro e w' ⟨rfl, rfl⟩; go_wp2_with fail
        go_ret
        exact ⟨ret1b (by first | rfl | (simp; omega)), Below.refl _ _⟩
      · have s9 : 0 < m := by by_cases c : m < 0 <;> simp [c, hbn] at hl2 <;> omega
        have s10 : 0 ≤ a := by omega
        clear hl2 s3 s1
        have D1 : decide (m < 0) = false := by simp; omega
        have D2 : decide (a < 0) = false := by simp; omega
        have D3 : decide (b < 0) = false := by simp; omega
        go_enter Try.func11, Try.ntmps11
        go_wp2_with fail
        refine (k1 _).mono ?_; rintro e w' ⟨rfl, rfl⟩; go_wp2_with fail
        refine (k2 _).mono ?_; rintro e w' ⟨rfl, rfl⟩; go_wp2_with fail
        refine (k3 _).mono ?_; rintro e w' ⟨rfl, rfl⟩; go_wp2_with fail
        refine (k4 _).mono ?_; rintro e w' ⟨rfl, rfl⟩; go_wp2_with fail
        go_ret
        exact ⟨ret1b (by first | rfl | (simp; omega)), Below.refl _ _⟩

theorem numBack_walk (a0 : Int) (a1 : Int) (w : World) (w0 : (Lit.int .i64 a0).wf = true) (w1 : (Lit.int .i64 a1).wf = true) :
    Calls Try.prog 11 #[.int .i64 a0, .int .i64 a1] w fun e w' => e = .returned (.bool true) ∧ Below w.heap.size w w' := by
  by_cases h0 : a1 = 0
  · subst h0; exact numBack_zero a0 w (fit_wf w0)
  · by_cases h1 : a1 = -1
    · subst h1; exact numBack_one a0 w (fit_wf w0)
    · exact numBack_gen a0 a1 w (fit_wf w0) (fit_wf w1) h0 h1
end Go.Proofs.Ytpfkcllincfpkaa.nm
