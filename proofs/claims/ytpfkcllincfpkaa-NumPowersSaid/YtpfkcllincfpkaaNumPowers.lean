/- The walks of NumPowers and NumPowerSums. -/
import Derived.Test.YtpfkcllincfpkaaRefH
namespace Go.Proofs.Ytpfkcllincfpkaa.nm
open Go.RowKit Go.Proofs.Ytpfkcllincfpkaa.dg

theorem numPowers_walk (a0 : Int) (a1 : Int) (w : World) (w0 : (Lit.int .i64 a0).wf = true) (w1 : (Lit.int .i64 a1).wf = true) :
    Calls Try.prog 8 #[.int .i64 a0, .int .i64 a1] w fun e w' => e = .returned (.bool true) ∧ Below w.heap.size w w' := by
  have ha := fit_wf w0
  have hb := fit_wf w1
  have k1 := pow_c a0 a1 ha hb
  have k2 := pow_r a0 a1 ha hb
  have k3 := shl_c a0 a1 ha hb
  have k4 := shl_r a0 a1 ha hb
  have k5 := shr_c a0 a1 ha hb
  have k6 := shr_r a0 a1 ha hb
  clear w0 w1 ha hb
  generalize powV a0 a1 = x1 at *
  generalize powE a0 a1 = x2 at *
  generalize shlV a0 a1 = x3 at *
  generalize shlE a0 a1 = x4 at *
  generalize shrV a0 a1 = x5 at *
  generalize shrE a1 = x6 at *
  go_enter Try.func8, Try.ntmps8
  go_wp2_with fail
  refine (k1 _).mono ?_; rintro e w' ⟨rfl, rfl⟩; go_wp2_with fail
  refine (k2 _).mono ?_; rintro e w2 ⟨rfl, b2⟩; go_wp2_with fail
  refine (k3 _).mono ?_; rintro e w' ⟨rfl, rfl⟩; go_wp2_with fail
  refine (k4 _).mono ?_; rintro e w4 ⟨rfl, b4⟩; go_wp2_with fail
  refine (k5 _).mono ?_; rintro e w' ⟨rfl, rfl⟩; go_wp2_with fail
  refine (k6 _).mono ?_; rintro e w6 ⟨rfl, b6⟩; go_wp2_with fail
  go_ret
  exact ⟨rfl, chain (chain b2 b4) b6⟩

theorem pow7_fit {x : Int} {i : Nat} (h : -128 ≤ x ∧ x ≤ 127) (hi : i ≤ 7) : Fit (x ^ i) := by
  have h1 : (x ^ i).natAbs ≤ 128 ^ i := by rw [Int.natAbs_pow]; exact Nat.pow_le_pow_left (by omega) i
  have h2 : 128 ^ i ≤ 128 ^ 7 := Nat.pow_le_pow_right (by omega) hi
  have h3 : (128 : Nat) ^ 7 = 562949953421312 := by decide
  unfold Fit; omega
theorem shl49_fit {x : Int} {j : Nat} (h : -128 ≤ x ∧ x ≤ 127) (hj : j ≤ 49) : Fit (x * 2 ^ j) := by
  have h1 := pow_ge j 49 hj
  have h2 : (2 : Int) ^ 49 = 562949953421312 := by decide
  have h3 := pow_pos2 j
  have := mul_bd (a := x) (b := 2 ^ j) (A := 128) (B := 562949953421312) (by omega) (by omega)
  unfold Fit; omega
theorem pow_ok (a : Int) (n : Int) (ha : Fit a) (hn : Fit n) (hf : Fit (a ^ n.toNat)) (h0 : 0 ≤ n := by omega) (w : World) :
    Calls Try.prog 19 #[.int .i64 a, .int .i64 n] w fun e w' => e = .returned (.tuple #[.int .i64 (a ^ n.toNat), .int .i64 0]) ∧ w = w' :=
  (pow_c a n ha hn w).mono fun e w' ⟨he, hw⟩ => ⟨by rw [he, powV, powE, if_neg (by omega), if_neg (by omega), val_of hf, err_of hf], hw⟩
theorem powr_ok (a : Int) (n : Int) (ha : Fit a) (hn : Fit n) (hf : Fit (a ^ n.toNat)) (h0 : 0 ≤ n := by omega) (w : World) :
    Calls Try.prog 22 #[.int .i64 a, .int .i64 n] w fun e w' => e = .returned (.tuple #[.int .i64 (a ^ n.toNat), .int .i64 0]) ∧ Below w.heap.size w w' :=
  (pow_r a n ha hn w).mono fun e w' ⟨he, hw⟩ => ⟨by rw [he, powV, powE, if_neg (by omega), if_neg (by omega), val_of hf, err_of hf], hw⟩
theorem shl_ok (a : Int) (j : Nat) (ha : Fit a) (hn : Fit (j : Int)) (hf : Fit (a * 2 ^ j)) (w : World) :
    Calls Try.prog 20 #[.int .i64 a, .int .i64 (j : Int)] w fun e w' => e = .returned (.tuple #[.int .i64 (a * 2 ^ j), .int .i64 0]) ∧ w = w' :=
  (shl_c a j ha hn w).mono fun e w' ⟨he, hw⟩ => ⟨by rw [he, shlV, shlE, if_neg (by omega), if_neg (by omega), Int.toNat_natCast, val_of hf, err_of hf], hw⟩
theorem shr_ok (a : Int) (j : Nat) (ha : Fit a) (hn : Fit (j : Int)) (w : World) :
    Calls Try.prog 21 #[.int .i64 a, .int .i64 (j : Int)] w fun e w' => e = .returned (.tuple #[.int .i64 (a / 2 ^ j), .int .i64 0]) ∧ w = w' :=
  (shr_c a j ha hn w).mono fun e w' ⟨he, hw⟩ => ⟨by rw [he, shrV, shrE, if_neg (by omega), if_neg (by omega), Int.toNat_natCast], hw⟩

theorem numPowerSums_walk (a0 : Int) (a1 : Int) (a2 : Int) (a3 : Int) (w : World) (w0 : (Lit.int .i8 a0).wf = true) (w1 : (Lit.int .u8 a1).wf = true) (w2 : (Lit.int .u8 a2).wf = true) (w3 : (Lit.int .u8 a3).wf = true) :
    Calls Try.prog 4 #[.int .i8 a0, .int .u8 a1, .int .u8 a2, .int .u8 a3] w fun e w' => e = .returned (.bool true) ∧ Below w.heap.size w w' := by
  have b0 : -128 ≤ a0 ∧ a0 ≤ 127 := by simpa [Lit.wf, IntKind.min, IntKind.max, IntKind.signed, IntKind.bits] using w0
  have b1 : 0 ≤ a1 ∧ a1 ≤ 255 := by simpa [Lit.wf, IntKind.min, IntKind.max, IntKind.signed, IntKind.bits] using w1
  have b2 : 0 ≤ a2 ∧ a2 ≤ 255 := by simpa [Lit.wf, IntKind.min, IntKind.max, IntKind.signed, IntKind.bits] using w2
  have b3 : 0 ≤ a3 ∧ a3 ≤ 255 := by simpa [Lit.wf, IntKind.min, IntKind.max, IntKind.signed, IntKind.bits] using w3
  clear w0 w1 w2 w3
  have c1 : 0 ≤ a1 % 6 ∧ a1 % 6 ≤ 5 := by omega
  have c2 : 0 ≤ a2 % 3 ∧ a2 % 3 ≤ 2 := by omega
  have c3 : 0 ≤ a3 % 50 ∧ a3 % 50 ≤ 49 := by omega
  go_enter Try.func4, Try.ntmps4
  go_wp2_with fail
  generalize a1 % 6 = I at *
  generalize a2 % 3 = K at *
  obtain ⟨i, rfl⟩ : ∃ i : Nat, I = i := ⟨I.toNat, by omega⟩
  obtain ⟨k, rfl⟩ : ∃ k : Nat, K = k := ⟨K.toNat, by omega⟩
  have hx : Fit a0 := small_fit (by omega)
  have f1 := pow7_fit b0 (show i ≤ 7 by omega)
  have f2 := pow7_fit b0 (show k ≤ 7 by omega)
  have f3 := pow7_fit b0 (show i + k ≤ 7 by omega)
  have k1 := pow_ok a0 i hx (small_fit (by omega)) f1
  have k2 := pow_ok a0 k hx (small_fit (by omega)) f2
  have k3 := pow_ok a0 (i + k : Nat) hx (small_fit (by omega)) (by rw [Int.toNat_natCast]; exact f3)
  have k4 := mul_ok (a0 ^ i) (a0 ^ k) f1 f2 (by rw [← Int.pow_add]; exact f3)
  have k7 := powr_ok a0 (i + k : Nat) hx (small_fit (by omega)) (by rw [Int.toNat_natCast]; exact f3)
  rw [Int.toNat_natCast] at k1 k2 k3 k7
  rw [← Int.pow_add] at k4
  rw [show ((i + k : Nat) : Int) = (i : Int) + (k : Int) from Int.natCast_add ..] at k3 k7
  generalize a0 ^ i = y1 at *
  generalize a0 ^ k = y2 at *
  generalize a0 ^ (i + k) = y3 at *
  clear f1 f2 f3
  refine (k1 _).mono ?_; rintro e w' ⟨rfl, rfl⟩; go_wp2_with fail
  refine (k2 _).mono ?_; rintro e w' ⟨rfl, rfl⟩; go_wp2_with fail
  refine (k3 _).mono ?_; rintro e w' ⟨rfl, rfl⟩; go_wp2_with fail
  refine (k4 _).mono ?_; rintro e w' ⟨rfl, rfl⟩; go_wp2_with fail
  obtain ⟨j, hj⟩ : ∃ j : Nat, a3 % 50 = j := ⟨(a3 % 50).toNat, by omega⟩
  have hj9 : j ≤ 49 := by omega
  have HJ := Lib.hid hj
  rw [hj]
  clear hj
  have g1 := shl49_fit b0 (show j ≤ 49 by omega)
  have k5 := shl_ok a0 j hx (small_fit (by omega)) g1
  have k6 := shr_ok (a0 * 2 ^ j) j g1 (small_fit (by omega))
  rw [Int.mul_ediv_cancel _ (by have := pow_pos2 j; omega)] at k6
  generalize a0 * 2 ^ j = y4 at *
  clear g1
  refine (k5 _).mono ?_; rintro e w' ⟨rfl, rfl⟩; go_wp2_with fail
  rw [HJ.out]
  refine (k6 _).mono ?_; rintro e w' ⟨rfl, rfl⟩; go_wp2_with fail
  refine (k7 _).mono ?_; rintro e w2 ⟨rfl, b2⟩; go_wp2_with fail
  go_ret
  exact ⟨rfl, b2⟩
end Go.Proofs.Ytpfkcllincfpkaa.nm
