/- Powers and shifts: num's contracts. -/
import Derived.Test.YtpfkcllincfpkaaNumLaws
import Derived.Test.YtpfkcllincfpkaaPowMath
namespace Go.Proofs.Ytpfkcllincfpkaa.nm
open Go.RowKit

theorem ret1i {k : IntKind} {a b : Int} (h : a = b) : Ending.returned (.int k a) = .returned (.int k b) := by rw [h]
def shlV (a n : Int) : Int := if n < 0 then 0 else val (a * 2 ^ n.toNat)
def shlE (a n : Int) : Int := if n < 0 then 1 else err (a * 2 ^ n.toNat)
def shrV (a n : Int) : Int := if n < 0 then 0 else a / 2 ^ n.toNat
def shrE (n : Int) : Int := if n < 0 then 1 else 0
def powV (a n : Int) : Int := if n < 0 then 0 else val (a ^ n.toNat)
def powE (a n : Int) : Int := if n < 0 then 1 else err (a ^ n.toNat)

theorem shr_c (a n : Int) (ha : Fit a) (hn : Fit n) (w : World) :
    Calls Try.prog 21 #[.int .i64 a, .int .i64 n] w fun e w' => e = .returned (.tuple #[.int .i64 (shrV a n), .int .i64 (shrE n)]) ∧ w = w' := by
  by_cases h0 : n < 0
  · rw [show shrV a n = 0 from if_pos h0, show shrE n = 1 from if_pos h0]
    go_enter Try.func21, Try.ntmps21
    go_wp2
    go_ret2
    exact ⟨rfl, rfl⟩
  · rw [show shrV a n = a / 2 ^ n.toNat from if_neg h0, show shrE n = 0 from if_neg h0]
    obtain ⟨k, rfl⟩ : ∃ k : Nat, n = k := ⟨n.toNat, by omega⟩
    rw [Int.toNat_natCast]
    have hm := Lib.hid (shr_min ha k)
    have hk : k ≤ 9223372036854775807 := by unfold Fit at hn; omega
    go_enter Try.func21, Try.ntmps21
    go_wp2
    go_ret2
    exact ⟨ret2 hm.out rfl, rfl⟩

theorem shl_c (a n : Int) (ha : Fit a) (hn : Fit n) (w : World) :
    Calls Try.prog 20 #[.int .i64 a, .int .i64 n] w fun e w' => e = .returned (.tuple #[.int .i64 (shlV a n), .int .i64 (shlE a n)]) ∧ w = w' := by
  by_cases h0 : n < 0
  · rw [show shlV a n = 0 from if_pos h0, show shlE a n = 1 from if_pos h0]
    go_enter Try.func20, Try.ntmps20
    go_wp2
    go_ret2
    exact ⟨rfl, rfl⟩
  · rw [show shlV a n = val (a * 2 ^ n.toNat) from if_neg h0, show shlE a n = err (a * 2 ^ n.toNat) from if_neg h0]
    obtain ⟨k, rfl⟩ : ∃ k : Nat, n = k := ⟨n.toNat, by omega⟩
    rw [Int.toNat_natCast]
    have hk : k ≤ 9223372036854775807 := by unfold Fit at hn; omega
    by_cases hf : Fit (a * 2 ^ k)
    · rw [val_of hf, err_of hf]
      have hv : wrap64 (a * 2 ^ min k 64) = a * 2 ^ k := by
        by_cases h : k ≤ 64
        · rw [Nat.min_eq_left h]; exact wrap_fit hf
        · have : a = 0 := by
            by_cases c : a = 0
            · exact c
            · exact absurd hf (shl_big (by omega) c)
          subst this; rw [Int.zero_mul, Int.zero_mul]; unfold wrap64; omega
      have t1 : (wrap64 (a * 2 ^ min k 64) / 2 ^ min k 64 != a) = false := by
        by_cases h : k ≤ 64
        · rw [Nat.min_eq_left h, shl_back hf]; simp
        · have : a = 0 := by
            by_cases c : a = 0
            · exact c
            · exact absurd hf (shl_big (by omega) c)
          subst this; rw [Int.zero_mul]; simp [wrap64]
      have HV := Lib.hid hv
      clear hv hf ha hn
      go_enter Try.func20, Try.ntmps20
      go_wp2
      go_ret2
      exact ⟨ret2 HV.out rfl, rfl⟩
    · rw [val_no hf, err_no hf]
      have t1 : (wrap64 (a * 2 ^ min k 64) / 2 ^ min k 64 != a) = true := by
        rw [bne_iff_ne]
        by_cases h : k ≤ 64
        · rw [Nat.min_eq_left h]; exact shl_not h hf
        · rw [Nat.min_eq_right (by omega), shl_wrap64, Int.zero_ediv]
          intro c; apply hf; rw [← c, Int.zero_mul]; unfold Fit; omega
      clear hf ha hn
      go_enter Try.func20, Try.ntmps20
      go_wp2
      go_ret2
      exact ⟨rfl, rfl⟩

/-- how many factors are taken -/
def fac (a : Int) (n : Nat) : Nat := if n ≤ 64 then n else if a < -1 ∨ 1 < a then 64 else 2 - n % 2
theorem fac_val (a : Int) (n : Nat) : val (a ^ fac a n) = val (a ^ n) ∧ err (a ^ fac a n) = err (a ^ n) := by
  unfold fac; split
  · exact ⟨rfl, rfl⟩
  · split
    · rename_i h1 h2
      have e1 := pow_big h2 (Nat.le_refl 64)
      have e2 := pow_big h2 (show 64 ≤ n by omega)
      rw [val_no e1, val_no e2, err_no e1, err_no e2]; exact ⟨rfl, rfl⟩
    · rename_i h1 h2
      rw [pow_small_n a (by omega) n (by omega)]; exact ⟨rfl, rfl⟩
theorem fac_le (a : Int) (n : Nat) : fac a n ≤ 64 := by unfold fac; split; omega; split <;> omega
theorem factors_c (a : Int) (n : Nat) (hn : n ≤ 9223372036854775807) (w : World) :
    Calls Try.prog 46 #[.int .i64 a, .int .i64 (n : Int)] w fun e w' => e = .returned (.int .i64 (fac a n : Nat)) ∧ w = w' := by
  by_cases h0 : n ≤ 64
  · rw [show fac a n = n from if_pos h0]
    go_enter Try.func46, Try.ntmps46
    go_wp2
    go_ret
    exact ⟨rfl, rfl⟩
  · by_cases h1 : a < -1
    · rw [show fac a n = 64 from by unfold fac; rw [if_neg h0, if_pos (.inl h1)]]
      go_enter Try.func46, Try.ntmps46
      go_wp2
      go_ret
      exact ⟨rfl, rfl⟩
    · by_cases h2 : 1 < a
      · rw [show fac a n = 64 from by unfold fac; rw [if_neg h0, if_pos (.inr h2)]]
        go_enter Try.func46, Try.ntmps46
        go_wp2
        go_ret
        exact ⟨rfl, rfl⟩
      · rw [show fac a n = 2 - n % 2 from by unfold fac; rw [if_neg h0, if_neg (by omega)]]
        go_enter Try.func46, Try.ntmps46
        go_wp2
        go_ret
        exact ⟨ret1i (by omega), rfl⟩

theorem pow_c (a n : Int) (ha : Fit a) (hn : Fit n) (w : World) :
    Calls Try.prog 19 #[.int .i64 a, .int .i64 n] w fun e w' => e = .returned (.tuple #[.int .i64 (powV a n), .int .i64 (powE a n)]) ∧ w = w' := by
  by_cases h0 : n < 0
  · rw [show powV a n = 0 from if_pos h0, show powE a n = 1 from if_pos h0]
    go_enter Try.func19, Try.ntmps19
    go_wp2
    go_ret2
    exact ⟨rfl, rfl⟩
  · rw [show powV a n = val (a ^ n.toNat) from if_neg h0, show powE a n = err (a ^ n.toNat) from if_neg h0]
    obtain ⟨k, rfl⟩ : ∃ k : Nat, n = k := ⟨n.toNat, by omega⟩
    rw [Int.toNat_natCast]
    have hk : k ≤ 9223372036854775807 := by unfold Fit at hn; omega
    have hfc := factors_c a k hk
    have hfl := fac_le a k
    have hfv := Lib.hid (fac_val a k)
    generalize fac a k = m at *
    have hm := mul_c
    clear hn
    go_enter Try.func19, Try.ntmps19
    go_wp2_with fail
    refine (hfc _).mono ?_; rintro e w' ⟨rfl, rfl⟩
    go_wp2_with fail
    go_loop [6, 14] (fun c i => ∃ j : Nat, j ≤ m ∧ i = .int .i64 j ∧ c = .int .i64 (a ^ j) ∧ Hid (Fit (a ^ j))) (fun _ i => m - (intOf i).toNat)
    case atStart => exact ⟨0, by omega, rfl, by rw [Int.pow_zero], Lib.hid (by rw [Int.pow_zero]; unfold Fit; omega)⟩
    case round =>
      obtain ⟨j, hj, rfl, rfl, hf⟩ := hrel
      by_cases hjm : j < m
      · have hs := Lib.hid (Int.pow_succ a j)
        rcases err_cases (a ^ j * a) with ⟨e1, v1, f1⟩ | ⟨e1, v1, f1⟩
        · have f1' := Lib.hid f1
          have hmc := mul_c (a ^ j) a hf.out ha
          rw [e1, v1] at hmc
          rw [← hs.out] at hmc f1'
          clear e1 v1 f1
          go_wp2_with (go_at_call 16; refine (hmc _).mono ?_; rintro e w' ⟨rfl, rfl⟩)
          exact ⟨⟨j + 1, by omega, by go_num, rfl, f1'⟩, by simp [intOf]; omega⟩
        · have f1' := Lib.hid f1
          have hmc := mul_c (a ^ j) a hf.out ha
          rw [e1, v1] at hmc
          clear e1 v1 f1
          go_wp2_with (go_at_call 16; refine (hmc _).mono ?_; rintro e w' ⟨rfl, rfl⟩)
          have hno : ¬ Fit (a ^ m) := pow_no (show j + 1 ≤ m by omega) (by rw [hs.out]; exact f1'.out)
          go_ret2
          exact ⟨ret2 (by rw [← hfv.out.1, val_no hno]) (by rw [← hfv.out.2, err_no hno]), rfl⟩
      · obtain rfl : j = m := by omega
        go_wp2
        go_ret2
        exact ⟨ret2 (by rw [← hfv.out.1, val_of hf.out]) (by rw [← hfv.out.2, err_of hf.out]), rfl⟩
end Go.Proofs.Ytpfkcllincfpkaa.nm
