/- What num's functions come to: a contract for each. -/
import Derived.Test.YtpfkcllincfpkaaProg
import Derived.Test.YtpfkcllincfpkaaNumMath
import Derived.WalkKit
import Derived.Handy
import Derived.Outline
import Derived.Lib.Hide
namespace Go.Proofs.Ytpfkcllincfpkaa.nm
open Go.RowKit

theorem ret2 {k l : IntKind} {a b c d : Int} (h : a = c) (h2 : b = d) : Ending.returned (.tuple #[.int k a, .int l b]) = .returned (.tuple #[.int k c, .int l d]) := by rw [h, h2]
theorem least_cases {a b : Int} (h : ¬ (a = -9223372036854775808 ∧ b = -1)) : ((a == -9223372036854775808) = true ∧ (b == -1) = false) ∨ (a == -9223372036854775808) = false := by
  by_cases h1 : a = -9223372036854775808
  · exact .inl ⟨by rw [beq_iff_eq]; exact h1, by rw [beq_eq_false_iff_ne]; exact fun h2 => h ⟨h1, h2⟩⟩
  · exact .inr (by rw [beq_eq_false_iff_ne]; exact h1)

theorem add_over_neg {a b : Int} (ha : Fit a) (hb : Fit b) (h : a + b < -9223372036854775808) : a ≤ wrap64 (a + b) ∧ b < 0 := by
  unfold wrap64; unfold Fit at *; omega
theorem add_over_pos {a b : Int} (ha : Fit a) (hb : Fit b) (h : 9223372036854775807 < a + b) : wrap64 (a + b) < a ∧ 0 ≤ b := by
  unfold wrap64; unfold Fit at *; omega

theorem add_c (a b : Int) (ha : Fit a) (hb : Fit b) (w : World) :
    Calls Try.prog 13 #[.int .i64 a, .int .i64 b] w fun e w' => e = .returned (.tuple #[.int .i64 (val (a + b)), .int .i64 (err (a + b))]) ∧ w = w' := by
  by_cases h : Fit (a + b)
  · rw [val_of h, err_of h]
    unfold Fit at *
    by_cases h0 : b < 0
    · have h1 : decide (a + b < a) = true := by simp; omega
      go_enter Try.func13, Try.ntmps13
      go_wp2
      go_ret2
      exact ⟨rfl, rfl⟩
    · have h1 : decide (a + b < a) = false := by simp; omega
      go_enter Try.func13, Try.ntmps13
      go_wp2
      go_ret2
      exact ⟨rfl, rfl⟩
  · rw [val_no h, err_no h]
    by_cases h0 : b < 0
    · have h1 : decide (wrap64 (a + b) < a) = false := by have := (add_over_neg ha hb (by unfold Fit at *; omega)).1; simp; omega
      clear h ha hb
      go_enter Try.func13, Try.ntmps13
      go_wp2
      go_ret2
      exact ⟨rfl, rfl⟩
    · have h1 : decide (wrap64 (a + b) < a) = true := by have := (add_over_pos ha hb (by unfold Fit at *; omega)).1; simp; omega
      clear h ha hb
      go_enter Try.func13, Try.ntmps13
      go_wp2
      go_ret2
      exact ⟨rfl, rfl⟩

theorem sub_over_neg {a b : Int} (ha : Fit a) (hb : Fit b) (h : a - b < -9223372036854775808) : a < wrap64 (a - b) ∧ 0 ≤ b := by
  unfold wrap64; unfold Fit at *; omega
theorem sub_over_pos {a b : Int} (ha : Fit a) (hb : Fit b) (h : 9223372036854775807 < a - b) : wrap64 (a - b) ≤ a ∧ b < 0 := by
  unfold wrap64; unfold Fit at *; omega

theorem sub_c (a b : Int) (ha : Fit a) (hb : Fit b) (w : World) :
    Calls Try.prog 15 #[.int .i64 a, .int .i64 b] w fun e w' => e = .returned (.tuple #[.int .i64 (val (a - b)), .int .i64 (err (a - b))]) ∧ w = w' := by
  by_cases h : Fit (a - b)
  · rw [val_of h, err_of h]
    unfold Fit at *
    by_cases h0 : b < 0
    · have h1 : decide (a < a - b) = true := by simp; omega
      go_enter Try.func15, Try.ntmps15
      go_wp2
      go_ret2
      exact ⟨rfl, rfl⟩
    · have h1 : decide (a < a - b) = false := by simp; omega
      go_enter Try.func15, Try.ntmps15
      go_wp2
      go_ret2
      exact ⟨rfl, rfl⟩
  · rw [val_no h, err_no h]
    by_cases h0 : b < 0
    · have h1 : decide (a < wrap64 (a - b)) = false := by have := (sub_over_pos ha hb (by unfold Fit at *; omega)).1; simp; omega
      clear h ha hb
      go_enter Try.func15, Try.ntmps15
      go_wp2
      go_ret2
      exact ⟨rfl, rfl⟩
    · have h1 : decide (a < wrap64 (a - b)) = true := by have := (sub_over_neg ha hb (by unfold Fit at *; omega)).1; simp; omega
      clear h ha hb
      go_enter Try.func15, Try.ntmps15
      go_wp2
      go_ret2
      exact ⟨rfl, rfl⟩

theorem neg_c (a : Int) (ha : Fit a) (w : World) :
    Calls Try.prog 24 #[.int .i64 a] w fun e w' => e = .returned (.tuple #[.int .i64 (val (-a)), .int .i64 (err (-a))]) ∧ w = w' := by
  go_enter Try.func24, Try.ntmps24
  go_wp2_with (go_at_call 15; refine (sub_c 0 a (by unfold Fit; omega) ha _).mono ?_; rintro e w' ⟨rfl, rfl⟩)
  go_ret2
  exact ⟨rfl, rfl⟩

def absI (a : Int) : Int := if a < 0 then -a else a
theorem abs_c (a : Int) (ha : Fit a) (w : World) :
    Calls Try.prog 26 #[.int .i64 a] w fun e w' => e = .returned (.tuple #[.int .i64 (val (absI a)), .int .i64 (err (absI a))]) ∧ w = w' := by
  by_cases h : a < 0
  · rw [show absI a = -a from if_pos h]
    go_enter Try.func26, Try.ntmps26
    go_wp2_with (go_at_call 24; refine (neg_c a ha _).mono ?_; rintro e w' ⟨rfl, rfl⟩)
    go_ret2
    exact ⟨rfl, rfl⟩
  · rw [show absI a = a from if_neg h, val_of ha, err_of ha]
    go_enter Try.func26, Try.ntmps26
    go_wp2_with (go_at_call 24; refine (neg_c a ha _).mono ?_; rintro e w' ⟨rfl, rfl⟩)
    go_ret2
    exact ⟨rfl, rfl⟩

theorem mul_c (a b : Int) (ha : Fit a) (hb : Fit b) (w : World) :
    Calls Try.prog 16 #[.int .i64 a, .int .i64 b] w fun e w' => e = .returned (.tuple #[.int .i64 (val (a * b)), .int .i64 (err (a * b))]) ∧ w = w' := by
  by_cases h0 : b = 0
  · subst h0
    rw [Int.mul_zero, show val 0 = 0 from by decide, show err 0 = 0 from by decide]
    go_enter Try.func16, Try.ntmps16
    go_wp2
    go_ret2
    exact ⟨rfl, rfl⟩
  · have c0 : (b == 0) = false := by simp [h0]
    by_cases h1 : a = -9223372036854775808 ∧ b = -1
    · obtain ⟨rfl, rfl⟩ := h1
      rw [val_no mul_least, err_no mul_least]
      go_enter Try.func16, Try.ntmps16
      go_wp2
      go_ret2
      exact ⟨rfl, rfl⟩
    · by_cases hf : Fit (a * b)
      · have t1 : (wrap64 ((wrap64 (a * b)).tdiv b) != a) = false := by rw [wrap_fit hf, Int.mul_tdiv_cancel _ h0, wrap_fit ha]; simp
        rw [val_of hf, err_of hf]
        have hw := Lib.hid (wrap_fit hf)
        rcases least_cases h1 with ⟨ca, cb⟩ | ca
        · clear h1 ha hb hf
          go_enter Try.func16, Try.ntmps16
          go_wp2
          go_ret2
          exact ⟨ret2 hw.out rfl, rfl⟩
        · clear h1 ha hb hf
          go_enter Try.func16, Try.ntmps16
          go_wp2
          go_ret2
          exact ⟨ret2 hw.out rfl, rfl⟩
      · have t1 : (wrap64 ((wrap64 (a * b)).tdiv b) != a) = true := by rw [bne_iff_ne]; exact mul_back ha hb h0 h1 hf
        rw [val_no hf, err_no hf]
        rcases least_cases h1 with ⟨ca, cb⟩ | ca
        · clear h1 ha hb hf
          go_enter Try.func16, Try.ntmps16
          go_wp2
          go_ret2
          exact ⟨rfl, rfl⟩
        · clear h1 ha hb hf
          go_enter Try.func16, Try.ntmps16
          go_wp2
          go_ret2
          exact ⟨rfl, rfl⟩

theorem quo_c (a b : Int) (ha : Fit a) (w : World) :
    Calls Try.prog 17 #[.int .i64 a, .int .i64 b] w fun e w' => e = .returned (.tuple #[.int .i64 (quoV a b), .int .i64 (quoE a b)]) ∧ w = w' := by
  by_cases h0 : b = 0
  · subst h0
    rw [show quoV a 0 = 0 from rfl, show quoE a 0 = 11 from rfl]
    go_enter Try.func17, Try.ntmps17
    go_wp2
    go_ret2
    exact ⟨rfl, rfl⟩
  · have c0 : (b == 0) = false := by simp [h0]
    rw [show quoV a b = val (a.tdiv b) from if_neg h0, show quoE a b = err (a.tdiv b) from if_neg h0]
    by_cases h1 : a = -9223372036854775808 ∧ b = -1
    · obtain ⟨rfl, rfl⟩ := h1
      rw [val_no tdiv_least, err_no tdiv_least]
      go_enter Try.func17, Try.ntmps17
      go_wp2
      go_ret2
      exact ⟨rfl, rfl⟩
    · have hf := tdiv_fit ha h0 h1
      have hw := Lib.hid (wrap_fit hf)
      rw [val_of hf, err_of hf]
      rcases least_cases h1 with ⟨ca, cb⟩ | ca
      all_goals
        clear h1 ha hf
        go_enter Try.func17, Try.ntmps17
        go_wp2
        go_ret2
        exact ⟨ret2 hw.out rfl, rfl⟩

theorem rem_c (a b : Int) (w : World) :
    Calls Try.prog 18 #[.int .i64 a, .int .i64 b] w fun e w' => e = .returned (.tuple #[.int .i64 (remV a b), .int .i64 (remE b)]) ∧ w = w' := by
  by_cases h0 : b = 0
  · subst h0
    rw [show remV a 0 = 0 from rfl, show remE 0 = 11 from rfl]
    go_enter Try.func18, Try.ntmps18
    go_wp2
    go_ret2
    exact ⟨rfl, rfl⟩
  · have c0 : (b == 0) = false := by simp [h0]
    rw [show remV a b = a.tmod b from if_neg h0, show remE b = 0 from if_neg h0]
    go_enter Try.func18, Try.ntmps18
    go_wp2
    go_ret2
    exact ⟨rfl, rfl⟩

theorem lean_c (r b : Int) (w : World) :
    Calls Try.prog 50 #[.int .i64 r, .int .i64 b] w fun e w' => e = .returned (.bool (lean r b)) ∧ w = w' := by
  by_cases h0 : r = 0
  · have c0 : (r == 0) = true := by simp [h0]
    rw [show lean r b = false from by simp [lean, h0]]
    go_enter Try.func50, Try.ntmps50
    go_wp2
    go_ret
    exact ⟨rfl, rfl⟩
  · have c0 : (r == 0) = false := by simp [h0]
    have c1 : (r != 0) = true := by simp [h0]
    rw [show lean r b = (decide (r < 0) != decide (b < 0)) from by simp [lean, h0]]
    go_enter Try.func50, Try.ntmps50
    go_wp2
    go_ret
    exact ⟨rfl, rfl⟩

theorem div_c (a b : Int) (ha : Fit a) (w : World) :
    Calls Try.prog 31 #[.int .i64 a, .int .i64 b] w fun e w' => e = .returned (.tuple #[.int .i64 (divV a b), .int .i64 (divE a b)]) ∧ w = w' := by
  by_cases h0 : b = 0
  · subst h0
    rw [show divV a 0 = 0 from rfl, show divE a 0 = 11 from rfl]
    have e1 : quoE a 0 = 11 := rfl
    go_enter Try.func31, Try.ntmps31
    go_wp2_with (go_at_call 17; refine (quo_c a 0 ha _).mono ?_; rintro e w' ⟨rfl, rfl⟩)
    go_ret2
    exact ⟨rfl, rfl⟩
  · have c0 : (b == 0) = false := by simp [h0]
    rw [show divV a b = val (a.fdiv b) from if_neg h0, show divE a b = err (a.fdiv b) from if_neg h0]
    by_cases h1 : a = -9223372036854775808 ∧ b = -1
    · obtain ⟨rfl, rfl⟩ := h1
      rw [val_no fdiv_least, err_no fdiv_least]
      have e1 : quoE (-9223372036854775808) (-1) = 10 := by unfold quoE; rw [if_neg (by omega), err_no tdiv_least]
      go_enter Try.func31, Try.ntmps31
      go_wp2_with (go_at_call 17; refine (quo_c (-9223372036854775808) (-1) ha _).mono ?_; rintro e w' ⟨rfl, rfl⟩)
      go_ret2
      exact ⟨rfl, rfl⟩
    · have hf := tdiv_fit ha h0 h1
      have hg := fdiv_fit ha h0 h1
      have e1 : quoE a b = 0 := by unfold quoE; rw [if_neg h0, err_of hf]
      have e2 : quoV a b = a.tdiv b := by unfold quoV; rw [if_neg h0, val_of hf]
      rw [val_of hg, err_of hg]
      have hi := fdiv_is a b h0
      by_cases hl : lean (a.tmod b) b = true
      · rw [if_pos hl] at hi
        have hw := wrap_fit hg
        rw [hi] at hw
        have hi' := Lib.hid hi
        have hw' := Lib.hid hw
        clear h1 hf hg hi hw
        go_enter Try.func31, Try.ntmps31
        go_wp2_with (first | (go_at_call 17; refine (quo_c a b ha _).mono ?_; rintro e w' ⟨rfl, rfl⟩) | (go_at_call 50; refine (lean_c _ _ _).mono ?_; rintro e w' ⟨rfl, rfl⟩))
        go_ret2
        exact ⟨ret2 (by rw [hi'.out]; exact hw'.out) rfl, rfl⟩
      · rw [if_neg hl] at hi
        have hi' := Lib.hid hi
        clear h1 hf hg hi
        go_enter Try.func31, Try.ntmps31
        go_wp2_with (first | (go_at_call 17; refine (quo_c a b ha _).mono ?_; rintro e w' ⟨rfl, rfl⟩) | (go_at_call 50; refine (lean_c _ _ _).mono ?_; rintro e w' ⟨rfl, rfl⟩))
        go_ret2
        exact ⟨ret2 hi'.out.symm rfl, rfl⟩

theorem mod_c (a b : Int) (ha : Fit a) (hb : Fit b) (w : World) :
    Calls Try.prog 33 #[.int .i64 a, .int .i64 b] w fun e w' => e = .returned (.tuple #[.int .i64 (modV a b), .int .i64 (remE b)]) ∧ w = w' := by
  by_cases h0 : b = 0
  · subst h0
    rw [show modV a 0 = 0 from rfl, show remE 0 = 11 from rfl]
    have e1 : remE 0 = 11 := rfl
    go_enter Try.func33, Try.ntmps33
    go_wp2_with (go_at_call 18; refine (rem_c a 0 _).mono ?_; rintro e w' ⟨rfl, rfl⟩)
    go_ret2
    exact ⟨rfl, rfl⟩
  · have c0 : (b == 0) = false := by simp [h0]
    rw [show modV a b = a.fmod b from if_neg h0, show remE b = 0 from if_neg h0]
    have e1 : remE b = 0 := by unfold remE; rw [if_neg h0]
    have e2 : remV a b = a.tmod b := by unfold remV; rw [if_neg h0]
    have hg := fmod_fit ha hb h0
    have hi := fmod_is a b h0
    by_cases hl : lean (a.tmod b) b = true
    · rw [if_pos hl] at hi
      have hw := wrap_fit hg
      rw [hi] at hw
      have hi' := Lib.hid hi
      have hw' := Lib.hid hw
      clear hg hi hw
      go_enter Try.func33, Try.ntmps33
      go_wp2_with (first | (go_at_call 18; refine (rem_c a b _).mono ?_; rintro e w' ⟨rfl, rfl⟩) | (go_at_call 50; refine (lean_c _ _ _).mono ?_; rintro e w' ⟨rfl, rfl⟩))
      go_ret2
      exact ⟨ret2 (by rw [hi'.out]; exact hw'.out) rfl, rfl⟩
    · rw [if_neg hl] at hi
      have hi' := Lib.hid hi
      clear hg hi
      go_enter Try.func33, Try.ntmps33
      go_wp2_with (first | (go_at_call 18; refine (rem_c a b _).mono ?_; rintro e w' ⟨rfl, rfl⟩) | (go_at_call 50; refine (lean_c _ _ _).mono ?_; rintro e w' ⟨rfl, rfl⟩))
      go_ret2
      exact ⟨ret2 hi'.out.symm rfl, rfl⟩
end Go.Proofs.Ytpfkcllincfpkaa.nm
