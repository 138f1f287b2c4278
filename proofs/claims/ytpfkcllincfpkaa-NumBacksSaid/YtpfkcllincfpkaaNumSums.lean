/- The walks of NumSums and NumBacks. -/
import Derived.Test.YtpfkcllincfpkaaNumLaws
import Derived.Test.YtpfkcllincfpkaaRefD
namespace Go.Proofs.Ytpfkcllincfpkaa.nm
open Go.RowKit Go.Proofs.Ytpfkcllincfpkaa.dg

theorem absI_is (a : Int) : absI a = (a.natAbs : Int) := by unfold absI; split <;> omega

theorem numSums_walk (a0 : Int) (a1 : Int) (w : World) (w0 : (Lit.int .i64 a0).wf = true) (w1 : (Lit.int .i64 a1).wf = true) :
    Calls Try.prog 5 #[.int .i64 a0, .int .i64 a1] w fun e w' => e = .returned (.bool true) ∧ Below w.heap.size w w' := by
  have ha := fit_wf w0
  have hb := fit_wf w1
  have k1 := add_c a0 a1 ha hb
  have k2 := add_r a0 a1 ha hb
  have k3 := sub_c a0 a1 ha hb
  have k4 := sub_r a0 a1 ha hb
  have k5 := neg_c a0 ha
  have k6 := neg_r a0 ha
  have k7 := abs_c a1 hb
  have k8 := abs_r a1 hb
  rw [absI_is] at k7
  clear w0 w1 ha hb
  generalize a0 + a1 = x1 at *
  generalize a0 - a1 = x2 at *
  generalize -a0 = x3 at *
  generalize (a1.natAbs : Int) = x4 at *
  go_enter Try.func5, Try.ntmps5
  go_wp2_with fail
  refine (k1 _).mono ?_; rintro e w' ⟨rfl, rfl⟩; go_wp2_with fail
  refine (k2 _).mono ?_; rintro e w2 ⟨rfl, b2⟩; go_wp2_with fail
  refine (k3 _).mono ?_; rintro e w' ⟨rfl, rfl⟩; go_wp2_with fail
  refine (k4 _).mono ?_; rintro e w4 ⟨rfl, b4⟩; go_wp2_with fail
  refine (k5 _).mono ?_; rintro e w' ⟨rfl, rfl⟩; go_wp2_with fail
  refine (k6 _).mono ?_; rintro e w6 ⟨rfl, b6⟩; go_wp2_with fail
  refine (k7 _).mono ?_; rintro e w' ⟨rfl, rfl⟩; go_wp2_with fail
  refine (k8 _).mono ?_; rintro e w8 ⟨rfl, b8⟩; go_wp2_with fail
  go_ret
  exact ⟨rfl, chain (chain (chain b2 b4) b6) b8⟩

theorem numBacks_walk (a0 : Int) (a1 : Int) (w : World) (w0 : (Lit.int .i64 a0).wf = true) (w1 : (Lit.int .i64 a1).wf = true) :
    Calls Try.prog 3 #[.int .i64 a0, .int .i64 a1] w fun e w' => e = .returned (.bool true) ∧ Below w.heap.size w w' := by
  have ha := fit_wf w0
  have hb := fit_wf w1
  have k1 := add_c a0 a1 ha hb
  have k2 := add_r a0 a1 ha hb
  have k4 := mul_c a0 a1 ha hb
  have k3 : Fit (a0 + a1) → ∀ w, Calls Try.prog 15 #[.int .i64 (a0 + a1), .int .i64 a1] w fun e w' => e = .returned (.tuple #[.int .i64 a0, .int .i64 0]) ∧ w = w' := fun h w =>
    (sub_c (a0 + a1) a1 h hb w).mono fun e w' ⟨he, hw⟩ => ⟨by rw [he, show a0 + a1 - a1 = a0 from by omega, val_of ha, err_of ha], hw⟩
  have k5 : Fit (a0 * a1) → a1 ≠ 0 → ∀ w, Calls Try.prog 17 #[.int .i64 (a0 * a1), .int .i64 a1] w fun e w' => e = .returned (.tuple #[.int .i64 a0, .int .i64 0]) ∧ w = w' := fun h h0 w =>
    (quo_c (a0 * a1) a1 h w).mono fun e w' ⟨he, hw⟩ => ⟨by rw [he, quoV, quoE, if_neg h0, if_neg h0, Int.mul_tdiv_cancel _ h0, val_of ha, err_of ha], hw⟩
  have k6 : a1 ≠ 0 → ∀ w, Calls Try.prog 18 #[.int .i64 (a0 * a1), .int .i64 a1] w fun e w' => e = .returned (.tuple #[.int .i64 0, .int .i64 0]) ∧ w = w' := fun h0 w =>
    (rem_c (a0 * a1) a1 w).mono fun e w' ⟨he, hw⟩ => ⟨by rw [he, remV, remE, if_neg h0, if_neg h0, Int.mul_tmod_left], hw⟩
  have e1 := err_cases (a0 + a1)
  have e2 := err_cases (a0 * a1)
  have e3 : a1 = 0 → a0 * a1 = 0 := fun h => by rw [h, Int.mul_zero]
  generalize a0 + a1 = s at *
  generalize a0 * a1 = p at *
  have b1 : a1 = 0 → (a1 == 0) = true := fun h => by simp [h]
  have b0 : a1 ≠ 0 → (a1 == 0) = false := fun h => by simp [h]
  clear w0 w1 ha hb
  rcases e1 with ⟨e1, v1, f1⟩ | ⟨e1, v1, f1⟩
  · have k3' := k3 f1
    rw [e1, v1] at k1
    unfold Fits at k2
    rw [e1, v1] at k2
    clear e1 v1 f1 k3
    rcases e2 with ⟨e2, v2, f2⟩ | ⟨e2, v2, f2⟩
    · rw [e2, v2] at k4
      clear e2 v2
      by_cases h0 : a1 = 0
      · have hp := e3 h0
        have bb := b1 h0
        subst hp
        clear e3 k5 k6 b0 b1 h0 f2
        go_enter Try.func3, Try.ntmps3
        go_wp2_with fail
        refine (k1 _).mono ?_; rintro e w' ⟨rfl, rfl⟩; go_wp2_with fail
        refine (k2 _).mono ?_; rintro e w2 ⟨rfl, b2⟩; go_wp2_with fail
        refine (k3' _).mono ?_; rintro e w' ⟨rfl, rfl⟩; go_wp2_with fail
        refine (k4 _).mono ?_; rintro e w' ⟨rfl, rfl⟩; go_wp2_with fail
        go_ret
        exact ⟨rfl, b2⟩
      · have k5 := k5 f2 h0
        have k6 := k6 h0
        have bb := b0 h0
        clear e3 b0 b1 f2
        go_enter Try.func3, Try.ntmps3
        go_wp2_with fail
        refine (k1 _).mono ?_; rintro e w' ⟨rfl, rfl⟩; go_wp2_with fail
        refine (k2 _).mono ?_; rintro e w2 ⟨rfl, b2⟩; go_wp2_with fail
        refine (k3' _).mono ?_; rintro e w' ⟨rfl, rfl⟩; go_wp2_with fail
        refine (k4 _).mono ?_; rintro e w' ⟨rfl, rfl⟩; go_wp2_with fail
        refine (k5 _).mono ?_; rintro e w' ⟨rfl, rfl⟩; go_wp2_with fail
        refine (k6 _).mono ?_; rintro e w' ⟨rfl, rfl⟩; go_wp2_with fail
        go_ret
        exact ⟨rfl, b2⟩
    · rw [e2, v2] at k4
      clear e3 k5 k6 b0 b1 e2 v2 f2
      go_enter Try.func3, Try.ntmps3
      go_wp2_with fail
      refine (k1 _).mono ?_; rintro e w' ⟨rfl, rfl⟩; go_wp2_with fail
      refine (k2 _).mono ?_; rintro e w2 ⟨rfl, b2⟩; go_wp2_with fail
      refine (k3' _).mono ?_; rintro e w' ⟨rfl, rfl⟩; go_wp2_with fail
      refine (k4 _).mono ?_; rintro e w' ⟨rfl, rfl⟩; go_wp2_with fail
      go_ret
      exact ⟨rfl, b2⟩
  · rw [e1, v1] at k1
    unfold Fits at k2
    rw [e1, v1] at k2
    clear e1 v1 f1 k3
    rcases e2 with ⟨e2, v2, f2⟩ | ⟨e2, v2, f2⟩
    · rw [e2, v2] at k4
      clear e2 v2
      by_cases h0 : a1 = 0
      · have hp := e3 h0
        have bb := b1 h0
        subst hp
        clear e3 k5 k6 b0 b1 h0 f2
        go_enter Try.func3, Try.ntmps3
        go_wp2_with fail
        refine (k1 _).mono ?_; rintro e w' ⟨rfl, rfl⟩; go_wp2_with fail
        refine (k2 _).mono ?_; rintro e w2 ⟨rfl, b2⟩; go_wp2_with fail
        refine (k4 _).mono ?_; rintro e w' ⟨rfl, rfl⟩; go_wp2_with fail
        go_ret
        exact ⟨rfl, b2⟩
      · have k5 := k5 f2 h0
        have k6 := k6 h0
        have bb := b0 h0
        clear e3 b0 b1 f2
        go_enter Try.func3, Try.ntmps3
        go_wp2_with fail
        refine (k1 _).mono ?_; rintro e w' ⟨rfl, rfl⟩; go_wp2_with fail
        refine (k2 _).mono ?_; rintro e w2 ⟨rfl, b2⟩; go_wp2_with fail
        refine (k4 _).mono ?_; rintro e w' ⟨rfl, rfl⟩; go_wp2_with fail
        refine (k5 _).mono ?_; rintro e w' ⟨rfl, rfl⟩; go_wp2_with fail
        refine (k6 _).mono ?_; rintro e w' ⟨rfl, rfl⟩; go_wp2_with fail
        go_ret
        exact ⟨rfl, b2⟩
    · rw [e2, v2] at k4
      clear e3 k5 k6 b0 b1 e2 v2 f2
      go_enter Try.func3, Try.ntmps3
      go_wp2_with fail
      refine (k1 _).mono ?_; rintro e w' ⟨rfl, rfl⟩; go_wp2_with fail
      refine (k2 _).mono ?_; rintro e w2 ⟨rfl, b2⟩; go_wp2_with fail
      refine (k4 _).mono ?_; rintro e w' ⟨rfl, rfl⟩; go_wp2_with fail
      go_ret
      exact ⟨rfl, b2⟩

end Go.Proofs.Ytpfkcllincfpkaa.nm
