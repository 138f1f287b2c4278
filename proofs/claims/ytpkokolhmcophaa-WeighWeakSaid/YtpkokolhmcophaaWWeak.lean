/- The walks of WeighLess and WeighWeak. -/
import Derived.Test.YtpkokolhmcophaaWLess
namespace Go.Proofs.Ytpkokolhmcophaa.fl
open Go.RowKit

theorem weighLess_walk (a0 a1 : Nat) (w : World) :
    Calls Try.prog 6 #[.float .f64 a0, .float .f64 a1] w fun e w' => e = .returned (.bool true) ∧ Below w.heap.size w w' := by
  have h1 := less_c a0 a1
  have h2 := less_c a1 a0
  have h3 := refLess_c a0 a1
  have h4 := refLess_c a1 a0
  have asy := @less_asymm a0 a1
  generalize less a0 a1 = x at *
  generalize less a1 a0 = y at *
  cases x <;> cases y
  case true.true => cases asy rfl
  all_goals
    clear asy
    go_enter Try.func6, Try.ntmps6
    go_wp2_with fail
    refine (h1 _).mono ?_; rintro e w' ⟨rfl, rfl⟩; go_wp2_with fail
    refine (h2 _).mono ?_; rintro e w' ⟨rfl, rfl⟩; go_wp2_with fail
    refine (h3 _).mono ?_; rintro e w' ⟨rfl, rfl⟩; go_wp2_with fail
    refine (h4 _).mono ?_; rintro e w' ⟨rfl, rfl⟩; go_wp2_with fail
    go_ret
    exact ⟨rfl, Below.refl _ _⟩

theorem six (x y z x' y' z' : Bool) (q1 : x = true → y = true → z = true) (q2 : z = true → x = true ∨ y = true) (q3 : z' = true → y' = true ∨ x' = true) (p1 : x = true → x' = false) (p2 : y = true → y' = false) (p3 : z = true → z' = false) :
    (x = false ∧ y = false ∧ z = false ∧ x' = false ∧ y' = false ∧ z' = false) ∨
    (x = false ∧ y = false ∧ z = false ∧ x' = false ∧ y' = true ∧ z' = false) ∨
    (x = false ∧ y = false ∧ z = false ∧ x' = false ∧ y' = true ∧ z' = true) ∨
    (x = false ∧ y = false ∧ z = false ∧ x' = true ∧ y' = false ∧ z' = false) ∨
    (x = false ∧ y = false ∧ z = false ∧ x' = true ∧ y' = false ∧ z' = true) ∨
    (x = false ∧ y = false ∧ z = false ∧ x' = true ∧ y' = true ∧ z' = false) ∨
    (x = false ∧ y = false ∧ z = false ∧ x' = true ∧ y' = true ∧ z' = true) ∨
    (x = false ∧ y = true ∧ z = false ∧ x' = false ∧ y' = false ∧ z' = false) ∨
    (x = false ∧ y = true ∧ z = false ∧ x' = true ∧ y' = false ∧ z' = false) ∨
    (x = false ∧ y = true ∧ z = false ∧ x' = true ∧ y' = false ∧ z' = true) ∨
    (x = false ∧ y = true ∧ z = true ∧ x' = false ∧ y' = false ∧ z' = false) ∨
    (x = false ∧ y = true ∧ z = true ∧ x' = true ∧ y' = false ∧ z' = false) ∨
    (x = true ∧ y = false ∧ z = false ∧ x' = false ∧ y' = false ∧ z' = false) ∨
    (x = true ∧ y = false ∧ z = false ∧ x' = false ∧ y' = true ∧ z' = false) ∨
    (x = true ∧ y = false ∧ z = false ∧ x' = false ∧ y' = true ∧ z' = true) ∨
    (x = true ∧ y = false ∧ z = true ∧ x' = false ∧ y' = false ∧ z' = false) ∨
    (x = true ∧ y = false ∧ z = true ∧ x' = false ∧ y' = true ∧ z' = false) ∨
    (x = true ∧ y = true ∧ z = true ∧ x' = false ∧ y' = false ∧ z' = false) := by
  cases x <;> cases y <;> cases z <;> cases x' <;> cases y' <;> cases z' <;> simp at *

set_option maxHeartbeats 8000000 in
theorem weighWeak_walk (a0 a1 a2 : Nat) (w : World) :
    Calls Try.prog 8 #[.float .f64 a0, .float .f64 a1, .float .f64 a2] w fun e w' => e = .returned (.bool true) ∧ Below w.heap.size w w' := by
  have h1 := less_c a0 a1
  have h2 := less_c a1 a2
  have h3 := less_c a0 a2
  have h4 := refLess_c a0 a1
  have h5 := less_c a1 a0
  have h6 := less_c a2 a1
  have h7 := less_c a2 a0
  have q1 := @less_trans a0 a1 a2
  have p1 := @less_asymm a0 a1
  have p2 := @less_asymm a1 a2
  have p3 := @less_asymm a0 a2
  have q2 := @less_ntrans a0 a1 a2
  have q3 := @less_ntrans a2 a1 a0
  generalize less a0 a1 = x at *
  generalize less a1 a2 = y at *
  generalize less a0 a2 = z at *
  generalize less a1 a0 = x' at *
  generalize less a2 a1 = y' at *
  generalize less a2 a0 = z' at *
  have key := six _ _ _ _ _ _ q1 q2 q3 p1 p2 p3
  clear q1 q2 q3 p1 p2 p3
  rcases key with ⟨rfl, rfl, rfl, rfl, rfl, rfl⟩ | ⟨rfl, rfl, rfl, rfl, rfl, rfl⟩ | ⟨rfl, rfl, rfl, rfl, rfl, rfl⟩ | ⟨rfl, rfl, rfl, rfl, rfl, rfl⟩ | ⟨rfl, rfl, rfl, rfl, rfl, rfl⟩ | ⟨rfl, rfl, rfl, rfl, rfl, rfl⟩ | ⟨rfl, rfl, rfl, rfl, rfl, rfl⟩ | ⟨rfl, rfl, rfl, rfl, rfl, rfl⟩ | ⟨rfl, rfl, rfl, rfl, rfl, rfl⟩ | ⟨rfl, rfl, rfl, rfl, rfl, rfl⟩ | ⟨rfl, rfl, rfl, rfl, rfl, rfl⟩ | ⟨rfl, rfl, rfl, rfl, rfl, rfl⟩ | ⟨rfl, rfl, rfl, rfl, rfl, rfl⟩ | ⟨rfl, rfl, rfl, rfl, rfl, rfl⟩ | ⟨rfl, rfl, rfl, rfl, rfl, rfl⟩ | ⟨rfl, rfl, rfl, rfl, rfl, rfl⟩ | ⟨rfl, rfl, rfl, rfl, rfl, rfl⟩ | ⟨rfl, rfl, rfl, rfl, rfl, rfl⟩
  all_goals
      go_enter Try.func8, Try.ntmps8
      go_wp2_with fail
      refine (h1 _).mono ?_; rintro e w' ⟨rfl, rfl⟩; go_wp2_with fail
      refine (h2 _).mono ?_; rintro e w' ⟨rfl, rfl⟩; go_wp2_with fail
      refine (h3 _).mono ?_; rintro e w' ⟨rfl, rfl⟩; go_wp2_with fail
      refine (h4 _).mono ?_; rintro e w' ⟨rfl, rfl⟩; go_wp2_with fail
      repeat ((first | ((with_reducible refine (h5 _).mono ?_); rintro e w' ⟨rfl, rfl⟩) | ((with_reducible refine (h6 _).mono ?_); rintro e w' ⟨rfl, rfl⟩) | ((with_reducible refine (h7 _).mono ?_); rintro e w' ⟨rfl, rfl⟩)); go_wp2_with fail)
      go_ret
      exact ⟨rfl, Below.refl _ _⟩
end Go.Proofs.Ytpkokolhmcophaa.fl
