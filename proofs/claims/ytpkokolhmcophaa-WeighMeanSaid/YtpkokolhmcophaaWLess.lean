/- Contracts of what tells which weight is ahead; the walks of WeighLess and WeighWeak. -/
import Derived.Test.YtpkokolhmcophaaProg
import Derived.Test.YtpkokolhmcophaaFl
import Derived.WalkKit
import Derived.Handy
import Derived.Outline
import Derived.Below
namespace Go.Proofs.Ytpkokolhmcophaa.fl
open Go.RowKit

theorem ret_b {p q : Bool} (h : p = q) : Ending.returned (.bool p) = .returned (.bool q) := by rw [h]

theorem isNumber_c (x : Nat) (w : World) :
    Calls Try.prog 22 #[.float .f64 x] w fun e w' => e = .returned (.bool (!nan x)) ∧ w = w' := by
  have h := Lib.hid (self_eq x)
  go_enter Try.func22, Try.ntmps22
  go_wp2
  go_ret
  exact ⟨ret_b h.out, rfl⟩

theorem less_c (x y : Nat) (w : World) :
    Calls Try.prog 13 #[.float .f64 x, .float .f64 y] w fun e w' => e = .returned (.bool (less x y)) ∧ w = w' := by
  have h := is_lt x y
  have h1 := isNumber_c x
  have h2 := isNumber_c y
  unfold less
  cases hx : nan x <;> rw [hx] at h h1
  · cases hy : nan y <;> rw [hy] at h h2
    · cases hl : lt x y <;> rw [hl] at h
      all_goals
        have H := Lib.hid h
        have t : (FloatKind.f64.format.order x y == some .lt) = _ := h
        clear h hx hy
        go_enter Try.func13, Try.ntmps13
        go_wp2_with (first | ((with_reducible refine (h1 _).mono ?_); rintro e w' ⟨rfl, rfl⟩) | ((with_reducible refine (h2 _).mono ?_); rintro e w' ⟨rfl, rfl⟩))
        go_ret
        exact ⟨ret_b (by first | rfl | (rw [H.out]; rfl)), rfl⟩
    · have H := Lib.hid h
      clear h hx hy
      have t : (FloatKind.f64.format.order x y == some .lt) = false := H.out
      go_enter Try.func13, Try.ntmps13
      go_wp2_with (first | ((with_reducible refine (h1 _).mono ?_); rintro e w' ⟨rfl, rfl⟩) | ((with_reducible refine (h2 _).mono ?_); rintro e w' ⟨rfl, rfl⟩))
      go_ret
      exact ⟨ret_b (by first | rfl | (rw [H.out]; rfl)), rfl⟩
  · have H := Lib.hid h
    clear h hx
    have t : (FloatKind.f64.format.order x y == some .lt) = false := H.out
    go_enter Try.func13, Try.ntmps13
    go_wp2_with (first | ((with_reducible refine (h1 _).mono ?_); rintro e w' ⟨rfl, rfl⟩) | ((with_reducible refine (h2 _).mono ?_); rintro e w' ⟨rfl, rfl⟩))
    go_ret
    exact ⟨ret_b (by first | rfl | (rw [H.out]; rfl)), rfl⟩

theorem nan_c (x : Nat) (w : World) :
    Calls Try.prog 18 #[.float .f64 x] w fun e w' => e = .returned (.bool (nan x)) ∧ w = w' := by
  have g := is_gt x 0
  have l := is_lt x 0
  have q := is_eq x 0
  rw [nan0] at g l q
  cases hx : nan x <;> rw [hx] at g l q
  · cases h1 : lt x 0 <;> cases h2 : lt 0 x <;> rw [h1] at l q <;> rw [h2] at g q <;> simp only [Bool.not_false, Bool.not_true, Bool.and_true, Bool.and_false] at g l q
    all_goals
      clear hx h1 h2
      have G := Lib.hid g
      have L := Lib.hid l
      have Q := Lib.hid q
      go_enter Try.func18, Try.ntmps18
      go_wp2
      go_ret
      exact ⟨ret_b (by first | rfl | (rw [G.out, L.out, Q.out]; rfl) | (rw [L.out, Q.out]; rfl) | (rw [G.out, Q.out]; rfl)), rfl⟩
  · simp only [Bool.not_false, Bool.not_true, Bool.and_true, Bool.false_and] at g l q
    clear hx
    go_enter Try.func18, Try.ntmps18
    go_wp2
    go_ret
    exact ⟨rfl, rfl⟩

theorem refLess_c (x y : Nat) (w : World) :
    Calls Try.prog 19 #[.float .f64 x, .float .f64 y] w fun e w' => e = .returned (.bool (less x y)) ∧ w = w' := by
  have h := is_lt x y
  have h1 := nan_c x
  have h2 := nan_c y
  unfold less
  cases hx : nan x <;> rw [hx] at h h1
  · cases hy : nan y <;> rw [hy] at h h2
    · have H := Lib.hid h
      clear h hx hy
      go_enter Try.func19, Try.ntmps19
      go_wp2_with fail
      refine (h1 _).mono ?_; rintro e w' ⟨rfl, rfl⟩; go_wp2_with fail
      refine (h2 _).mono ?_; rintro e w' ⟨rfl, rfl⟩; go_wp2_with fail
      go_ret
      exact ⟨ret_b (by rw [H.out]; rfl), rfl⟩
    · clear h hx hy
      go_enter Try.func19, Try.ntmps19
      go_wp2_with fail
      refine (h1 _).mono ?_; rintro e w' ⟨rfl, rfl⟩; go_wp2_with fail
      refine (h2 _).mono ?_; rintro e w' ⟨rfl, rfl⟩; go_wp2_with fail
      go_ret
      exact ⟨rfl, rfl⟩
  · clear h hx
    go_enter Try.func19, Try.ntmps19
    go_wp2_with fail
    refine (h1 _).mono ?_; rintro e w' ⟨rfl, rfl⟩; go_wp2_with fail
    go_ret
    exact ⟨rfl, rfl⟩
end Go.Proofs.Ytpkokolhmcophaa.fl
