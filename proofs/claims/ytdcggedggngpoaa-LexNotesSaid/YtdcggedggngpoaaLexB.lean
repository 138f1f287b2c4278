/- The bytes' classes: lex's class, joins; the reference's small, great, digit, named, blank, sign, mark. -/
import Derived.Test.YtdcggedggngpoaaLex
import Derived.Test.YtdcggedggngpoaaProg
import Derived.WalkKit
import Derived.Handy
import Derived.Outline
import Derived.PlainAid
import Derived.Lib.Hide
import Derived.BigQuiet
import Derived.Deep.QuietTactic
import Derived.WalkSmall
import Derived.WalkLawsBesides
namespace Go.Proofs.Ytdcggedggngpoaa.lx
open Go.RowKit

theorem ret_i {k : IntKind} {a b : Int} (h : a = b) : Ending.returned (.int k a) = .returned (.int k b) := by rw [h]
theorem ret_b {a b : Bool} (h : a = b) : Ending.returned (.bool a) = .returned (.bool b) := by rw [h]
theorem nat_beq {c k : Nat} (h : ((c : Int) == (k : Int)) = true) : c = k := by have := eq_of_beq h; omega
/-- all bytes at once -/
theorem all_bytes {P : Nat → Bool} (h : (List.range 256).all P = true) {c : Nat} (hc : c ≤ 255) : P c = true := by
  rw [List.all_eq_true] at h; exact h c (List.mem_range.2 (by omega))

set_option maxRecDepth 100000 in
set_option maxHeartbeats 4000000 in
theorem class_c (c : Nat) (_hc : c ≤ 255) (w : World) :
    Calls Try.prog 33 #[.int .u8 c] w fun e w' => e = .returned (.int .i64 (cls c : Nat)) ∧ w = w' := by
  go_enter Try.func33, Try.ntmps33
  go_wp2
  all_goals
    go_ret
    refine ⟨ret_i ?_, rfl⟩
    first
      | (have h : ((c : Int) == 32) = true := by assumption
         obtain rfl : c = 32 := nat_beq h
         rfl)
      | (have h : ((c : Int) == 9) = true := by assumption
         obtain rfl : c = 9 := nat_beq h
         rfl)
      | (have h : ((c : Int) == 10) = true := by assumption
         obtain rfl : c = 10 := nat_beq h
         rfl)
      | (have h : ((c : Int) == 13) = true := by assumption
         obtain rfl : c = 13 := nat_beq h
         rfl)
      | (have h : ((c : Int) == 43) = true := by assumption
         obtain rfl : c = 43 := nat_beq h
         rfl)
      | (have h : ((c : Int) == 45) = true := by assumption
         obtain rfl : c = 45 := nat_beq h
         rfl)
      | (have h : ((c : Int) == 42) = true := by assumption
         obtain rfl : c = 42 := nat_beq h
         rfl)
      | (have h : ((c : Int) == 47) = true := by assumption
         obtain rfl : c = 47 := nat_beq h
         rfl)
      | (have h : ((c : Int) == 92) = true := by assumption
         obtain rfl : c = 92 := nat_beq h
         rfl)
      | (have h : ((c : Int) == 94) = true := by assumption
         obtain rfl : c = 94 := nat_beq h
         rfl)
      | (have h : ((c : Int) == 60) = true := by assumption
         obtain rfl : c = 60 := nat_beq h
         rfl)
      | (have h : ((c : Int) == 62) = true := by assumption
         obtain rfl : c = 62 := nat_beq h
         rfl)
      | (have h : ((c : Int) == 61) = true := by assumption
         obtain rfl : c = 61 := nat_beq h
         rfl)
      | (have h : ((c : Int) == 58) = true := by assumption
         obtain rfl : c = 58 := nat_beq h
         rfl)
      | (have h : ((c : Int) == 46) = true := by assumption
         obtain rfl : c = 46 := nat_beq h
         rfl)
      | (have h : ((c : Int) == 63) = true := by assumption
         obtain rfl : c = 63 := nat_beq h
         rfl)
      | (have h : ((c : Int) == 64) = true := by assumption
         obtain rfl : c = 64 := nat_beq h
         rfl)
      | (have h : ((c : Int) == 35) = true := by assumption
         obtain rfl : c = 35 := nat_beq h
         rfl)
      | (have h : ((c : Int) == 36) = true := by assumption
         obtain rfl : c = 36 := nat_beq h
         rfl)
      | (have h : ((c : Int) == 38) = true := by assumption
         obtain rfl : c = 38 := nat_beq h
         rfl)
      | (have h : ((c : Int) == 126) = true := by assumption
         obtain rfl : c = 126 := nat_beq h
         rfl)
      | (have h : ((c : Int) == 39) = true := by assumption
         obtain rfl : c = 39 := nat_beq h
         rfl)
      | (have h : ((c : Int) == 33) = true := by assumption
         obtain rfl : c = 33 := nat_beq h
         rfl)
      | (have h : ((c : Int) == 59) = true := by assumption
         obtain rfl : c = 59 := nat_beq h
         rfl)
      | (have h : ((c : Int) == 40) = true := by assumption
         obtain rfl : c = 40 := nat_beq h
         rfl)
      | (have h : ((c : Int) == 41) = true := by assumption
         obtain rfl : c = 41 := nat_beq h
         rfl)
      | (have h : ((c : Int) == 91) = true := by assumption
         obtain rfl : c = 91 := nat_beq h
         rfl)
      | (have h : ((c : Int) == 93) = true := by assumption
         obtain rfl : c = 93 := nat_beq h
         rfl)
      | (have h : ((c : Int) == 123) = true := by assumption
         obtain rfl : c = 123 := nat_beq h
         rfl)
      | (have h : ((c : Int) == 125) = true := by assumption
         obtain rfl : c = 125 := nat_beq h
         rfl)
      | (have h : ((c : Int) == 44) = true := by assumption
         obtain rfl : c = 44 := nat_beq h
         rfl)
      | (have h : ((c : Int) == 124) = true := by assumption
         obtain rfl : c = 124 := nat_beq h
         rfl)
      | (try simp only [beq_iff_eq, beq_eq_false_iff_ne, ne_eq] at *
         unfold cls
         repeat' split
         all_goals omega)

theorem cls2 {c : Nat} (hc : c ≤ 255) : (cls c == 2) = (decide (97 ≤ c) && decide (c ≤ 122)) := by
  have := all_bytes (P := fun c => (cls c == 2) == (decide (97 ≤ c) && decide (c ≤ 122))) (by decide +kernel) hc
  exact eq_of_beq this
theorem cls3 {c : Nat} (hc : c ≤ 255) : (cls c == 3) = ((decide (65 ≤ c) && decide (c ≤ 90)) || c == 95) := by
  have := all_bytes (P := fun c => (cls c == 3) == ((decide (65 ≤ c) && decide (c ≤ 90)) || c == 95)) (by decide +kernel) hc
  exact eq_of_beq this
theorem cls4 {c : Nat} (hc : c ≤ 255) : (cls c == 4) = (decide (48 ≤ c) && decide (c ≤ 57)) := by
  have := all_bytes (P := fun c => (cls c == 4) == (decide (48 ≤ c) && decide (c ≤ 57))) (by decide +kernel) hc
  exact eq_of_beq this
theorem cls1 {c : Nat} (hc : c ≤ 255) : (cls c == 1) = (c == 32 || c == 9 || c == 10 || c == 13) := by
  have := all_bytes (P := fun c => (cls c == 1) == (c == 32 || c == 9 || c == 10 || c == 13)) (by decide +kernel) hc
  exact eq_of_beq this
theorem cls8 {c : Nat} (hc : c ≤ 255) : (cls c == 8) = (c == 40 || c == 41 || c == 91 || c == 93 || c == 123 || c == 125 || c == 44 || c == 124) := by
  have := all_bytes (P := fun c => (cls c == 8) == (c == 40 || c == 41 || c == 91 || c == 93 || c == 123 || c == 125 || c == 44 || c == 124)) (by decide +kernel) hc
  exact eq_of_beq this

/-- the reference's classes -/
theorem small_c (c : Nat) (hc : c ≤ 255) (w : World) :
    Calls Try.prog 16 #[.int .u8 c] w fun e w' => e = .returned (.bool (cls c == 2)) ∧ w = w' := by
  rw [cls2 hc]
  go_enter Try.func16, Try.ntmps16
  go_wp2
  all_goals
    go_ret
    refine ⟨ret_b ?_, rfl⟩
    rw [Bool.eq_iff_iff]
    simp
    try omega
theorem great_c (c : Nat) (hc : c ≤ 255) (w : World) :
    Calls Try.prog 18 #[.int .u8 c] w fun e w' => e = .returned (.bool (cls c == 3)) ∧ w = w' := by
  rw [cls3 hc]
  go_enter Try.func18, Try.ntmps18
  go_wp2
  all_goals
    go_ret
    refine ⟨ret_b ?_, rfl⟩
    rw [Bool.eq_iff_iff]
    simp
    try omega
theorem digit_c (c : Nat) (hc : c ≤ 255) (w : World) :
    Calls Try.prog 19 #[.int .u8 c] w fun e w' => e = .returned (.bool (cls c == 4)) ∧ w = w' := by
  rw [cls4 hc]
  go_enter Try.func19, Try.ntmps19
  go_wp2
  all_goals
    go_ret
    refine ⟨ret_b ?_, rfl⟩
    rw [Bool.eq_iff_iff]
    simp
    try omega
theorem blank_c (c : Nat) (hc : c ≤ 255) (w : World) :
    Calls Try.prog 15 #[.int .u8 c] w fun e w' => e = .returned (.bool (cls c == 1)) ∧ w = w' := by
  rw [cls1 hc]
  go_enter Try.func15, Try.ntmps15
  go_wp2
  all_goals
    go_ret
    refine ⟨ret_b ?_, rfl⟩
    rw [Bool.eq_iff_iff]
    simp
    try omega
theorem mark_c (c : Nat) (hc : c ≤ 255) (w : World) :
    Calls Try.prog 21 #[.int .u8 c] w fun e w' => e = .returned (.bool (cls c == 8)) ∧ w = w' := by
  rw [cls8 hc]
  go_enter Try.func21, Try.ntmps21
  go_wp2
  all_goals
    go_ret
    refine ⟨ret_b ?_, rfl⟩
    rw [Bool.eq_iff_iff]
    simp
    try omega
/-- a class that a word is made of -/
theorem joinB_name (y : Nat) : joinB 2 y = (y == 2 || y == 3 || y == 4) ∧ joinB 3 y = (y == 2 || y == 3 || y == 4) ∧ joinB 4 y = (y == 4) ∧ joinB 5 y = (y == 5) := ⟨rfl, rfl, rfl, rfl⟩
theorem joins_c (x y : Nat) (w : World) :
    Calls Try.prog 48 #[.int .i64 x, .int .i64 y] w fun e w' => e = .returned (.bool (joinB x y)) ∧ w = w' := by
  go_enter Try.func48, Try.ntmps48
  go_wp2
  all_goals
    go_ret
    refine ⟨ret_b ?_, rfl⟩
    simp only [beq_iff_eq, beq_eq_false_iff_ne, ne_eq] at *
    rw [Bool.eq_iff_iff]
    unfold joinB
    repeat' split
    all_goals (simp; try omega)
/-- the reference's name bytes -/
theorem named_c (c : Nat) (hc : c ≤ 255) (w : World) :
    Calls Try.prog 29 #[.int .u8 c] w fun e w' => e = .returned (.bool (joinB 2 (cls c))) ∧ w = w' := by
  rw [(joinB_name _).1]
  have k2 := small_c c hc
  have k3 := great_c c hc
  have k4 := digit_c c hc
  cases h2 : cls c == 2 <;> cases h3 : cls c == 3 <;> (rw [h2] at k2; rw [h3] at k3)
  all_goals
    go_enter Try.func29, Try.ntmps29
    go_wp2_with (first | (go_at_call 16; (with_reducible refine (k2 _).mono ?_); rintro e w' ⟨rfl, rfl⟩) | (go_at_call 18; (with_reducible refine (k3 _).mono ?_); rintro e w' ⟨rfl, rfl⟩) | (go_at_call 19; (with_reducible refine (k4 _).mono ?_); rintro e w' ⟨rfl, rfl⟩))
    go_ret
    exact ⟨ret_b (by simp), rfl⟩

end Go.Proofs.Ytdcggedggngpoaa.lx
