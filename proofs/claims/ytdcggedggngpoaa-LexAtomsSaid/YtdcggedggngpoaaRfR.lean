/- The reference: run. -/
import Derived.Test.YtdcggedggngpoaaRfA
namespace Go.Proofs.Ytdcggedggngpoaa.lx
open Go.RowKit

theorem run_end {s : ByteArray} {n m y : Nat} (hn : n ≤ m) (hlt : n < s.size) (hm : m ≤ s.size) (h0 : joinB y (cl (bA s n)) = true) (h1 : ∀ j, n ≤ j → j < m → joinB y (cl (bA s j)) = true) (h2 : m < s.size → joinB y (cl (bA s m)) = false) :
    m = n + 1 + (wordL s n y).length := by
  have hne : n ≠ m := fun e => by
    subst e; rw [h2 hlt] at h0; cases h0
  rw [(wordL_is (s := s) (n := n) (m := m) (y := y) (by omega) hm (fun j a b => h1 j (by omega) b) h2).2]; omega

set_option maxHeartbeats 1000000 in
theorem run1_c (s : ByteArray) (n : Nat) (hn : n < s.size) (hs : s.size ≤ 4096) (h0 : joinB 2 (cl (bA s n)) = true) (w : World) :
    Calls Try.prog 17 #[.string s, .int .i64 n, .int .i64 1] w fun e w' => e = .returned (.int .i64 ((n + 1 + (wordL s n 2).length : Nat) : Int)) ∧ w = w' := by
  have H0 := Lib.hid h0
  have hgt := get_bA s
  clear h0
  go_enter Try.func17, Try.ntmps17
  go_wp2
  go_loop [1] (fun i => ∃ m : Nat, i = .int .i64 m ∧ n ≤ m ∧ m ≤ s.size ∧ Hid (∀ j, n ≤ j → j < m → joinB 2 (cl (bA s j)) = true)) (fun i => s.size - (intOf i).toNat)
  case atStart => exact ⟨n, rfl, by omega, by omega, Lib.hid (fun j a b => absurd b (by omega))⟩
  case round =>
    obtain ⟨m, rfl, hnm, hm, hj⟩ := hrel
    by_cases hlt : m < s.size
    · have hlt2 : (m : Int) < s.size := by omega
      have kc := named_c (bA s m).toNat (bA_le s _)
      cases hb : joinB 2 (cl (bA s m))
      all_goals
        have Hb := Lib.hid hb
        unfold cl at hb
        first | rw [(joinB_name _).2.2.1] at hb | rw [(joinB_name _).2.2.2] at hb | skip
        rw [hb] at kc
        clear hb
      · go_wp2_with (go_at_call 29; (with_reducible refine (kc _).mono ?_); rintro e w' ⟨rfl, rfl⟩)
        go_ret
        exact ⟨ret_i (by have := run_end hnm hn hm H0.out hj.out (fun _ => Hb.out); omega), rfl⟩
      · have hj' := Lib.hid (show ∀ j, n ≤ j → j < m + 1 → joinB 2 (cl (bA s j)) = true from fun j a b => by
          by_cases e : j = m
          · rw [e]; exact Hb.out
          · exact hj.out j a (by omega))
        go_wp2_with (go_at_call 29; (with_reducible refine (kc _).mono ?_); rintro e w' ⟨rfl, rfl⟩)
        exact ⟨⟨m + 1, by go_num, by omega, by omega, hj'⟩, by simp [intOf]; omega⟩
    · have hlt2 : ¬ ((m : Int) < s.size) := by omega
      go_wp2
      go_ret
      exact ⟨ret_i (by have := run_end hnm hn hm H0.out hj.out (fun h => absurd h hlt); omega), rfl⟩

set_option maxHeartbeats 1000000 in
theorem run2_c (s : ByteArray) (n : Nat) (hn : n < s.size) (hs : s.size ≤ 4096) (h0 : joinB 4 (cl (bA s n)) = true) (w : World) :
    Calls Try.prog 17 #[.string s, .int .i64 n, .int .i64 2] w fun e w' => e = .returned (.int .i64 ((n + 1 + (wordL s n 4).length : Nat) : Int)) ∧ w = w' := by
  have H0 := Lib.hid h0
  have hgt := get_bA s
  clear h0
  go_enter Try.func17, Try.ntmps17
  go_wp2
  go_loop [1] (fun i => ∃ m : Nat, i = .int .i64 m ∧ n ≤ m ∧ m ≤ s.size ∧ Hid (∀ j, n ≤ j → j < m → joinB 4 (cl (bA s j)) = true)) (fun i => s.size - (intOf i).toNat)
  case atStart => exact ⟨n, rfl, by omega, by omega, Lib.hid (fun j a b => absurd b (by omega))⟩
  case round =>
    obtain ⟨m, rfl, hnm, hm, hj⟩ := hrel
    by_cases hlt : m < s.size
    · have hlt2 : (m : Int) < s.size := by omega
      have kc := digit_c (bA s m).toNat (bA_le s _)
      cases hb : joinB 4 (cl (bA s m))
      all_goals
        have Hb := Lib.hid hb
        unfold cl at hb
        first | rw [(joinB_name _).2.2.1] at hb | rw [(joinB_name _).2.2.2] at hb | skip
        rw [hb] at kc
        clear hb
      · go_wp2_with (go_at_call 19; (with_reducible refine (kc _).mono ?_); rintro e w' ⟨rfl, rfl⟩)
        go_ret
        exact ⟨ret_i (by have := run_end hnm hn hm H0.out hj.out (fun _ => Hb.out); omega), rfl⟩
      · have hj' := Lib.hid (show ∀ j, n ≤ j → j < m + 1 → joinB 4 (cl (bA s j)) = true from fun j a b => by
          by_cases e : j = m
          · rw [e]; exact Hb.out
          · exact hj.out j a (by omega))
        go_wp2_with (go_at_call 19; (with_reducible refine (kc _).mono ?_); rintro e w' ⟨rfl, rfl⟩)
        exact ⟨⟨m + 1, by go_num, by omega, by omega, hj'⟩, by simp [intOf]; omega⟩
    · have hlt2 : ¬ ((m : Int) < s.size) := by omega
      go_wp2
      go_ret
      exact ⟨ret_i (by have := run_end hnm hn hm H0.out hj.out (fun h => absurd h hlt); omega), rfl⟩

set_option maxHeartbeats 1000000 in
theorem run3_c (s : ByteArray) (n : Nat) (hn : n < s.size) (hs : s.size ≤ 4096) (h0 : joinB 5 (cl (bA s n)) = true) (w : World) :
    Calls Try.prog 17 #[.string s, .int .i64 n, .int .i64 3] w fun e w' => e = .returned (.int .i64 ((n + 1 + (wordL s n 5).length : Nat) : Int)) ∧ w = w' := by
  have H0 := Lib.hid h0
  have hgt := get_bA s
  clear h0
  go_enter Try.func17, Try.ntmps17
  go_wp2
  go_loop [1] (fun i => ∃ m : Nat, i = .int .i64 m ∧ n ≤ m ∧ m ≤ s.size ∧ Hid (∀ j, n ≤ j → j < m → joinB 5 (cl (bA s j)) = true)) (fun i => s.size - (intOf i).toNat)
  case atStart => exact ⟨n, rfl, by omega, by omega, Lib.hid (fun j a b => absurd b (by omega))⟩
  case round =>
    obtain ⟨m, rfl, hnm, hm, hj⟩ := hrel
    by_cases hlt : m < s.size
    · have hlt2 : (m : Int) < s.size := by omega
      have kc := sign_c (bA s m).toNat (bA_le s _)
      cases hb : joinB 5 (cl (bA s m))
      all_goals
        have Hb := Lib.hid hb
        unfold cl at hb
        first | rw [(joinB_name _).2.2.1] at hb | rw [(joinB_name _).2.2.2] at hb | skip
        rw [hb] at kc
        clear hb
      · go_wp2_with (go_at_call 20; (with_reducible refine (kc _).mono ?_); rintro e w' ⟨rfl, rfl⟩)
        go_ret
        exact ⟨ret_i (by have := run_end hnm hn hm H0.out hj.out (fun _ => Hb.out); omega), rfl⟩
      · have hj' := Lib.hid (show ∀ j, n ≤ j → j < m + 1 → joinB 5 (cl (bA s j)) = true from fun j a b => by
          by_cases e : j = m
          · rw [e]; exact Hb.out
          · exact hj.out j a (by omega))
        go_wp2_with (go_at_call 20; (with_reducible refine (kc _).mono ?_); rintro e w' ⟨rfl, rfl⟩)
        exact ⟨⟨m + 1, by go_num, by omega, by omega, hj'⟩, by simp [intOf]; omega⟩
    · have hlt2 : ¬ ((m : Int) < s.size) := by omega
      go_wp2
      go_ret
      exact ⟨ret_i (by have := run_end hnm hn hm H0.out hj.out (fun h => absurd h hlt); omega), rfl⟩
end Go.Proofs.Ytdcggedggngpoaa.lx
