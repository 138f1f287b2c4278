/- The scanner's methods that only read: ends, behindIs, opens, kind. -/
import Derived.Test.YtdcggedggngpoaaScan
namespace Go.Proofs.Ytdcggedggngpoaa.lx
open Go.RowKit

/-- a '.' here ends a sentence -/
def endsB (s : ByteArray) (n : Nat) : Bool := bA s n == 46 && (n + 1 == s.size || bA s (n + 1) == 37 || cl (bA s (n + 1)) == 1)
theorem u8_eq (b : UInt8) (k : Nat) (hk : k < 256) : (b == UInt8.ofNat k) = (b.toNat == k) := by
  rw [Bool.eq_iff_iff, beq_iff_eq, beq_iff_eq]
  constructor
  · intro h; rw [h]; simp; omega
  · intro h; rw [← h]; simp

set_option maxHeartbeats 1000000 in
theorem ends_c {B c n : Nat} {s : ByteArray} {v : Value} {ts : List Tok} {w : World} (h : Sc B c s n v ts w) (hn : n < s.size) (hs : s.size ≤ 4096) :
    Calls Try.prog 47 #[.pointer (some ⟨c, 0, none⟩)] w fun e w' => e = .returned (.bool (endsB s n)) ∧ ∃ k, w' = w.drewN k := by
  have c0 := h.c0
  have c1 := h.c1
  clear h
  have hgt := get_bA s
  have hE : endsB s n = ((bA s n).toNat == 46 && (n + 1 == s.size || (bA s (n + 1)).toNat == 37 || cls (bA s (n + 1)).toNat == 1)) := by
    unfold endsB
    rw [show (46 : UInt8) = UInt8.ofNat 46 from rfl, show (37 : UInt8) = UInt8.ofNat 37 from rfl, u8_eq _ _ (by omega), u8_eq _ _ (by omega)]
  rw [hE]; clear hE
  have kc := class_c (bA s (n + 1)).toNat (bA_le s _)
  have i1 : IntKind.i64.wrap ((n : Int) + 1) = (n : Int) + 1 := IntWalk.i64_in _ (by omega)
  have i2 : ((n : Int) + 1).toNat = n + 1 := by omega
  have i3 : (0 : Int) ≤ (n : Int) + 1 := by omega
  have n1 : (n : Int) < s.size := by omega
  have n2 : (n : Int) + 1 ≤ s.size := by omega
  by_cases h1 : (bA s n).toNat = 46
  · obtain ⟨a1, a2⟩ := ieq_yes (a := (bA s n).toNat) 46 (by omega)
    have H1 := Lib.hid (show ((bA s n).toNat == 46) = true by simpa using h1)
    clear h1
    by_cases h2 : n + 1 = s.size
    · have b1 : ((n : Int) + 1 == (s.size : Int)) = true := by simp; omega
      have H2 := Lib.hid (show (n + 1 == s.size) = true by simpa using h2)
      clear h2
      go_enter Try.func47, Try.ntmps47
      go_wp2
      go_quiet (fail)
      go_wp2_with (go_at_call 33; (with_reducible refine (kc _).mono ?_); rintro e w' ⟨rfl, rfl⟩)
      go_ret
      exact ⟨ret_b (by rw [H1.out, H2.out]; rfl), _, rfl⟩
    · have b1 : ((n : Int) + 1 == (s.size : Int)) = false := by simp; omega
      have H2 := Lib.hid (show (n + 1 == s.size) = false by simpa using h2)
      have n3 : n + 1 < s.size := by omega
      have n4 : (n : Int) + 1 < s.size := by omega
      clear h2
      by_cases h3 : (bA s (n + 1)).toNat = 37
      · obtain ⟨d1, d2⟩ := ieq_yes (a := (bA s (n + 1)).toNat) 37 (by omega)
        have H3 := Lib.hid (show ((bA s (n + 1)).toNat == 37) = true by simpa using h3)
        clear h3
        go_enter Try.func47, Try.ntmps47
        go_wp2
        go_quiet (fail)
        go_wp2_with (go_at_call 33; (with_reducible refine (kc _).mono ?_); rintro e w' ⟨rfl, rfl⟩)
        go_ret
        exact ⟨ret_b (by rw [H1.out, H2.out, H3.out]; rfl), _, rfl⟩
      · obtain ⟨d1, d2⟩ := ieq_no (a := (bA s (n + 1)).toNat) 37 (by omega)
        have H3 := Lib.hid (show ((bA s (n + 1)).toNat == 37) = false by simpa using h3)
        clear h3
        by_cases h4 : cls (bA s (n + 1)).toNat = 1
        · obtain ⟨g1, g2⟩ := ieq_yes (a := cls (bA s (n + 1)).toNat) 1 (by omega)
          have H4 := Lib.hid (show (cls (bA s (n + 1)).toNat == 1) = true by simpa using h4)
          clear h4
          go_enter Try.func47, Try.ntmps47
          go_wp2
          go_quiet (fail)
          go_wp2_with (go_at_call 33; (with_reducible refine (kc _).mono ?_); rintro e w' ⟨rfl, rfl⟩)
          go_ret
          exact ⟨ret_b (by rw [H1.out, H2.out, H3.out, H4.out]; rfl), _, rfl⟩
        · obtain ⟨g1, g2⟩ := ieq_no (a := cls (bA s (n + 1)).toNat) 1 (by omega)
          have H4 := Lib.hid (show (cls (bA s (n + 1)).toNat == 1) = false by simpa using h4)
          clear h4
          go_enter Try.func47, Try.ntmps47
          go_wp2
          go_quiet (fail)
          go_wp2_with (go_at_call 33; (with_reducible refine (kc _).mono ?_); rintro e w' ⟨rfl, rfl⟩)
          go_ret
          exact ⟨ret_b (by rw [H1.out, H2.out, H3.out, H4.out]; rfl), _, rfl⟩
  · obtain ⟨a1, a2⟩ := ieq_no (a := (bA s n).toNat) 46 (by omega)
    have H1 := Lib.hid (show ((bA s n).toNat == 46) = false by simpa using h1)
    clear h1 kc
    go_enter Try.func47, Try.ntmps47
    go_wp2
    go_quiet (fail)
    go_wp2
    go_ret
    exact ⟨ret_b (by rw [H1.out]; rfl), _, rfl⟩

theorem behindIs_c {B c n : Nat} {s : ByteArray} {v : Value} {ts : List Tok} {w : World} (h : Sc B c s n v ts w) (hn : n < s.size) (hs : s.size ≤ 4096) (b : Nat) :
    Calls Try.prog 44 #[.pointer (some ⟨c, 0, none⟩), .int .u8 b] w fun e w' => e = .returned (.bool (decide (n + 1 < s.size) && (bA s (n + 1)).toNat == b)) ∧ w = w' := by
  have c0 := h.c0
  have c1 := h.c1
  clear h
  have hgt := get_bA s
  by_cases h2 : n + 1 < s.size
  · have H2 := Lib.hid (show decide (n + 1 < s.size) = true by simpa using h2)
    go_enter Try.func44, Try.ntmps44
    go_wp2
    go_ret
    refine ⟨ret_b ?_, rfl⟩
    rw [H2.out, Bool.true_and, Bool.eq_iff_iff]; simp; omega
  · have H2 := Lib.hid (show decide (n + 1 < s.size) = false by simpa using h2)
    go_enter Try.func44, Try.ntmps44
    go_wp2
    go_ret
    exact ⟨rfl, rfl⟩
end Go.Proofs.Ytdcggedggngpoaa.lx
