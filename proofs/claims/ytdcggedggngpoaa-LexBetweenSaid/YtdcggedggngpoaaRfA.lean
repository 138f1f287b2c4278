/- The reference: two, run, between. -/
import Derived.Test.YtdcggedggngpoaaNextM
import Derived.Test.YtdcggedggngpoaaLexS
namespace Go.Proofs.Ytdcggedggngpoaa.lx
open Go.RowKit

def twoB (s : ByteArray) (n a b : Nat) : Bool := decide (n + 1 < s.size) && (bA s n).toNat == a && (bA s (n + 1)).toNat == b
set_option maxHeartbeats 1000000 in
theorem two_c (s : ByteArray) (n a b : Nat) (hn : n ≤ 10000) (_hs : s.size ≤ 20000) (w : World) :
    Calls Try.prog 28 #[.string s, .int .i64 n, .int .u8 a, .int .u8 b] w fun e w' => e = .returned (.bool (twoB s n a b)) ∧ w = w' := by
  have hgt := get_bA s
  unfold twoB
  by_cases h2 : n + 1 < s.size
  · have H2 := Lib.hid (show decide (n + 1 < s.size) = true by simpa using h2)
    have h3 : (n : Int) + 1 < s.size := by omega
    by_cases h1 : (bA s n).toNat = a
    · have a1 : (((bA s n).toNat : Int) == (a : Int)) = true := by simp; omega
      have H1 := Lib.hid (show ((bA s n).toNat == a) = true by simpa using h1)
      clear h1
      go_enter Try.func28, Try.ntmps28
      go_wp2
      go_ret
      refine ⟨ret_b ?_, rfl⟩
      rw [H1.out, H2.out, Bool.eq_iff_iff]; simp; omega
    · have a1 : (((bA s n).toNat : Int) == (a : Int)) = false := by simp; omega
      have H1 := Lib.hid (show ((bA s n).toNat == a) = false by simpa using h1)
      clear h1
      go_enter Try.func28, Try.ntmps28
      go_wp2
      go_ret
      refine ⟨ret_b ?_, rfl⟩
      rw [H1.out, H2.out]; rfl
  · have H2 := Lib.hid (show decide (n + 1 < s.size) = false by simpa using h2)
    have h3 : ¬ ((n : Int) + 1 < s.size) := by omega
    go_enter Try.func28, Try.ntmps28
    go_wp2
    go_ret
    refine ⟨ret_b ?_, rfl⟩
    first | rw [H2.out]; rfl | rfl

theorem prefix_twoB {s : ByteArray} {n : Nat} (hn : n < s.size) : Lib.hasPrefix (s.data.toList.drop n) [47, 42] = twoB s n 47 42 := by
  unfold twoB Lib.hasPrefix
  rw [drop_bA hn]
  by_cases h : n + 1 < s.size
  · rw [drop_bA h, decide_eq_true h, Bool.true_and]
    simp only [List.isPrefixOf, Bool.and_true]
    rw [← u8_eq _ 47 (by omega), ← u8_eq _ 42 (by omega)]
    rw [Bool.beq_comm (a := bA s n), Bool.beq_comm (a := bA s (n + 1))]; rfl
  · rw [drop_end (k := n + 1) (by omega), decide_eq_false h]
    simp [List.isPrefixOf]
theorem cutRem_step {s : ByteArray} {k : Nat} (hk : k < s.size) (h : twoB s k 42 47 = false) : cutRem (s.data.toList.drop k) = cutRem (s.data.toList.drop (k + 1)) := by
  rw [drop_bA hk]
  by_cases hl : k + 1 < s.size
  · rw [drop_bA hl, cutRem, if_neg]
    rintro ⟨e1, e2⟩
    unfold twoB at h
    rw [e1, e2, decide_eq_true hl] at h
    exact absurd h (by decide)
  · rw [drop_end (k := k + 1) (by omega)]; rfl
theorem cutRem_hit {s : ByteArray} {k : Nat} (h : twoB s k 42 47 = true) : k + 2 ≤ s.size ∧ cutRem (s.data.toList.drop k) = some (s.data.toList.drop (k + 2)) := by
  unfold twoB at h
  simp only [Bool.and_eq_true, decide_eq_true_eq, beq_iff_eq] at h
  obtain ⟨⟨h1, h2⟩, h3⟩ := h
  refine ⟨by omega, ?_⟩
  rw [drop2 h1, cutRem, if_pos ⟨UInt8.toNat_inj.1 (by rw [h2]; rfl), UInt8.toNat_inj.1 (by rw [h3]; rfl)⟩]
end Go.Proofs.Ytdcggedggngpoaa.lx
