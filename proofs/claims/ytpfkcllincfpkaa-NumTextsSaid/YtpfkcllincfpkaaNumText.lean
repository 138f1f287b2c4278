/- Texts of integers: num's Print, Parse; the reference's. -/
import Derived.Test.YtpfkcllincfpkaaNum
import Derived.Test.YtpfkcllincfpkaaDec
import Derived.WalkSpells
import Derived.WalkLawsBesides
import Derived.Laws.BytesArg
namespace Go.Proofs.Ytpfkcllincfpkaa.tx
open Go.RowKit Go.Proofs.Ytpfkcllincfpkaa.nm

/-- a text as a value -/
def str (l : List UInt8) : ByteArray := ⟨l.toArray⟩
def ten : ByteArray := { data := #[48, 49, 50, 51, 52, 53, 54, 55, 56, 57] }
theorem ten_cut (d : Nat) (h : d < 10) : ten.extract d (d + 1) = str [dig d] := by
  have : ∀ d : Fin 10, ten.extract d.val (d.val + 1) = str [dig d.val] := by decide
  exact this ⟨d, h⟩
theorem str_append (a b : List UInt8) : str a ++ str b = str (a ++ b) := by
  unfold str; apply ByteArray.ext; simp

theorem dec_len (n : Nat) (h : n ≤ 9223372036854775808) : (dec n).length ≤ 19 := dec_len_lt (by omega) (by omega)

theorem dig_mod (m : Nat) : dig (m % 10) = dig m := by unfold dig; rw [Nat.mod_mod]
theorem str_step (m : Nat) (r : List UInt8) : Value.string (ten.extract (m % 10) (m % 10 + 1) ++ str r) = Value.string (str (dig m :: r)) := by
  rw [ten_cut _ (by omega), dig_mod, str_append]; rfl
theorem str_end1 (m : Nat) (r : List UInt8) {l : List UInt8} (h : m < 10) (hl : l = dig m :: r) :
    Ending.returned (.string (({ data := #[45] } : ByteArray) ++ ten.extract m (m + 1) ++ str r)) = .returned (.string (str (45 :: l))) := by
  rw [ten_cut _ h, show ({ data := #[45] } : ByteArray) = str [45] from rfl, str_append, str_append, hl]; rfl
theorem str_end0 (m : Nat) (r : List UInt8) {l : List UInt8} (h : m < 10) (hl : l = dig m :: r) :
    Ending.returned (.string (({ data := #[] } : ByteArray) ++ ten.extract m (m + 1) ++ str r)) = .returned (.string (str l)) := by
  rw [ten_cut _ h, show ({ data := #[] } : ByteArray) = str [] from rfl, str_append, str_append, hl]; rfl

theorem print_r (a : Int) (ha : Fit a) (w : World) :
    Calls Try.prog 42 #[.int .i64 a] w fun e w' => e = .returned (.string (str (text a))) ∧ w = w' := by
  have hN := Lib.hid (dec_len a.natAbs (by unfold Fit at ha; omega))
  unfold Fit at ha
  by_cases h0 : a < 0
  · rw [text_neg h0]
    go_enter Try.func42, Try.ntmps42
    go_wp2
    go_loop [5, 3] (fun s n => ∃ (m : Nat) (r : List UInt8), n = .int .u64 m ∧ s = .string (str r) ∧ Hid (dec a.natAbs = decTo m r) ∧ m ≤ 18446744073709551615) (fun _ n => (intOf n).toNat)
    case atStart => exact ⟨a.natAbs, [], by go_num, rfl, Lib.hid rfl, by omega⟩
    case round =>
      obtain ⟨m, r, rfl, rfl, hD, hm⟩ := hrel
      have hl : r.length ≤ 19 := by
        have := hN.out; rw [hD.out, decTo_append] at this; simp at this; omega
      have hsz : (str r).size ≤ 19 := hl
      by_cases hm9 : 9 < m
      · have hD' := Lib.hid (show dec a.natAbs = decTo (m / 10) (dig m :: r) by rw [hD.out, decTo_ge (by omega)])
        go_wp2
        exact ⟨⟨m / 10, dig m :: r, by go_num, str_step m r, hD', by omega⟩, by simp [intOf]; omega⟩
      · have hD' := Lib.hid (show dec a.natAbs = dig m :: r by rw [hD.out, decTo_lt (by omega)])
        go_wp2
        go_ret
        exact ⟨str_end1 m r (by omega) hD'.out, rfl⟩
  · rw [text_pos h0]
    go_enter Try.func42, Try.ntmps42
    go_wp2
    go_loop [5, 3] (fun s n => ∃ (m : Nat) (r : List UInt8), n = .int .u64 m ∧ s = .string (str r) ∧ Hid (dec a.natAbs = decTo m r) ∧ m ≤ 18446744073709551615) (fun _ n => (intOf n).toNat)
    case atStart => exact ⟨a.natAbs, [], by go_num, rfl, Lib.hid rfl, by omega⟩
    case round =>
      obtain ⟨m, r, rfl, rfl, hD, hm⟩ := hrel
      have hl : r.length ≤ 19 := by
        have := hN.out; rw [hD.out, decTo_append] at this; simp at this; omega
      have hsz : (str r).size ≤ 19 := hl
      by_cases hm9 : 9 < m
      · have hD' := Lib.hid (show dec a.natAbs = decTo (m / 10) (dig m :: r) by rw [hD.out, decTo_ge (by omega)])
        go_wp2
        exact ⟨⟨m / 10, dig m :: r, by go_num, str_step m r, hD', by omega⟩, by simp [intOf]; omega⟩
      · have hD' := Lib.hid (show dec a.natAbs = dig m :: r by rw [hD.out, decTo_lt (by omega)])
        go_wp2
        go_ret
        exact ⟨str_end0 m r (by omega) hD'.out, rfl⟩
end Go.Proofs.Ytpfkcllincfpkaa.tx
