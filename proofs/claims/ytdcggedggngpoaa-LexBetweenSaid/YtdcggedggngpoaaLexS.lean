/- The bytes' classes: the reference's sign. -/
import Derived.Test.YtdcggedggngpoaaLexB
namespace Go.Proofs.Ytdcggedggngpoaa.lx
open Go.RowKit

/-! the reference's signs -/
def sg : ByteArray := ⟨#[43, 45, 42, 47, 92, 94, 60, 62, 61, 58, 46, 63, 64, 35, 36, 38, 126]⟩
theorem sg_in (c : Nat) (hc : c ≤ 255) : (cls c == 5) = (List.range 17).any (fun k => PlainAid.bt sg k == (c : Int)) := by
  have := all_bytes (P := fun c => (cls c == 5) == (List.range 17).any (fun k => PlainAid.bt sg k == (c : Int))) (by decide +kernel) hc
  exact eq_of_beq this
theorem sign_c (c : Nat) (hc : c ≤ 255) (w : World) :
    Calls Try.prog 20 #[.int .u8 c] w fun e w' => e = .returned (.bool (cls c == 5)) ∧ w = w' := by
  have hs := Lib.hid (sg_in c hc)
  go_enter Try.func20, Try.ntmps20
  go_wp2
  go_loop [4] (fun i => ∃ k : Nat, i = .int .i64 k ∧ k ≤ 17 ∧ Hid (∀ j, j < k → PlainAid.bt sg j ≠ (c : Int))) (fun i => 17 - (intOf i).toNat)
  case atStart => exact ⟨0, rfl, by omega, Lib.hid (fun j hj => absurd hj (by omega))⟩
  case round =>
    obtain ⟨k, rfl, hk, hm⟩ := hrel
    have hgt : ∀ (n : Nat) (h : n < (ByteArray.mk #[43, 45, 42, 47, 92, 94, 60, 62, 61, 58, 46, 63, 64, 35, 36, 38, 126]).size), ((((ByteArray.mk #[43, 45, 42, 47, 92, 94, 60, 62, 61, 58, 46, 63, 64, 35, 36, 38, 126])[n]'h).toNat : Nat) : Int) = PlainAid.bt sg n := PlainAid.get_bt sg
    by_cases hlt : k < 17
    · by_cases he : PlainAid.bt sg k = c
      · have hh := Lib.hid he
        have he' : (PlainAid.bt sg k == (c : Int)) = true := by simpa using he
        clear he
        go_wp2
        go_ret
        refine ⟨ret_b ?_, rfl⟩
        rw [hs.out]
        symm
        rw [List.any_eq_true]
        exact ⟨k, List.mem_range.2 hlt, by simpa using hh.out⟩
      · have he' : (PlainAid.bt sg k == (c : Int)) = false := by simpa using he
        have hm' : Hid (∀ j, j < k + 1 → PlainAid.bt sg j ≠ (c : Int)) := Lib.hid fun j hj => by
          by_cases h : j = k
          · subst h; exact he
          · exact hm.out j (by omega)
        clear he hm
        go_wp2
        exact ⟨⟨k + 1, by go_num, by omega, hm'⟩, by simp [intOf]; omega⟩
    · obtain rfl : k = 17 := by omega
      clear hgt
      go_wp2
      go_ret
      refine ⟨ret_b ?_, rfl⟩
      rw [hs.out]
      symm
      rw [List.any_eq_false]
      intro j hj
      have := hm.out j (List.mem_range.1 hj)
      simpa using this
end Go.Proofs.Ytdcggedggngpoaa.lx
