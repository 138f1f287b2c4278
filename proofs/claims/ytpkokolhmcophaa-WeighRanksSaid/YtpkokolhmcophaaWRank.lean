/- The walk of WeighRanks. -/
import Derived.Test.YtpkokolhmcophaaRanks
namespace Go.Proofs.Ytpkokolhmcophaa.sl
open Go.RowKit Go.Proofs.Ytpkokolhmcophaa.fl

set_option maxRecDepth 100000 in
set_option maxHeartbeats 4000000 in
theorem weighRanks_walk (a0 : Option Addr) (cap0 : Nat) (z0 : List Nat) (w : World) (h0 : FRow w a0 cap0 z0) :
    Calls Try.prog 3 #[.slice a0 z0.length cap0] w fun e w' => e = .returned (.bool true) ∧ Below w.heap.size w w' := by
  have m0 := h0.2.1
  have l0 := h0.1
  unfold maxLen at m0
  by_cases hb0 : 128 < z0.length
  · go_enter Try.func3, Try.ntmps3
    go_wp2
    go_ret
    exact ⟨rfl, Below.refl _ _⟩
  · have k1 := ranks_c w a0 cap0 z0 h0 (by omega)
    have hW0 := Lib.hid h0
    clear h0
    unfold Lists at k1
    rw [ranksL_len] at k1
    go_enter Try.func3, Try.ntmps3
    go_wp2_with fail
    refine k1.mono ?_; rintro e w2 ⟨g, c, rfl, hsl, hB2⟩
    clear k1
    have k2 := refRanks_c w2 a0 cap0 z0 (hW0.out.kept hB2 rfl) (by omega)
    unfold Lists at k2
    rw [ranksL_len] at k2
    go_wp2_with fail
    refine k2.mono ?_; rintro e w3 ⟨g', c', rfl, hsl', hb3⟩
    have hB3 := hB2.trans (hb3.mono hB2.size)
    have hsl3 := hsl.kept hb3 hsl.lt.2
    have k3 := sameInts_c w.heap.size w2.heap.size w3 g g' c c' z0.length (ranksL z0) hsl3 hsl' (ranksL_len z0) (by omega)
    clear k2
    go_wp2_with fail
    refine k3.mono ?_; rintro e w4 ⟨rfl, p4, rfl⟩
    have hB4 := hB3.trans (below_drawn w.heap.size w3 p4)
    have hsl4 := hsl3.drawn p4
    clear hsl hsl' hsl3 k3
    generalize w3.drewN p4 = w5 at *
    obtain ⟨s1, s2, s3⟩ := hsl4.small
    unfold maxLen at s2
    rw [ranksL_len] at s1
    have hl := Lib.hid (ranksL_len z0)
    go_wp2_with fail
    go_loopw [4] (fun u wr => ∃ (i nd : Nat), u = .int .i64 i ∧ i ≤ z0.length ∧ wr = w5.drewN nd) (fun u _ => z0.length - (intOf u).toNat)
    case atStart => exact ⟨0, 0, rfl, Nat.zero_le _, rfl⟩
    case round =>
      obtain ⟨i, ni, rfl, hi, rfl⟩ := hrel
      by_cases hlt : i < z0.length
      · go_wp2_with fail
        go_loopw [5] (fun u wr => ∃ (k nd : Nat), u = .int .i64 k ∧ k ≤ z0.length ∧ wr = w5.drewN nd) (fun u _ => z0.length - (intOf u).toNat)
        case atStart => exact ⟨0, ni, rfl, Nat.zero_le _, rfl⟩
        case round =>
          obtain ⟨k, nd, rfl, hk, rfl⟩ := hrel
          by_cases hlk : k < z0.length
          · obtain ⟨ad, rfl, hcl⟩ := (hW0.out.kept hB4 rfl).cells hlt
            have ci := hsl4.at i (by have := hl.out; omega)
            have ck := hsl4.at k (by have := hl.out; omega)
            rw [ranksL_getD hlt] at ci
            rw [ranksL_getD hlk] at ck
            have fi := hcl i hlt
            have fk := hcl k hlk
            have hcall := less_c z0[i] z0[k]
            rw [show less z0[i] z0[k] = ahead z0 i k by unfold ahead; rw [getD_get z0 i hlt, getD_get z0 k hlk]] at hcall
            have hd := cnt_lt (fs := z0) (k := k) hlt
            have hd2 : decide ((cnt z0 i : Int) < (cnt z0 k : Int)) = ahead z0 i k := by rw [← hd]; congr 1; exact propext (by omega)
            clear hcl
            generalize z0[i] = x at *
            generalize z0[k] = y at *
            generalize cnt z0 i = p at *
            generalize cnt z0 k = q at *
            cases hh : ahead z0 i k
            all_goals
              rw [hh] at hcall hd hd2
              clear hh
              go_wp2_with fail
              go_quiet ((first | (with_reducible exact still0 hcall) | (with_reducible exact still hcall)))
              go_wp2_with fail
              exact ⟨⟨k + 1, _, by go_num, by omega, by first | rfl | exact World.drewN_drewN ..⟩, by first | (simp [intOf]; done) | (simp [intOf]; omega)⟩
          · go_wp2_with fail
            exact ⟨⟨i + 1, nd, by go_num, by omega, by first | rfl | trivial⟩, by first | (simp [intOf]; done) | (simp [intOf]; omega)⟩
      · go_wp2_with fail
        go_ret
        exact ⟨rfl, hB4.trans (below_drawn _ _ _)⟩
end Go.Proofs.Ytpkokolhmcophaa.sl
