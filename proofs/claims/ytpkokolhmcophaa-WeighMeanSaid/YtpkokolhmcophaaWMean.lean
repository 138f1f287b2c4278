/- The walk of WeighMean. -/
import Derived.Test.YtpkokolhmcophaaMean
import Derived.IntWalk
namespace Go.Proofs.Ytpkokolhmcophaa.sl
open Go.RowKit Go.Proofs.Ytpkokolhmcophaa.fl

theorem frow_one (w : World) (x : Nat) (hx : x < 2 ^ 64) : FRow (w.alloc (.cells #[.float .f64 x] 27)) (some ⟨w.heap.size, 0, none⟩) 1 [x] := by
  refine ⟨Nat.le_refl _, by unfold maxLen; omega, fun y hy => ?_, fun i hi => ⟨_, rfl, ?_⟩, fun h => nomatch h⟩
  · obtain rfl := List.mem_singleton.1 hy; exact hx
  · obtain rfl : i = 0 := by simpa using hi
    simp [Addr.add]
theorem best_nil1 {fs : List Nat} {r : Int} (h : BestOf fs [] fs.length r) : (r = -1 ∧ fs = []) ∨ ∃ b : Nat, r = b ∧ b < fs.length ∧ ∀ i, i < fs.length → rk fs b ≤ rk fs i := by
  rcases h with ⟨h1, h2⟩ | ⟨b, h1, h2, _, h4⟩
  · refine .inl ⟨h1, List.eq_nil_of_length_eq_zero ?_⟩
    refine Nat.le_antisymm (Nat.le_of_not_lt fun c => ?_) (Nat.zero_le _)
    have := h2 0 c; simp [sk] at this
  · exact .inr ⟨b, h1, h2, fun i hi => h4 i hi (by simp [sk])⟩
theorem brow_nil1 (w : World) : BRow w none 0 [] := ⟨Nat.le_refl _, Nat.zero_le _, fun _ hi => absurd hi (Nat.not_lt_zero _)⟩
theorem best_like {x M : Nat} {r : Int} (hM : 0 < M) (h : BestOf (List.replicate M x) [] (List.replicate M x).length r) : r = 0 := by
  have hl : (List.replicate M x).length = M := by simp
  rcases best_nil1 h with ⟨_, h2⟩ | ⟨b, rfl, hb, hmin⟩
  · have := congrArg List.length h2; simp at this; omega
  · by_cases c : b = 0
    · omega
    · have h1 := hmin 0 (by omega)
      have hah : ∀ i j, i < M → j < M → ahead (List.replicate M x) i j = false := fun i j hi hj => by
        unfold ahead
        rw [getD_get _ _ (by omega), getD_get _ _ (by omega), List.getElem_replicate, List.getElem_replicate, less_irrefl]
      have := rk_lt (fs := List.replicate M x) (x := 0) (y := b) (by omega) (by
        unfold bef; rw [hah 0 b hM (by omega), hah b 0 (by omega) hM]; simp; omega)
      omega

set_option maxRecDepth 100000 in
set_option maxHeartbeats 4000000 in
theorem weighMean_walk (a0 a1 : Int) (w : World) (w0 : (Lit.int .i16 a0).wf = true) (w1 : (Lit.int .u8 a1).wf = true) :
    Calls Try.prog 9 #[.int .i16 a0, .int .u8 a1] w fun e w' => e = .returned (.bool true) ∧ Below w.heap.size w w' := by
  have b0 : -32768 ≤ a0 ∧ a0 ≤ 32767 := by simpa [Lit.wf, IntKind.min, IntKind.max, IntKind.signed, IntKind.bits] using w0
  have b1 : 0 ≤ a1 ∧ a1 ≤ 255 := by simpa [Lit.wf, IntKind.min, IntKind.max, IntKind.signed, IntKind.bits] using w1
  clear w0 w1
  have hn : a0.natAbs ≤ 32768 := by omega
  obtain ⟨t, ht⟩ : ∃ t : Nat, t = (a1 % 6).toNat := ⟨_, rfl⟩
  have ht5 : t ≤ 5 := by omega
  obtain ⟨M, hM⟩ : ∃ M : Nat, M = 2 ^ t := ⟨_, rfl⟩
  have hM2 : 1 ≤ M ∧ M ≤ 32 := by
    subst hM
    have h1 := Nat.pow_le_pow_right (show 0 < 2 by omega) ht5
    have h2 := Nat.two_pow_pos t
    omega
  have hmany : wrap64 (2 ^ (a1 % 6).toNat) = (M : Int) := by
    rw [← ht, hM, Int.natCast_pow]
    have : ((2 : Int) ^ t) = (M : Int) := by rw [hM, Int.natCast_pow]; rfl
    show wrap64 ((2 : Int) ^ t) = (2 : Int) ^ t
    rw [this]
    exact IntWalk.wrap64_in _ (by omega)
  have hconv : floatOfInt .f64 a0 = F a0 0 := F_int a0
  have kmean := fun W a cap h => mean_c W a cap a0 t M hn ht5 hM h
  have hadd := fun W => run_float_arith (P := Try.prog) W .add 27 .f64 0 (F a0 0) (F a0 0) (by
    have := F_add (x := 0) (y := a0) (e := 0) (by omega) (by omega) (by omega) (by omega)
    rw [F_zero, Int.zero_add] at this; exact this)
  have hx := F_lt a0 0
  have ktw := twin_c (F a0 0) hx
  have HX := Lib.hid hx
  clear hx ht hM hn
  generalize F a0 0 = x at *
  have hlen : ∀ k, (List.replicate k x).length = k := fun k => by simp
  have HL := Lib.hid hlen
  clear hlen
  go_enter Try.func9, Try.ntmps9
  go_wp2_with fail
  simp only [hmany]
  clear hmany
  go_loopw [6, 7] (fun u v wr => ∃ (k g c : Nat), u = .slice (some ⟨g, 0, none⟩) k c ∧ v = .int .i64 k ∧ k ≤ M ∧ FlB w.heap.size wr g c (List.replicate k x) ∧ Below w.heap.size w wr) (fun _ v _ => M - (intOf v).toNat)
  case atStart => exact ⟨0, w.heap.size, 0, rfl, rfl, Nat.zero_le _, FlB.empty _ _ (Nat.le_refl _), (Below.refl _ _).alloc (Nat.le_refl _) _⟩
  case round =>
    obtain ⟨k, g, c, rfl, rfl, hk, hfl, hB⟩ := hrel
    by_cases hlt : k < M
    · go_wp2_with (at_builtin; refine wpList_fspread rfl _ _ rfl w.heap.size _ g k c (List.replicate k x) rfl (HL.out k) (World.ownsRow.alloc hfl _) (some ⟨wr.heap.size, 0, none⟩) 1 1 [x] rfl rfl (frow_one wr x HX.out) (by omega) (Nat.le_trans hB.size (by simp)) (k + 1) rfl ?e1)
      case e1 =>
        intro g1 c1 w1 hf1 hb1
        have hf2 : FlB w.heap.size w1 g1 c1 (List.replicate (k + 1) x) := by rw [List.replicate_succ']; exact hf1
        have hB1 := (hB.alloc hB.size (.cells #[.float .f64 x] 27)).trans hb1
        clear hf1
        go_wp2_with fail
        exact ⟨⟨k + 1, g1, c1, rfl, by go_num, by omega, hf2, hB1⟩, by first | (simp [intOf]; done) | (simp [intOf]; omega)⟩
    · obtain rfl : k = M := by omega
      have hrow := Lib.hid (FlB.row hfl (fun y hy => by obtain rfl := (List.mem_replicate.1 hy).2; exact HX.out))
      have k1 := kmean wr _ c hrow.out
      clear hfl
      go_wp2_with fail
      refine k1.mono ?_; rintro e w2 ⟨rfl, hb2⟩
      have hB2 := hB.trans (hb2.mono hB.size)
      have k2 := best_b w2 (some ⟨g, 0, none⟩) none c 0 (List.replicate k x) [] (hrow.out.kept hb2 rfl) (brow_nil1 _)
      rw [List.length_nil, HL.out] at k2
      clear k1 kmean
      go_wp2_with fail
      refine (ktw _).mono ?_; rintro e w' ⟨rfl, rfl⟩; go_wp2_with fail
      refine k2.mono ?_; rintro e w3 ⟨r, rfl, hr, hb3⟩
      obtain rfl := best_like (by omega) hr
      clear hr
      go_wp2_with fail
      go_ret
      exact ⟨rfl, hB2.trans (hb3.mono hB2.size)⟩
end Go.Proofs.Ytpkokolhmcophaa.sl
