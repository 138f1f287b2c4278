/- sameInts, twin; the walk of WeighOrders. -/
import Derived.Test.YtpkokolhmcophaaBest
import Derived.Test.YtpkokolhmcophaaFArr
namespace Go.Proofs.Ytpkokolhmcophaa.sl
open Go.RowKit Go.Proofs.Ytpkokolhmcophaa.fl

theorem sameInts_c (B B' : Nat) (w : World) (g g' cap cap' n : Nat) (l : List Nat) (h : SlB B w g cap l) (h' : SlB B' w g' cap' l) (hl : l.length = n) (hn : n ≤ 1000000) :
    Calls Try.prog 11 #[.slice (some ⟨g, 0, none⟩) n cap, .slice (some ⟨g', 0, none⟩) n cap'] w fun e w' => e = .returned (.bool true) ∧ ∃ k, w' = w.drewN k := by
  obtain ⟨s1, s2, s3⟩ := h.small
  obtain ⟨q1, q2, q3⟩ := h'.small
  unfold maxLen at s2 q2
  have HL := Lib.hid hl
  clear hl
  rw [HL.out] at s1 q1
  go_enter Try.func11, Try.ntmps11
  go_wp2
  go_loopw [5] (fun u wr => ∃ (k nd : Nat), u = .int .i64 k ∧ k ≤ n ∧ wr = w.drewN nd) (fun u _ => n - (intOf u).toNat)
  case atStart => exact ⟨0, 0, rfl, Nat.zero_le _, rfl⟩
  case round =>
    obtain ⟨k, nd, rfl, hk, rfl⟩ := hrel
    by_cases hlt : k < n
    · have c1 := h.at k (by have := HL.out; omega)
      have c2 := h'.at k (by have := HL.out; omega)
      generalize l.getD k 0 = x at *
      go_wp2
      go_quiet (fail)
      go_wp2
      exact ⟨⟨k + 1, nd + nq, by go_num, by omega, by first | rfl | exact World.drewN_drewN ..⟩, by first | (simp [intOf]; done) | (simp [intOf]; omega)⟩
    · obtain rfl : k = n := by omega
      go_wp2
      go_ret
      exact ⟨rfl, nd, rfl⟩

theorem zero_is {x : Nat} (hx : x < 2 ^ 64) (hn : nan x = false) (h1 : lt x 0 = false) (h2 : lt 0 x = false) : x = 0 ∨ x = 9223372036854775808 := by
  have hk : cls x = 0 ∧ key x = 0 := by
    have e0 : cls 0 = 0 ∧ key 0 = 0 := by decide
    unfold lt lessK at h1 h2
    rw [e0.1, e0.2] at h1 h2
    have h1 := of_decide_eq_false h1
    have h2 := of_decide_eq_false h2
    omega
  unfold cls key at hk
  unfold Ieee.Format.read at hk
  have hs : Ieee.double.signWeight = 9223372036854775808 := by decide
  have hb : Ieee.double.binade = 4503599627370496 := by decide
  have hl : Ieee.double.leastPlace = -1074 := by decide
  rw [hs, hb, hl] at hk
  dsimp only at hk
  generalize hr : x % 9223372036854775808 = r at hk
  split at hk
  · rename_i hlt
    have h3 := hk.2
    simp only [keyD, signed_eq, Int.sub_self, Int.toNat_zero, Int.pow_zero, Int.mul_one] at h3
    have : r = 0 := by
      revert h3; split <;> intro h3 <;> omega
    omega
  · split at hk
    · rename_i hge hlt
      have h3 := hk.2
      simp only [keyD, signed_eq] at h3
      rcases Int.mul_eq_zero.1 h3 with h4 | h4
      · revert h4; split <;> intro h4 <;> omega
      · have := two_pow_pos' (((-1074 : Int) + ((r / 4503599627370496 - 1 : Nat) : Int) - (-1074)).toNat)
        omega
    · split at hk
      · rename_i hs1
        have h3 := hk.1
        simp only [clsD] at h3
        revert h3; split <;> intro h3 <;> omega
      · rename_i q1 q2 q3
        unfold nan Ieee.Format.read at hn
        rw [hs, hb] at hn
        dsimp only at hn
        rw [hr, if_neg q1, if_neg q2, if_neg q3] at hn
        cases hn

theorem twin_c (x : Nat) (hx : x < 2 ^ 64) (w : World) :
    Calls Try.prog 20 #[.float .f64 x, .float .f64 x] w fun e w' => e = .returned (.bool true) ∧ w = w' := by
  have k1 := nan_c x
  have hse := self_eq x
  have he0 := is_eq x 0
  rw [nan0] at he0
  cases hn : nan x
  · rw [hn] at k1 hse he0
    by_cases hz : lt x 0 = false ∧ lt 0 x = false
    · have hq : ∃ r, floatBits .quo .f64 4607182418800017408 x = some r ∧ nan r = false := by
        rcases zero_is hx hn hz.1 hz.2 with rfl | rfl
        · exact ⟨9218868437227405312, by decide +kernel, by decide⟩
        · exact ⟨18442240474082181120, by decide +kernel, by decide⟩
      obtain ⟨r, hr1, hr2⟩ := hq
      have hrun := fun W => run_float_arith (P := Try.prog) W .quo 27 .f64 4607182418800017408 x r hr1
      have hr3 := self_eq r
      rw [hr2] at hr3
      rw [hz.1, hz.2] at he0
      have t0 : (FloatKind.f64.format.order x 0 != some .eq) = false := by rw [bne, he0]; rfl
      have t1 : (FloatKind.f64.format.order x x == some .eq) = true := hse
      have t2 : (FloatKind.f64.format.order r r == some .eq) = true := hr3
      clear hn hz hr1 hr2 hse hr3 he0
      go_enter Try.func20, Try.ntmps20
      go_wp2_with fail
      refine (k1 _).mono ?_; rintro e w' ⟨rfl, rfl⟩; go_wp2_with fail
      refine (k1 _).mono ?_; rintro e w' ⟨rfl, rfl⟩; go_wp2_with fail
      go_ret
      exact ⟨rfl, rfl⟩
    · have t0 : (FloatKind.f64.format.order x 0 != some .eq) = true := by
        rw [bne, he0]
        cases h1 : lt x 0 <;> cases h2 : lt 0 x <;> first | rfl | exact absurd ⟨h1, h2⟩ hz
      have t1 : (FloatKind.f64.format.order x x == some .eq) = true := hse
      clear hn hz hse he0
      go_enter Try.func20, Try.ntmps20
      go_wp2_with fail
      refine (k1 _).mono ?_; rintro e w' ⟨rfl, rfl⟩; go_wp2_with fail
      refine (k1 _).mono ?_; rintro e w' ⟨rfl, rfl⟩; go_wp2_with fail
      go_ret
      exact ⟨rfl, rfl⟩
  · rw [hn] at k1
    clear hn hse he0
    go_enter Try.func20, Try.ntmps20
    go_wp2_with fail
    refine (k1 _).mono ?_; rintro e w' ⟨rfl, rfl⟩; go_wp2_with fail
    refine (k1 _).mono ?_; rintro e w' ⟨rfl, rfl⟩; go_wp2_with fail
    refine (k1 _).mono ?_; rintro e w' ⟨rfl, rfl⟩; go_wp2_with fail
    go_ret
    exact ⟨rfl, rfl⟩

theorem best_b (w : World) (a a2 : Option Addr) (cap cap2 : Nat) (fs : List Nat) (bs : List Bool) (h : FRow w a cap fs) (h2 : BRow w a2 cap2 bs) :
    Calls Try.prog 14 #[.slice a fs.length cap, .slice a2 bs.length cap2] w (BestRet2 w fs bs) :=
  (best_c w a a2 cap cap2 fs bs h h2).mono fun _ _ ⟨r, h1, h2, k, h3⟩ => ⟨r, h1, h2, by rw [h3]; exact below_drawn _ _ _⟩

set_option maxRecDepth 100000 in
set_option maxHeartbeats 4000000 in
theorem weighOrders_walk (a0 : Option Addr) (cap0 : Nat) (z0 : List Nat) (a1 : Option Addr) (cap1 : Nat) (z1 : List Bool) (w : World) (h0 : FRow w a0 cap0 z0) (h1 : BRow w a1 cap1 z1) :
    Calls Try.prog 7 #[.slice a0 z0.length cap0, .slice a1 z1.length cap1] w fun e w' => e = .returned (.bool true) ∧ Below w.heap.size w w' := by
  have m0 := h0.2.1
  have m1 := h1.2.1
  have l0 := h0.1
  have l1 := h1.1
  unfold maxLen at m0 m1
  by_cases hb0 : 256 < z0.length
  · go_enter Try.func7, Try.ntmps7
    go_wp2
    go_ret
    exact ⟨rfl, Below.refl _ _⟩
  · by_cases hb1 : 1024 < z1.length
    · go_enter Try.func7, Try.ntmps7
      go_wp2
      go_ret
      exact ⟨rfl, Below.refl _ _⟩
    · have hW0 := Lib.hid h0
      have hW1 := Lib.hid h1
      have HWF := Lib.hid h0.2.2.1
      clear h0 h1
      go_enter Try.func7, Try.ntmps7
      go_wp2_with (at_builtin; refine wpList_fspread rfl _ _ rfl w.heap.size _ w.heap.size 0 0 [] rfl rfl (FlB.empty _ _ (Nat.le_refl _)) a0 z0.length cap0 z0 rfl rfl (hW0.out.kept ((Below.refl w.heap.size w).alloc (Nat.le_refl _) _) rfl) (by omega) (by go_size) z0.length (Nat.zero_add _) ?e1)
      case e1 =>
        intro g1 c1 w1 hf1 hb1
        try rw [List.nil_append] at hf1
        have hB1 : Below w.heap.size w w1 := ((Below.refl _ _).alloc (Nat.le_refl _) _).trans hb1
        have hrow1 := Lib.hid (FlB.row hf1 HWF.out)
        clear hf1 hb1
        have k1 := order_c w1 _ c1 z0 hrow1.out (by omega)
        go_wp2_with fail
        refine k1.mono ?_; rintro e w2 ⟨g, c, l, rfl, ho, hsl, hb2⟩
        have hB2 := hB1.trans (hb2.mono hB1.size)
        have Ho := Lib.hid ho
        clear ho k1
        have k2 := refOrder_c w2 a0 cap0 z0 (hW0.out.kept hB2 rfl) (by omega)
        go_wp2_with fail
        refine k2.mono ?_; rintro e w3 ⟨g', c', l', rfl, ho', hsl', hb3⟩
        have hB3 := hB2.trans (hb3.mono hB2.size)
        obtain rfl := ord_unique Ho.out ho'
        clear ho' k2
        have k3 := sameInts_c w1.heap.size w2.heap.size w3 g g' c c' z0.length l (hsl.kept hb3 hsl.lt.2) hsl' Ho.out.1 (by omega)
        go_wp2_with fail
        refine k3.mono ?_; rintro e w4 ⟨rfl, p4, rfl⟩
        have hB4 := hB3.trans (below_drawn w.heap.size w3 p4)
        have k4 := best_b (w3.drewN p4) (some ⟨g1, 0, none⟩) a1 c1 cap1 z0 z1 (hrow1.out.kept ((hb2.trans (hb3.mono hb2.size)).trans (below_drawn w1.heap.size w3 p4)) rfl) (hW1.out.kept hB4 rfl)
        have hb34 := (hb2.trans (hb3.mono hb2.size)).trans (below_drawn w1.heap.size w3 p4)
        clear hsl hsl' k3
        generalize w3.drewN p4 = w5 at *
        go_wp2_with fail
        refine k4.mono ?_; rintro e w6 ⟨x, rfl, hx, hb6⟩
        have hB6 := hB4.trans (hb6.mono hB4.size)
        have Hx := Lib.hid hx
        clear hx k4
        have k5 := refBest_c w6 a0 a1 cap0 cap1 z0 z1 (hW0.out.kept hB6 rfl) (hW1.out.kept hB6 rfl) (by omega)
        go_wp2_with fail
        refine k5.mono ?_; rintro e w7 ⟨x', rfl, hx', hb7⟩
        obtain rfl := best_unique hx' Hx.out
        have hB7 := hB6.trans (hb7.mono hB6.size)
        have hrow7 := Lib.hid (hrow1.out.kept (hb34.trans ((hb6.trans (hb7.mono hb6.size)).mono hb34.size)) rfl)
        clear hx' k5
        go_wp2_with fail
        go_loopw [8] (fun u wr => ∃ (k nd : Nat), u = .int .i64 k ∧ k ≤ z0.length ∧ wr = w7.drewN nd) (fun u _ => z0.length - (intOf u).toNat)
        case atStart => exact ⟨0, 0, rfl, Nat.zero_le _, rfl⟩
        case round =>
          obtain ⟨k, nd, rfl, hk, rfl⟩ := hrel
          by_cases hlt : k < z0.length
          · obtain ⟨ad0, rfl, hcl0⟩ := (hW0.out.kept hB7 rfl).cells hlt
            obtain ⟨ad1, had1, hcl1⟩ := hrow7.out.cells hlt
            cases had1
            have c0 := hcl0 k hlt
            have ck1 := hcl1 k hlt
            rw [show (Addr.add ⟨g1, 0, none⟩ k) = ⟨g1, k, none⟩ from by simp [Addr.add]; omega] at ck1
            have kt := twin_c z0[k] (HWF.out _ (List.getElem_mem hlt))
            clear hcl0 hcl1
            generalize z0[k] = v at *
            go_wp2_with fail
            go_quiet ((go_at_call 20; first | exact still kt | exact still0 kt))
            go_wp2_with fail
            exact ⟨⟨k + 1, nd + nq, by go_num, by omega, by first | rfl | exact World.drewN_drewN ..⟩, by first | (simp [intOf]; done) | (simp [intOf]; omega)⟩
          · obtain rfl : k = z0.length := by omega
            go_wp2_with fail
            go_ret
            exact ⟨rfl, hB7.trans (below_drawn _ _ _)⟩
end Go.Proofs.Ytpkokolhmcophaa.sl
