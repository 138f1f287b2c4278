/- Contracts of the reference's Pow, Shl, Shr; the walks of NumPowers and NumPowerSums. -/
import Derived.Test.YtpfkcllincfpkaaNumPow
import Derived.Test.YtpfkcllincfpkaaNumDivs
namespace Go.Proofs.Ytpfkcllincfpkaa.dg
open Go.RowKit

theorem digs_pow {x i : Nat} (hx : x ≤ 9223372036854775808) (hi : i ≤ 70) : (digs (x ^ i)).length ≤ 100000 := by
  have h1 : x ^ i ≤ (32768 ^ 5) ^ i := Nat.pow_le_pow_left (by omega) i
  rw [← Nat.pow_mul] at h1
  have h5 : 32768 ^ (5 * i) < 32768 ^ (5 * i + 1) := Nat.pow_lt_pow_right (by omega) (by omega)
  have := @digs_len_lt (x ^ i) (5 * i + 1) (Nat.lt_of_le_of_lt h1 h5)
  omega
theorem digs_shl {x i : Nat} (hx : x ≤ 9223372036854775808) (hi : i ≤ 70) : (digs (x * 2 ^ i)).length ≤ 100000 := by
  have h1 : 2 ^ i ≤ 2 ^ 70 := Nat.pow_le_pow_right (by omega) hi
  have h2 : x * 2 ^ i ≤ 9223372036854775808 * 2 ^ 70 := Nat.mul_le_mul hx h1
  have := @digs_len_lt (x * 2 ^ i) 10 (by omega)
  omega
theorem len_pow2 {i : Nat} (hi : i ≤ 70) : (digs (2 ^ i)).length ≤ 100000 := by
  have h1 : 2 ^ i ≤ 2 ^ 70 := Nat.pow_le_pow_right (by omega) hi
  have := @digs_len_lt (2 ^ i) 5 (by omega)
  omega
theorem shl_val (a : Int) (k : Nat) : nm.val (a * 2 ^ min k 70) = nm.val (a * 2 ^ k) ∧ nm.err (a * 2 ^ min k 70) = nm.err (a * 2 ^ k) := by
  by_cases h : k ≤ 70
  · rw [Nat.min_eq_left h]; exact ⟨rfl, rfl⟩
  · by_cases c : a = 0
    · subst c; rw [Int.zero_mul, Int.zero_mul]; exact ⟨rfl, rfl⟩
    · have e1 := nm.shl_big (n := min k 70) (by omega) c
      have e2 := nm.shl_big (n := k) (by omega) c
      rw [nm.val_no e1, nm.val_no e2, nm.err_no e1, nm.err_no e2]; exact ⟨rfl, rfl⟩
theorem wv_pow2 (i : Nat) : wv false (2 ^ i) = 2 ^ i := by unfold wv; simp

theorem shl_r (a n : Int) (ha : nm.Fit a) (hn : nm.Fit n) (w : World) :
    Calls Try.prog 35 #[.int .i64 a, .int .i64 n] w fun e w' => Gets w w' e (nm.shlV a n) (nm.shlE a n) := by
  by_cases h0 : n < 0
  · rw [show nm.shlV a n = 0 from if_pos h0, show nm.shlE a n = 1 from if_pos h0]
    go_enter Try.func35, Try.ntmps35
    go_wp2
    go_ret2
    exact ⟨rfl, Below.refl _ _⟩
  · rw [show nm.shlV a n = nm.val (a * 2 ^ n.toNat) from if_neg h0, show nm.shlE a n = nm.err (a * 2 ^ n.toNat) from if_neg h0]
    obtain ⟨k, rfl⟩ : ∃ k : Nat, n = k := ⟨n.toNat, by omega⟩
    rw [Int.toNat_natCast, ← (shl_val a k).1, ← (shl_val a k).2]
    have l1 := fit_natAbs ha
    have o1 := of_w a ha
    have A1 := Lib.hid (wv_of a)
    by_cases hk : k ≤ 70
    · rw [Nat.min_eq_left hk]
      have l3 := digs_shl l1 (hk)
      have l4 := len_pow2 (hk)
      have HW := Lib.hid (show wv (decide (a < 0)) (a.natAbs * 2 ^ k) = _ from (show (decide (a < 0) != false) = decide (a < 0) by cases decide (a < 0) <;> rfl) ▸ wv_mul (decide (a < 0)) a.natAbs false (2 ^ k))
      have HP := Lib.hid (wv_pow2 k)
      have pc := power_c k (hk)
      generalize decide (a < 0) = s at *
      generalize a.natAbs = m at *
      generalize (2 : Nat) ^ k = T at *
      go_enter Try.func35, Try.ntmps35
      go_wp2_with fail
      refine (o1 _).mono ?_; rintro e w1 ⟨g1, c1, rfl, s1, b1⟩; go_wp2_with fail
      refine (pc _).mono ?_; rintro e w2 ⟨g2, c2, rfl, s2, b2⟩; go_wp2_with fail
      refine (times_c _ s false g1 c1 g2 c2 m T (s1.stay b2) (s2.mono (Nat.zero_le _)) (len_ok (by omega)) l4).mono ?_; rintro e w3 ⟨g3, c3, rfl, s3, b3⟩; go_wp2_with fail
      refine (fit_c _ _ g3 c3 _ s3 l3).mono ?_; rintro e w4 ⟨rfl, b4⟩; go_wp2_with fail
      go_ret2
      exact ⟨nm_ret (by rw [HW.out, A1.out, HP.out]) (by rw [HW.out, A1.out, HP.out]), chain (chain (chain b1 b2) b3) b4⟩
    · rw [Nat.min_eq_right (show 70 ≤ k by omega)]
      have l3 := digs_shl l1 (Nat.le_refl 70)
      have l4 := len_pow2 (Nat.le_refl 70)
      have HW := Lib.hid (show wv (decide (a < 0)) (a.natAbs * 2 ^ 70) = _ from (show (decide (a < 0) != false) = decide (a < 0) by cases decide (a < 0) <;> rfl) ▸ wv_mul (decide (a < 0)) a.natAbs false (2 ^ 70))
      have HP := Lib.hid (wv_pow2 70)
      have pc := power_c 70 (by omega)
      generalize decide (a < 0) = s at *
      generalize a.natAbs = m at *
      generalize (2 : Nat) ^ 70 = T at *
      go_enter Try.func35, Try.ntmps35
      go_wp2_with fail
      refine (o1 _).mono ?_; rintro e w1 ⟨g1, c1, rfl, s1, b1⟩; go_wp2_with fail
      refine (pc _).mono ?_; rintro e w2 ⟨g2, c2, rfl, s2, b2⟩; go_wp2_with fail
      refine (times_c _ s false g1 c1 g2 c2 m T (s1.stay b2) (s2.mono (Nat.zero_le _)) (len_ok (by omega)) l4).mono ?_; rintro e w3 ⟨g3, c3, rfl, s3, b3⟩; go_wp2_with fail
      refine (fit_c _ _ g3 c3 _ s3 l3).mono ?_; rintro e w4 ⟨rfl, b4⟩; go_wp2_with fail
      go_ret2
      exact ⟨nm_ret (by rw [HW.out, A1.out, HP.out]) (by rw [HW.out, A1.out, HP.out]), chain (chain (chain b1 b2) b3) b4⟩

theorem fdiv_two (a : Int) : a.fdiv 2 = a / 2 := Int.fdiv_eq_ediv_of_nonneg a (by omega)
theorem shr_r (a n : Int) (ha : nm.Fit a) (hn : nm.Fit n) (w : World) :
    Calls Try.prog 36 #[.int .i64 a, .int .i64 n] w fun e w' => Gets w w' e (nm.shrV a n) (nm.shrE n) := by
  by_cases h0 : n < 0
  · rw [show nm.shrV a n = 0 from if_pos h0, show nm.shrE n = 1 from if_pos h0]
    go_enter Try.func36, Try.ntmps36
    go_wp2
    go_ret2
    exact ⟨rfl, Below.refl _ _⟩
  · rw [show nm.shrV a n = a / 2 ^ n.toNat from if_neg h0, show nm.shrE n = 0 from if_neg h0]
    obtain ⟨k, rfl⟩ : ∃ k : Nat, n = k := ⟨n.toNat, by omega⟩
    rw [Int.toNat_natCast]
    have hs := Lib.hid (nm.shr_min ha k)
    have hfa := fun j => nm.shr_fit ha j
    have dr : ∀ (x : Int), nm.Fit x → ∀ w, Calls Try.prog 32 #[.int .i64 x, .int .i64 2] w fun e w' => Gets w w' e (x / 2) 0 := fun x hx w => by
      have h1 := div_r x 2 hx (by unfold nm.Fit; omega) w
      have e1 : nm.divV x 2 = x / 2 := by unfold nm.divV; rw [if_neg (by omega), fdiv_two, nm.val_of (by unfold nm.Fit at *; omega)]
      have e2 : nm.divE x 2 = 0 := by unfold nm.divE; rw [if_neg (by omega), fdiv_two, nm.err_of (by unfold nm.Fit at *; omega)]
      rwa [e1, e2] at h1
    have hk : k ≤ 9223372036854775807 := by unfold nm.Fit at hn; omega
    have hstep := fun j : Nat => Lib.hid (show a / 2 ^ j / 2 = a / 2 ^ (j + 1) by rw [Int.ediv_ediv_of_nonneg (by have := nm.pow_pos2 j; omega), Int.pow_succ])
    clear hn
    go_enter Try.func36, Try.ntmps36
    go_wp2_with fail
    go_loopw [0, 6] (fun x i wr => ∃ j : Nat, i = .int .i64 j ∧ x = .int .i64 (a / 2 ^ j) ∧ j ≤ k ∧ j ≤ 64 ∧ Below w.heap.size w wr) (fun _ i _ => 64 - (intOf i).toNat)
    case atStart => exact ⟨0, rfl, by rw [Int.pow_zero, Int.ediv_one], by omega, by omega, Below.refl _ _⟩
    case round =>
      obtain ⟨j, rfl, rfl, hj1, hj2, hb⟩ := hrel
      by_cases hjk : j < k
      · by_cases hj6 : j < 64
        · have hd := dr _ (hfa j)
          have hst := hstep j
          clear hstep dr hfa
          generalize a / 2 ^ j = y at *
          go_wp2_with (go_at_call 32; refine (hd _).mono ?_; rintro e w2 ⟨rfl, b2⟩)
          exact ⟨⟨j + 1, by go_num, by rw [hst.out], by omega, by omega, hb.trans (b2.mono hb.size)⟩, by simp [intOf]; omega⟩
        · obtain rfl : j = 64 := by omega
          have hm := Lib.hid (show a / 2 ^ 64 = a / 2 ^ k by rw [← hs.out, Nat.min_eq_right (by omega)])
          clear hstep dr hfa
          generalize a / 2 ^ 64 = y at *
          go_wp2
          go_ret2
          exact ⟨nm_ret hm.out rfl, hb⟩
      · obtain rfl : j = k := by omega
        clear hstep dr hfa
        obtain ⟨y, hy⟩ : ∃ y, y = a / 2 ^ j := ⟨_, rfl⟩
        rw [← hy]
        have Hy := Lib.hid hy
        clear hy
        go_wp2
        go_ret2
        exact ⟨nm_ret Hy.out rfl, hb⟩

theorem pow_min (a : Int) (k n : Nat) (hn : ((-1 ≤ a ∧ a ≤ 1) ∧ (n = k ∧ k ≤ 3 ∨ 2 ≤ k ∧ n = 2 + k % 2)) ∨ (¬ (-1 ≤ a ∧ a ≤ 1) ∧ n = k)) : nm.val (a ^ min n 70) = nm.val (a ^ k) ∧ nm.err (a ^ min n 70) = nm.err (a ^ k) := by
  by_cases h1 : -1 ≤ a ∧ a ≤ 1
  · have h2 : ∀ i j : Nat, 0 < i → 0 < j → i % 2 = j % 2 → a ^ i = a ^ j := fun i j hi hj h => by
      rw [nm.pow_small_n a h1 i hi, nm.pow_small_n a h1 j hj, h]
    have h3 : a ^ min n 70 = a ^ k := by
      by_cases c : k ≤ 70
      · by_cases d : n = k
        · subst d; rw [Nat.min_eq_left c]
        · exact h2 _ _ (by omega) (by omega) (by omega)
      · exact h2 _ _ (by omega) (by omega) (by omega)
    rw [h3]; exact ⟨rfl, rfl⟩
  · have d : n = k := by omega
    subst d
    by_cases c : n ≤ 70
    · rw [Nat.min_eq_left c]; exact ⟨rfl, rfl⟩
    · have e1 := nm.pow_big (a := a) (n := min n 70) (by omega) (by omega)
      have e2 := nm.pow_big (a := a) (n := n) (by omega) (by omega)
      rw [nm.val_no e1, nm.val_no e2, nm.err_no e1, nm.err_no e2]; exact ⟨rfl, rfl⟩
theorem put_c0 {w : World} {P : Nat} {u0 u1 : Value} (p0 : w.cell? ⟨P, 0, none⟩ = some u0) (p1 : w.cell? ⟨P, 1, none⟩ = some u1) (v0 v1 : Value) :
    ((w.setCell ⟨P, 0, none⟩ v0).setCell ⟨P, 1, none⟩ v1).cell? ⟨P, 0, none⟩ = some v0 := by
  simp [go_sem, p0, p1]
theorem put_c1 {w : World} {P : Nat} {u0 u1 : Value} (p0 : w.cell? ⟨P, 0, none⟩ = some u0) (p1 : w.cell? ⟨P, 1, none⟩ = some u1) (v0 v1 : Value) :
    ((w.setCell ⟨P, 0, none⟩ v0).setCell ⟨P, 1, none⟩ v1).cell? ⟨P, 1, none⟩ = some v1 := by
  simp [go_sem, p0, p1]
theorem put_f {w : World} {P i : Nat} (f : w.frozen? ⟨P, i, none⟩ = false) (v0 v1 : Value) :
    ((w.setCell ⟨P, 0, none⟩ v0).setCell ⟨P, 1, none⟩ v1).frozen? ⟨P, i, none⟩ = false := by simp [go_sem, f]
theorem put_sl {B : Nat} {w : World} {g cap P : Nat} {l : List Nat} (h : SlB B w g cap l) (hg : P < g) (v0 v1 : Value) :
    Sl ((w.setCell ⟨P, 0, none⟩ v0).setCell ⟨P, 1, none⟩ v1) g cap l := by
  have h2 : SlB g w g cap l := by
    refine ⟨h.1, ?_⟩
    rcases h.2 with h1 | ⟨g', cap', cur, h1, h2, h3⟩
    · exact .inl h1
    · simp at h1; obtain ⟨rfl, rfl⟩ := h1; exact .inr ⟨g, cap, cur, rfl, Nat.le_refl _, h3⟩
  exact SlB.mono (ownsRow_setCell_below (ownsRow_setCell_below h2 hg _) hg _) (Nat.zero_le _)
theorem put_z {w : World} {P : Nat} (h : P < w.heap.size) (v0 v1 : Value) : P < ((w.setCell ⟨P, 0, none⟩ v0).setCell ⟨P, 1, none⟩ v1).heap.size := by
  simp [World.setCell]; exact h
theorem put_b {N P : Nat} {w wr : World} (h : Below N w wr) (hP : N ≤ P) (v0 v1 : Value) : Below N w ((wr.setCell ⟨P, 0, none⟩ v0).setCell ⟨P, 1, none⟩ v1) :=
  (h.setCell hP _).setCell hP _
theorem of_one (w : World) : Calls Try.prog 45 #[.int .i64 1] w fun e w' => Wide w w' e false 1 :=
  (of_c _ (by omega) w).mono fun e w' h => h

set_option maxHeartbeats 2000000 in
theorem pow_r (a n : Int) (ha : nm.Fit a) (hn : nm.Fit n) (w : World) :
    Calls Try.prog 22 #[.int .i64 a, .int .i64 n] w fun e w' => Gets w w' e (nm.powV a n) (nm.powE a n) := by
  by_cases h0 : n < 0
  · rw [show nm.powV a n = 0 from if_pos h0, show nm.powE a n = 1 from if_pos h0]
    go_enter Try.func22, Try.ntmps22
    go_wp2
    go_ret2
    exact ⟨rfl, Below.refl _ _⟩
  · rw [show nm.powV a n = nm.val (a ^ n.toNat) from if_neg h0, show nm.powE a n = nm.err (a ^ n.toNat) from if_neg h0]
    obtain ⟨k, rfl⟩ : ∃ k : Nat, n = k := ⟨n.toNat, by omega⟩
    rw [Int.toNat_natCast]
    have hk : k ≤ 9223372036854775807 := by unfold nm.Fit at hn; omega
    have l1 := fit_natAbs ha
    have o1 := of_w a ha
    have A1 := Lib.hid (wv_of a)
    generalize hs : decide (a < 0) = s at *
    generalize hm : a.natAbs = m at *
    clear hs hm hn
    by_cases a0 : a = 0
    · have z0 : (a == 0) = true := by simp [a0]
      have ab : -1 ≤ a ∧ a ≤ 1 := by omega
      clear a0
      by_cases hk2 : k ≤ 2 + k % 2
      · have HV := Lib.hid (pow_min a k (k) (by omega))
        clear ab
        go_enter Try.func22, Try.ntmps22
        go_wp2_with fail
        refine (of_one _).mono ?_; rintro e w1 ⟨g1, c1, rfl, s1, b1⟩; go_wp2_with fail
        go_loopw [7] (fun i wr => ∃ (j g c : Nat) (sj : Bool), i = .int .i64 j ∧ j ≤ k ∧ j ≤ 70 ∧ wr.cell? ⟨w1.heap.size, 0, none⟩ = some (.bool sj) ∧ wr.cell? ⟨w1.heap.size, 1, none⟩ = some (.slice (some ⟨g, 0, none⟩) (digs (m ^ j)).length c) ∧ wr.frozen? ⟨w1.heap.size, 0, none⟩ = false ∧ wr.frozen? ⟨w1.heap.size, 1, none⟩ = false ∧ Sl wr g c (digs (m ^ j)) ∧ Hid (wv sj (m ^ j) = a ^ j) ∧ w1.heap.size < wr.heap.size ∧ Below w.heap.size w wr) (fun i _ => 70 - (intOf i).toNat)
        case atStart => exact ⟨0, g1, c1, false, rfl, by omega, by omega, by go_cell, by rw [Nat.pow_zero]; go_cell, by go_cell, by go_cell, by rw [Nat.pow_zero]; exact s1.alloc _, Lib.hid (by rw [Nat.pow_zero, Int.pow_zero]; rfl), by simp, b1.alloc b1.size _⟩
        case round =>
          obtain ⟨j, g, c, sj, rfl, hj1, hj2, p0, p1, f0, f1, hg, hv, hz, hb⟩ := hrel
          have lj := digs_pow (i := j) l1 hj2
          by_cases hjn : j < k
          · by_cases hj7 : j < 70
            · have hv' := Lib.hid (show wv (sj != s) (m ^ (j + 1)) = a ^ (j + 1) by rw [Nat.pow_succ, wv_mul, hv.out, A1.out, Int.pow_succ])
              rw [Nat.pow_succ] at hv'
              have lm := len_ok (n := m) (by omega)
              have hP := Lib.hid (Nat.pow_succ (n := m) (m := j))
              clear hv
              generalize m ^ j = T at *
              go_wp2_with fail
              go_region_with (first
                  | (go_at_call 45; refine (o1 _).mono ?_; rintro e w2 ⟨g2, c2, rfl, s2, b2⟩; have z2 : w1.heap.size < w2.heap.size := (by have := b2.size; first | omega | (simp at this; omega)); have p20 : w2.cell? ⟨w1.heap.size, 0, none⟩ = some (.bool sj) := (by rw [b2.cell (by go_size)]; exact p0); have p21 : w2.cell? ⟨w1.heap.size, 1, none⟩ = some (.slice (some ⟨g, 0, none⟩) (digs T).length c) := (by rw [b2.cell (by go_size)]; exact p1); have f20 : w2.frozen? ⟨w1.heap.size, 0, none⟩ = false := (by rw [b2.frozen (by go_size)]; exact f0); have f21 : w2.frozen? ⟨w1.heap.size, 1, none⟩ = false := (by rw [b2.frozen (by go_size)]; exact f1); have hg2 : Sl w2 g c (digs T) := (by first | exact SlB.stay hg.drew b2 | exact SlB.stay hg b2); have hb2 : Below w.heap.size w w2 := (by first | exact hb.drew.trans (b2.mono hb.size) | exact hb.trans (b2.mono hb.size)))
                  | (go_at_call 47; refine (times_f _ sj s g c g2 c2 T m (by first | exact hg2.drew | exact hg2) (by first | exact s2.drew | exact s2) lj lm).mono ?_; rintro e w3 ⟨g3, c3, rfl, s3, b3⟩; have z3 : w1.heap.size < w3.heap.size := (by have := b3.size; first | omega | (simp at this; omega)); have p30 : w3.cell? ⟨w1.heap.size, 0, none⟩ = some (.bool sj) := (by rw [b3.cell (by go_size)]; exact p20); have p31 : w3.cell? ⟨w1.heap.size, 1, none⟩ = some (.slice (some ⟨g, 0, none⟩) (digs T).length c) := (by rw [b3.cell (by go_size)]; exact p21); have f30 : w3.frozen? ⟨w1.heap.size, 0, none⟩ = false := (by rw [b3.frozen (by go_size)]; exact f20); have f31 : w3.frozen? ⟨w1.heap.size, 1, none⟩ = false := (by rw [b3.frozen (by go_size)]; exact f21); have hb3 : Below w.heap.size w w3 := (by first | exact hb2.drew.trans (b3.mono hb2.size) | exact hb2.trans (b3.mono hb2.size)); have hs3 : w1.heap.size < g3 := (by have := s3.lt.1; first | omega | (simp at this; omega))))
              go_wp2_with fail
              all_goals exact ⟨⟨j + 1, g3, c3, (sj != s), by go_num, by omega, by omega, put_c0 p30 p31 _ _, by rw [hP.out]; exact put_c1 p30 p31 _ _, put_f f30 _ _, put_f f31 _ _, by rw [hP.out]; exact put_sl s3 hs3 _ _, by rw [hP.out]; exact hv', put_z z3 _ _, put_b hb3 (by have := b1.size; omega) _ _⟩, by simp [intOf]; omega⟩
            · obtain rfl : j = 70 := by omega
              have hv2 := Lib.hid (show a ^ min (k) 70 = wv sj (m ^ 70) by rw [hv.out, Nat.min_eq_right (by omega)])
              go_wp2_with (go_at_call 43; refine (fit_c _ sj g c _ (by exact hg) lj).mono ?_; rintro e w4 ⟨rfl, b4⟩)
              all_goals go_ret2
              all_goals exact ⟨nm_ret (by rw [← HV.out.1, hv2.out]) (by rw [← HV.out.2, hv2.out]), hb.trans (b4.mono hb.size)⟩
          · have hv2 := Lib.hid (show a ^ min (k) 70 = wv sj (m ^ j) by rw [hv.out, Nat.min_eq_left (by omega), show k = j from by omega])
            go_wp2_with (go_at_call 43; refine (fit_c _ sj g c _ (by exact hg) lj).mono ?_; rintro e w4 ⟨rfl, b4⟩)
            all_goals go_ret2
            all_goals exact ⟨nm_ret (by rw [← HV.out.1, hv2.out]) (by rw [← HV.out.2, hv2.out]), hb.trans (b4.mono hb.size)⟩
      · have HV := Lib.hid (pow_min a k (2 + k % 2) (by omega))
        clear ab
        go_enter Try.func22, Try.ntmps22
        go_wp2_with fail
        refine (of_one _).mono ?_; rintro e w1 ⟨g1, c1, rfl, s1, b1⟩; go_wp2_with fail
        go_loopw [7] (fun i wr => ∃ (j g c : Nat) (sj : Bool), i = .int .i64 j ∧ j ≤ 2 + k % 2 ∧ j ≤ 70 ∧ wr.cell? ⟨w1.heap.size, 0, none⟩ = some (.bool sj) ∧ wr.cell? ⟨w1.heap.size, 1, none⟩ = some (.slice (some ⟨g, 0, none⟩) (digs (m ^ j)).length c) ∧ wr.frozen? ⟨w1.heap.size, 0, none⟩ = false ∧ wr.frozen? ⟨w1.heap.size, 1, none⟩ = false ∧ Sl wr g c (digs (m ^ j)) ∧ Hid (wv sj (m ^ j) = a ^ j) ∧ w1.heap.size < wr.heap.size ∧ Below w.heap.size w wr) (fun i _ => 70 - (intOf i).toNat)
        case atStart => exact ⟨0, g1, c1, false, rfl, by omega, by omega, by go_cell, by rw [Nat.pow_zero]; go_cell, by go_cell, by go_cell, by rw [Nat.pow_zero]; exact s1.alloc _, Lib.hid (by rw [Nat.pow_zero, Int.pow_zero]; rfl), by simp, b1.alloc b1.size _⟩
        case round =>
          obtain ⟨j, g, c, sj, rfl, hj1, hj2, p0, p1, f0, f1, hg, hv, hz, hb⟩ := hrel
          have lj := digs_pow (i := j) l1 hj2
          by_cases hjn : j < 2 + k % 2
          · by_cases hj7 : j < 70
            · have hv' := Lib.hid (show wv (sj != s) (m ^ (j + 1)) = a ^ (j + 1) by rw [Nat.pow_succ, wv_mul, hv.out, A1.out, Int.pow_succ])
              rw [Nat.pow_succ] at hv'
              have lm := len_ok (n := m) (by omega)
              have hP := Lib.hid (Nat.pow_succ (n := m) (m := j))
              clear hv
              generalize m ^ j = T at *
              go_wp2_with fail
              go_region_with (first
                  | (go_at_call 45; refine (o1 _).mono ?_; rintro e w2 ⟨g2, c2, rfl, s2, b2⟩; have z2 : w1.heap.size < w2.heap.size := (by have := b2.size; first | omega | (simp at this; omega)); have p20 : w2.cell? ⟨w1.heap.size, 0, none⟩ = some (.bool sj) := (by rw [b2.cell (by go_size)]; exact p0); have p21 : w2.cell? ⟨w1.heap.size, 1, none⟩ = some (.slice (some ⟨g, 0, none⟩) (digs T).length c) := (by rw [b2.cell (by go_size)]; exact p1); have f20 : w2.frozen? ⟨w1.heap.size, 0, none⟩ = false := (by rw [b2.frozen (by go_size)]; exact f0); have f21 : w2.frozen? ⟨w1.heap.size, 1, none⟩ = false := (by rw [b2.frozen (by go_size)]; exact f1); have hg2 : Sl w2 g c (digs T) := (by first | exact SlB.stay hg.drew b2 | exact SlB.stay hg b2); have hb2 : Below w.heap.size w w2 := (by first | exact hb.drew.trans (b2.mono hb.size) | exact hb.trans (b2.mono hb.size)))
                  | (go_at_call 47; refine (times_f _ sj s g c g2 c2 T m (by first | exact hg2.drew | exact hg2) (by first | exact s2.drew | exact s2) lj lm).mono ?_; rintro e w3 ⟨g3, c3, rfl, s3, b3⟩; have z3 : w1.heap.size < w3.heap.size := (by have := b3.size; first | omega | (simp at this; omega)); have p30 : w3.cell? ⟨w1.heap.size, 0, none⟩ = some (.bool sj) := (by rw [b3.cell (by go_size)]; exact p20); have p31 : w3.cell? ⟨w1.heap.size, 1, none⟩ = some (.slice (some ⟨g, 0, none⟩) (digs T).length c) := (by rw [b3.cell (by go_size)]; exact p21); have f30 : w3.frozen? ⟨w1.heap.size, 0, none⟩ = false := (by rw [b3.frozen (by go_size)]; exact f20); have f31 : w3.frozen? ⟨w1.heap.size, 1, none⟩ = false := (by rw [b3.frozen (by go_size)]; exact f21); have hb3 : Below w.heap.size w w3 := (by first | exact hb2.drew.trans (b3.mono hb2.size) | exact hb2.trans (b3.mono hb2.size)); have hs3 : w1.heap.size < g3 := (by have := s3.lt.1; first | omega | (simp at this; omega))))
              go_wp2_with fail
              all_goals exact ⟨⟨j + 1, g3, c3, (sj != s), by go_num, by omega, by omega, put_c0 p30 p31 _ _, by rw [hP.out]; exact put_c1 p30 p31 _ _, put_f f30 _ _, put_f f31 _ _, by rw [hP.out]; exact put_sl s3 hs3 _ _, by rw [hP.out]; exact hv', put_z z3 _ _, put_b hb3 (by have := b1.size; omega) _ _⟩, by simp [intOf]; omega⟩
            · obtain rfl : j = 70 := by omega
              have hv2 := Lib.hid (show a ^ min (2 + k % 2) 70 = wv sj (m ^ 70) by rw [hv.out, Nat.min_eq_right (by omega)])
              go_wp2_with (go_at_call 43; refine (fit_c _ sj g c _ (by exact hg) lj).mono ?_; rintro e w4 ⟨rfl, b4⟩)
              all_goals go_ret2
              all_goals exact ⟨nm_ret (by rw [← HV.out.1, hv2.out]) (by rw [← HV.out.2, hv2.out]), hb.trans (b4.mono hb.size)⟩
          · have hv2 := Lib.hid (show a ^ min (2 + k % 2) 70 = wv sj (m ^ j) by rw [hv.out, Nat.min_eq_left (by omega), show 2 + k % 2 = j from by omega])
            go_wp2_with (go_at_call 43; refine (fit_c _ sj g c _ (by exact hg) lj).mono ?_; rintro e w4 ⟨rfl, b4⟩)
            all_goals go_ret2
            all_goals exact ⟨nm_ret (by rw [← HV.out.1, hv2.out]) (by rw [← HV.out.2, hv2.out]), hb.trans (b4.mono hb.size)⟩
    · have z0 : (a == 0) = false := by simp [a0]
      by_cases a1 : a = 1
      · have z1 : (a == 1) = true := by simp [a1]
        have ab : -1 ≤ a ∧ a ≤ 1 := by omega
        clear a0 a1
        by_cases hk2 : k ≤ 2 + k % 2
        · have HV := Lib.hid (pow_min a k (k) (by omega))
          clear ab
          go_enter Try.func22, Try.ntmps22
          go_wp2_with fail
          refine (of_one _).mono ?_; rintro e w1 ⟨g1, c1, rfl, s1, b1⟩; go_wp2_with fail
          go_loopw [7] (fun i wr => ∃ (j g c : Nat) (sj : Bool), i = .int .i64 j ∧ j ≤ k ∧ j ≤ 70 ∧ wr.cell? ⟨w1.heap.size, 0, none⟩ = some (.bool sj) ∧ wr.cell? ⟨w1.heap.size, 1, none⟩ = some (.slice (some ⟨g, 0, none⟩) (digs (m ^ j)).length c) ∧ wr.frozen? ⟨w1.heap.size, 0, none⟩ = false ∧ wr.frozen? ⟨w1.heap.size, 1, none⟩ = false ∧ Sl wr g c (digs (m ^ j)) ∧ Hid (wv sj (m ^ j) = a ^ j) ∧ w1.heap.size < wr.heap.size ∧ Below w.heap.size w wr) (fun i _ => 70 - (intOf i).toNat)
          case atStart => exact ⟨0, g1, c1, false, rfl, by omega, by omega, by go_cell, by rw [Nat.pow_zero]; go_cell, by go_cell, by go_cell, by rw [Nat.pow_zero]; exact s1.alloc _, Lib.hid (by rw [Nat.pow_zero, Int.pow_zero]; rfl), by simp, b1.alloc b1.size _⟩
          case round =>
            obtain ⟨j, g, c, sj, rfl, hj1, hj2, p0, p1, f0, f1, hg, hv, hz, hb⟩ := hrel
            have lj := digs_pow (i := j) l1 hj2
            by_cases hjn : j < k
            · by_cases hj7 : j < 70
              · have hv' := Lib.hid (show wv (sj != s) (m ^ (j + 1)) = a ^ (j + 1) by rw [Nat.pow_succ, wv_mul, hv.out, A1.out, Int.pow_succ])
                rw [Nat.pow_succ] at hv'
                have lm := len_ok (n := m) (by omega)
                have hP := Lib.hid (Nat.pow_succ (n := m) (m := j))
                clear hv
                generalize m ^ j = T at *
                go_wp2_with fail
                go_region_with (first
                    | (go_at_call 45; refine (o1 _).mono ?_; rintro e w2 ⟨g2, c2, rfl, s2, b2⟩; have z2 : w1.heap.size < w2.heap.size := (by have := b2.size; first | omega | (simp at this; omega)); have p20 : w2.cell? ⟨w1.heap.size, 0, none⟩ = some (.bool sj) := (by rw [b2.cell (by go_size)]; exact p0); have p21 : w2.cell? ⟨w1.heap.size, 1, none⟩ = some (.slice (some ⟨g, 0, none⟩) (digs T).length c) := (by rw [b2.cell (by go_size)]; exact p1); have f20 : w2.frozen? ⟨w1.heap.size, 0, none⟩ = false := (by rw [b2.frozen (by go_size)]; exact f0); have f21 : w2.frozen? ⟨w1.heap.size, 1, none⟩ = false := (by rw [b2.frozen (by go_size)]; exact f1); have hg2 : Sl w2 g c (digs T) := (by first | exact SlB.stay hg.drew b2 | exact SlB.stay hg b2); have hb2 : Below w.heap.size w w2 := (by first | exact hb.drew.trans (b2.mono hb.size) | exact hb.trans (b2.mono hb.size)))
                    | (go_at_call 47; refine (times_f _ sj s g c g2 c2 T m (by first | exact hg2.drew | exact hg2) (by first | exact s2.drew | exact s2) lj lm).mono ?_; rintro e w3 ⟨g3, c3, rfl, s3, b3⟩; have z3 : w1.heap.size < w3.heap.size := (by have := b3.size; first | omega | (simp at this; omega)); have p30 : w3.cell? ⟨w1.heap.size, 0, none⟩ = some (.bool sj) := (by rw [b3.cell (by go_size)]; exact p20); have p31 : w3.cell? ⟨w1.heap.size, 1, none⟩ = some (.slice (some ⟨g, 0, none⟩) (digs T).length c) := (by rw [b3.cell (by go_size)]; exact p21); have f30 : w3.frozen? ⟨w1.heap.size, 0, none⟩ = false := (by rw [b3.frozen (by go_size)]; exact f20); have f31 : w3.frozen? ⟨w1.heap.size, 1, none⟩ = false := (by rw [b3.frozen (by go_size)]; exact f21); have hb3 : Below w.heap.size w w3 := (by first | exact hb2.drew.trans (b3.mono hb2.size) | exact hb2.trans (b3.mono hb2.size)); have hs3 : w1.heap.size < g3 := (by have := s3.lt.1; first | omega | (simp at this; omega))))
                go_wp2_with fail
                all_goals exact ⟨⟨j + 1, g3, c3, (sj != s), by go_num, by omega, by omega, put_c0 p30 p31 _ _, by rw [hP.out]; exact put_c1 p30 p31 _ _, put_f f30 _ _, put_f f31 _ _, by rw [hP.out]; exact put_sl s3 hs3 _ _, by rw [hP.out]; exact hv', put_z z3 _ _, put_b hb3 (by have := b1.size; omega) _ _⟩, by simp [intOf]; omega⟩
              · obtain rfl : j = 70 := by omega
                have hv2 := Lib.hid (show a ^ min (k) 70 = wv sj (m ^ 70) by rw [hv.out, Nat.min_eq_right (by omega)])
                go_wp2_with (go_at_call 43; refine (fit_c _ sj g c _ (by exact hg) lj).mono ?_; rintro e w4 ⟨rfl, b4⟩)
                all_goals go_ret2
                all_goals exact ⟨nm_ret (by rw [← HV.out.1, hv2.out]) (by rw [← HV.out.2, hv2.out]), hb.trans (b4.mono hb.size)⟩
            · have hv2 := Lib.hid (show a ^ min (k) 70 = wv sj (m ^ j) by rw [hv.out, Nat.min_eq_left (by omega), show k = j from by omega])
              go_wp2_with (go_at_call 43; refine (fit_c _ sj g c _ (by exact hg) lj).mono ?_; rintro e w4 ⟨rfl, b4⟩)
              all_goals go_ret2
              all_goals exact ⟨nm_ret (by rw [← HV.out.1, hv2.out]) (by rw [← HV.out.2, hv2.out]), hb.trans (b4.mono hb.size)⟩
        · have HV := Lib.hid (pow_min a k (2 + k % 2) (by omega))
          clear ab
          go_enter Try.func22, Try.ntmps22
          go_wp2_with fail
          refine (of_one _).mono ?_; rintro e w1 ⟨g1, c1, rfl, s1, b1⟩; go_wp2_with fail
          go_loopw [7] (fun i wr => ∃ (j g c : Nat) (sj : Bool), i = .int .i64 j ∧ j ≤ 2 + k % 2 ∧ j ≤ 70 ∧ wr.cell? ⟨w1.heap.size, 0, none⟩ = some (.bool sj) ∧ wr.cell? ⟨w1.heap.size, 1, none⟩ = some (.slice (some ⟨g, 0, none⟩) (digs (m ^ j)).length c) ∧ wr.frozen? ⟨w1.heap.size, 0, none⟩ = false ∧ wr.frozen? ⟨w1.heap.size, 1, none⟩ = false ∧ Sl wr g c (digs (m ^ j)) ∧ Hid (wv sj (m ^ j) = a ^ j) ∧ w1.heap.size < wr.heap.size ∧ Below w.heap.size w wr) (fun i _ => 70 - (intOf i).toNat)
          case atStart => exact ⟨0, g1, c1, false, rfl, by omega, by omega, by go_cell, by rw [Nat.pow_zero]; go_cell, by go_cell, by go_cell, by rw [Nat.pow_zero]; exact s1.alloc _, Lib.hid (by rw [Nat.pow_zero, Int.pow_zero]; rfl), by simp, b1.alloc b1.size _⟩
          case round =>
            obtain ⟨j, g, c, sj, rfl, hj1, hj2, p0, p1, f0, f1, hg, hv, hz, hb⟩ := hrel
            have lj := digs_pow (i := j) l1 hj2
            by_cases hjn : j < 2 + k % 2
            · by_cases hj7 : j < 70
              · have hv' := Lib.hid (show wv (sj != s) (m ^ (j + 1)) = a ^ (j + 1) by rw [Nat.pow_succ, wv_mul, hv.out, A1.out, Int.pow_succ])
                rw [Nat.pow_succ] at hv'
                have lm := len_ok (n := m) (by omega)
                have hP := Lib.hid (Nat.pow_succ (n := m) (m := j))
                clear hv
                generalize m ^ j = T at *
                go_wp2_with fail
                go_region_with (first
                    | (go_at_call 45; refine (o1 _).mono ?_; rintro e w2 ⟨g2, c2, rfl, s2, b2⟩; have z2 : w1.heap.size < w2.heap.size := (by have := b2.size; first | omega | (simp at this; omega)); have p20 : w2.cell? ⟨w1.heap.size, 0, none⟩ = some (.bool sj) := (by rw [b2.cell (by go_size)]; exact p0); have p21 : w2.cell? ⟨w1.heap.size, 1, none⟩ = some (.slice (some ⟨g, 0, none⟩) (digs T).length c) := (by rw [b2.cell (by go_size)]; exact p1); have f20 : w2.frozen? ⟨w1.heap.size, 0, none⟩ = false := (by rw [b2.frozen (by go_size)]; exact f0); have f21 : w2.frozen? ⟨w1.heap.size, 1, none⟩ = false := (by rw [b2.frozen (by go_size)]; exact f1); have hg2 : Sl w2 g c (digs T) := (by first | exact SlB.stay hg.drew b2 | exact SlB.stay hg b2); have hb2 : Below w.heap.size w w2 := (by first | exact hb.drew.trans (b2.mono hb.size) | exact hb.trans (b2.mono hb.size)))
                    | (go_at_call 47; refine (times_f _ sj s g c g2 c2 T m (by first | exact hg2.drew | exact hg2) (by first | exact s2.drew | exact s2) lj lm).mono ?_; rintro e w3 ⟨g3, c3, rfl, s3, b3⟩; have z3 : w1.heap.size < w3.heap.size := (by have := b3.size; first | omega | (simp at this; omega)); have p30 : w3.cell? ⟨w1.heap.size, 0, none⟩ = some (.bool sj) := (by rw [b3.cell (by go_size)]; exact p20); have p31 : w3.cell? ⟨w1.heap.size, 1, none⟩ = some (.slice (some ⟨g, 0, none⟩) (digs T).length c) := (by rw [b3.cell (by go_size)]; exact p21); have f30 : w3.frozen? ⟨w1.heap.size, 0, none⟩ = false := (by rw [b3.frozen (by go_size)]; exact f20); have f31 : w3.frozen? ⟨w1.heap.size, 1, none⟩ = false := (by rw [b3.frozen (by go_size)]; exact f21); have hb3 : Below w.heap.size w w3 := (by first | exact hb2.drew.trans (b3.mono hb2.size) | exact hb2.trans (b3.mono hb2.size)); have hs3 : w1.heap.size < g3 := (by have := s3.lt.1; first | omega | (simp at this; omega))))
                go_wp2_with fail
                all_goals exact ⟨⟨j + 1, g3, c3, (sj != s), by go_num, by omega, by omega, put_c0 p30 p31 _ _, by rw [hP.out]; exact put_c1 p30 p31 _ _, put_f f30 _ _, put_f f31 _ _, by rw [hP.out]; exact put_sl s3 hs3 _ _, by rw [hP.out]; exact hv', put_z z3 _ _, put_b hb3 (by have := b1.size; omega) _ _⟩, by simp [intOf]; omega⟩
              · obtain rfl : j = 70 := by omega
                have hv2 := Lib.hid (show a ^ min (2 + k % 2) 70 = wv sj (m ^ 70) by rw [hv.out, Nat.min_eq_right (by omega)])
                go_wp2_with (go_at_call 43; refine (fit_c _ sj g c _ (by exact hg) lj).mono ?_; rintro e w4 ⟨rfl, b4⟩)
                all_goals go_ret2
                all_goals exact ⟨nm_ret (by rw [← HV.out.1, hv2.out]) (by rw [← HV.out.2, hv2.out]), hb.trans (b4.mono hb.size)⟩
            · have hv2 := Lib.hid (show a ^ min (2 + k % 2) 70 = wv sj (m ^ j) by rw [hv.out, Nat.min_eq_left (by omega), show 2 + k % 2 = j from by omega])
              go_wp2_with (go_at_call 43; refine (fit_c _ sj g c _ (by exact hg) lj).mono ?_; rintro e w4 ⟨rfl, b4⟩)
              all_goals go_ret2
              all_goals exact ⟨nm_ret (by rw [← HV.out.1, hv2.out]) (by rw [← HV.out.2, hv2.out]), hb.trans (b4.mono hb.size)⟩
      · have z1 : (a == 1) = false := by simp [a1]
        by_cases a2 : a = -1
        · have z2 : (a == -1) = true := by simp [a2]
          have ab : -1 ≤ a ∧ a ≤ 1 := by omega
          clear a0 a1 a2
          by_cases hk2 : k ≤ 2 + k % 2
          · have HV := Lib.hid (pow_min a k (k) (by omega))
            clear ab
            go_enter Try.func22, Try.ntmps22
            go_wp2_with fail
            refine (of_one _).mono ?_; rintro e w1 ⟨g1, c1, rfl, s1, b1⟩; go_wp2_with fail
            go_loopw [7] (fun i wr => ∃ (j g c : Nat) (sj : Bool), i = .int .i64 j ∧ j ≤ k ∧ j ≤ 70 ∧ wr.cell? ⟨w1.heap.size, 0, none⟩ = some (.bool sj) ∧ wr.cell? ⟨w1.heap.size, 1, none⟩ = some (.slice (some ⟨g, 0, none⟩) (digs (m ^ j)).length c) ∧ wr.frozen? ⟨w1.heap.size, 0, none⟩ = false ∧ wr.frozen? ⟨w1.heap.size, 1, none⟩ = false ∧ Sl wr g c (digs (m ^ j)) ∧ Hid (wv sj (m ^ j) = a ^ j) ∧ w1.heap.size < wr.heap.size ∧ Below w.heap.size w wr) (fun i _ => 70 - (intOf i).toNat)
            case atStart => exact ⟨0, g1, c1, false, rfl, by omega, by omega, by go_cell, by rw [Nat.pow_zero]; go_cell, by go_cell, by go_cell, by rw [Nat.pow_zero]; exact s1.alloc _, Lib.hid (by rw [Nat.pow_zero, Int.pow_zero]; rfl), by simp, b1.alloc b1.size _⟩
            case round =>
              obtain ⟨j, g, c, sj, rfl, hj1, hj2, p0, p1, f0, f1, hg, hv, hz, hb⟩ := hrel
              have lj := digs_pow (i := j) l1 hj2
              by_cases hjn : j < k
              · by_cases hj7 : j < 70
                · have hv' := Lib.hid (show wv (sj != s) (m ^ (j + 1)) = a ^ (j + 1) by rw [Nat.pow_succ, wv_mul, hv.out, A1.out, Int.pow_succ])
                  rw [Nat.pow_succ] at hv'
                  have lm := len_ok (n := m) (by omega)
                  have hP := Lib.hid (Nat.pow_succ (n := m) (m := j))
                  clear hv
                  generalize m ^ j = T at *
                  go_wp2_with fail
                  go_region_with (first
                      | (go_at_call 45; refine (o1 _).mono ?_; rintro e w2 ⟨g2, c2, rfl, s2, b2⟩; have z2 : w1.heap.size < w2.heap.size := (by have := b2.size; first | omega | (simp at this; omega)); have p20 : w2.cell? ⟨w1.heap.size, 0, none⟩ = some (.bool sj) := (by rw [b2.cell (by go_size)]; exact p0); have p21 : w2.cell? ⟨w1.heap.size, 1, none⟩ = some (.slice (some ⟨g, 0, none⟩) (digs T).length c) := (by rw [b2.cell (by go_size)]; exact p1); have f20 : w2.frozen? ⟨w1.heap.size, 0, none⟩ = false := (by rw [b2.frozen (by go_size)]; exact f0); have f21 : w2.frozen? ⟨w1.heap.size, 1, none⟩ = false := (by rw [b2.frozen (by go_size)]; exact f1); have hg2 : Sl w2 g c (digs T) := (by first | exact SlB.stay hg.drew b2 | exact SlB.stay hg b2); have hb2 : Below w.heap.size w w2 := (by first | exact hb.drew.trans (b2.mono hb.size) | exact hb.trans (b2.mono hb.size)))
                      | (go_at_call 47; refine (times_f _ sj s g c g2 c2 T m (by first | exact hg2.drew | exact hg2) (by first | exact s2.drew | exact s2) lj lm).mono ?_; rintro e w3 ⟨g3, c3, rfl, s3, b3⟩; have z3 : w1.heap.size < w3.heap.size := (by have := b3.size; first | omega | (simp at this; omega)); have p30 : w3.cell? ⟨w1.heap.size, 0, none⟩ = some (.bool sj) := (by rw [b3.cell (by go_size)]; exact p20); have p31 : w3.cell? ⟨w1.heap.size, 1, none⟩ = some (.slice (some ⟨g, 0, none⟩) (digs T).length c) := (by rw [b3.cell (by go_size)]; exact p21); have f30 : w3.frozen? ⟨w1.heap.size, 0, none⟩ = false := (by rw [b3.frozen (by go_size)]; exact f20); have f31 : w3.frozen? ⟨w1.heap.size, 1, none⟩ = false := (by rw [b3.frozen (by go_size)]; exact f21); have hb3 : Below w.heap.size w w3 := (by first | exact hb2.drew.trans (b3.mono hb2.size) | exact hb2.trans (b3.mono hb2.size)); have hs3 : w1.heap.size < g3 := (by have := s3.lt.1; first | omega | (simp at this; omega))))
                  go_wp2_with fail
                  all_goals exact ⟨⟨j + 1, g3, c3, (sj != s), by go_num, by omega, by omega, put_c0 p30 p31 _ _, by rw [hP.out]; exact put_c1 p30 p31 _ _, put_f f30 _ _, put_f f31 _ _, by rw [hP.out]; exact put_sl s3 hs3 _ _, by rw [hP.out]; exact hv', put_z z3 _ _, put_b hb3 (by have := b1.size; omega) _ _⟩, by simp [intOf]; omega⟩
                · obtain rfl : j = 70 := by omega
                  have hv2 := Lib.hid (show a ^ min (k) 70 = wv sj (m ^ 70) by rw [hv.out, Nat.min_eq_right (by omega)])
                  go_wp2_with (go_at_call 43; refine (fit_c _ sj g c _ (by exact hg) lj).mono ?_; rintro e w4 ⟨rfl, b4⟩)
                  all_goals go_ret2
                  all_goals exact ⟨nm_ret (by rw [← HV.out.1, hv2.out]) (by rw [← HV.out.2, hv2.out]), hb.trans (b4.mono hb.size)⟩
              · have hv2 := Lib.hid (show a ^ min (k) 70 = wv sj (m ^ j) by rw [hv.out, Nat.min_eq_left (by omega), show k = j from by omega])
                go_wp2_with (go_at_call 43; refine (fit_c _ sj g c _ (by exact hg) lj).mono ?_; rintro e w4 ⟨rfl, b4⟩)
                all_goals go_ret2
                all_goals exact ⟨nm_ret (by rw [← HV.out.1, hv2.out]) (by rw [← HV.out.2, hv2.out]), hb.trans (b4.mono hb.size)⟩
          · have HV := Lib.hid (pow_min a k (2 + k % 2) (by omega))
            clear ab
            go_enter Try.func22, Try.ntmps22
            go_wp2_with fail
            refine (of_one _).mono ?_; rintro e w1 ⟨g1, c1, rfl, s1, b1⟩; go_wp2_with fail
            go_loopw [7] (fun i wr => ∃ (j g c : Nat) (sj : Bool), i = .int .i64 j ∧ j ≤ 2 + k % 2 ∧ j ≤ 70 ∧ wr.cell? ⟨w1.heap.size, 0, none⟩ = some (.bool sj) ∧ wr.cell? ⟨w1.heap.size, 1, none⟩ = some (.slice (some ⟨g, 0, none⟩) (digs (m ^ j)).length c) ∧ wr.frozen? ⟨w1.heap.size, 0, none⟩ = false ∧ wr.frozen? ⟨w1.heap.size, 1, none⟩ = false ∧ Sl wr g c (digs (m ^ j)) ∧ Hid (wv sj (m ^ j) = a ^ j) ∧ w1.heap.size < wr.heap.size ∧ Below w.heap.size w wr) (fun i _ => 70 - (intOf i).toNat)
            case atStart => exact ⟨0, g1, c1, false, rfl, by omega, by omega, by go_cell, by rw [Nat.pow_zero]; go_cell, by go_cell, by go_cell, by rw [Nat.pow_zero]; exact s1.alloc _, Lib.hid (by rw [Nat.pow_zero, Int.pow_zero]; rfl), by simp, b1.alloc b1.size _⟩
            case round =>
              obtain ⟨j, g, c, sj, rfl, hj1, hj2, p0, p1, f0, f1, hg, hv, hz, hb⟩ := hrel
              have lj := digs_pow (i := j) l1 hj2
              by_cases hjn : j < 2 + k % 2
              · by_cases hj7 : j < 70
                · have hv' := Lib.hid (show wv (sj != s) (m ^ (j + 1)) = a ^ (j + 1) by rw [Nat.pow_succ, wv_mul, hv.out, A1.out, Int.pow_succ])
                  rw [Nat.pow_succ] at hv'
                  have lm := len_ok (n := m) (by omega)
                  have hP := Lib.hid (Nat.pow_succ (n := m) (m := j))
                  clear hv
                  generalize m ^ j = T at *
                  go_wp2_with fail
                  go_region_with (first
                      | (go_at_call 45; refine (o1 _).mono ?_; rintro e w2 ⟨g2, c2, rfl, s2, b2⟩; have z2 : w1.heap.size < w2.heap.size := (by have := b2.size; first | omega | (simp at this; omega)); have p20 : w2.cell? ⟨w1.heap.size, 0, none⟩ = some (.bool sj) := (by rw [b2.cell (by go_size)]; exact p0); have p21 : w2.cell? ⟨w1.heap.size, 1, none⟩ = some (.slice (some ⟨g, 0, none⟩) (digs T).length c) := (by rw [b2.cell (by go_size)]; exact p1); have f20 : w2.frozen? ⟨w1.heap.size, 0, none⟩ = false := (by rw [b2.frozen (by go_size)]; exact f0); have f21 : w2.frozen? ⟨w1.heap.size, 1, none⟩ = false := (by rw [b2.frozen (by go_size)]; exact f1); have hg2 : Sl w2 g c (digs T) := (by first | exact SlB.stay hg.drew b2 | exact SlB.stay hg b2); have hb2 : Below w.heap.size w w2 := (by first | exact hb.drew.trans (b2.mono hb.size) | exact hb.trans (b2.mono hb.size)))
                      | (go_at_call 47; refine (times_f _ sj s g c g2 c2 T m (by first | exact hg2.drew | exact hg2) (by first | exact s2.drew | exact s2) lj lm).mono ?_; rintro e w3 ⟨g3, c3, rfl, s3, b3⟩; have z3 : w1.heap.size < w3.heap.size := (by have := b3.size; first | omega | (simp at this; omega)); have p30 : w3.cell? ⟨w1.heap.size, 0, none⟩ = some (.bool sj) := (by rw [b3.cell (by go_size)]; exact p20); have p31 : w3.cell? ⟨w1.heap.size, 1, none⟩ = some (.slice (some ⟨g, 0, none⟩) (digs T).length c) := (by rw [b3.cell (by go_size)]; exact p21); have f30 : w3.frozen? ⟨w1.heap.size, 0, none⟩ = false := (by rw [b3.frozen (by go_size)]; exact f20); have f31 : w3.frozen? ⟨w1.heap.size, 1, none⟩ = false := (by rw [b3.frozen (by go_size)]; exact f21); have hb3 : Below w.heap.size w w3 := (by first | exact hb2.drew.trans (b3.mono hb2.size) | exact hb2.trans (b3.mono hb2.size)); have hs3 : w1.heap.size < g3 := (by have := s3.lt.1; first | omega | (simp at this; omega))))
                  go_wp2_with fail
                  all_goals exact ⟨⟨j + 1, g3, c3, (sj != s), by go_num, by omega, by omega, put_c0 p30 p31 _ _, by rw [hP.out]; exact put_c1 p30 p31 _ _, put_f f30 _ _, put_f f31 _ _, by rw [hP.out]; exact put_sl s3 hs3 _ _, by rw [hP.out]; exact hv', put_z z3 _ _, put_b hb3 (by have := b1.size; omega) _ _⟩, by simp [intOf]; omega⟩
                · obtain rfl : j = 70 := by omega
                  have hv2 := Lib.hid (show a ^ min (2 + k % 2) 70 = wv sj (m ^ 70) by rw [hv.out, Nat.min_eq_right (by omega)])
                  go_wp2_with (go_at_call 43; refine (fit_c _ sj g c _ (by exact hg) lj).mono ?_; rintro e w4 ⟨rfl, b4⟩)
                  all_goals go_ret2
                  all_goals exact ⟨nm_ret (by rw [← HV.out.1, hv2.out]) (by rw [← HV.out.2, hv2.out]), hb.trans (b4.mono hb.size)⟩
              · have hv2 := Lib.hid (show a ^ min (2 + k % 2) 70 = wv sj (m ^ j) by rw [hv.out, Nat.min_eq_left (by omega), show 2 + k % 2 = j from by omega])
                go_wp2_with (go_at_call 43; refine (fit_c _ sj g c _ (by exact hg) lj).mono ?_; rintro e w4 ⟨rfl, b4⟩)
                all_goals go_ret2
                all_goals exact ⟨nm_ret (by rw [← HV.out.1, hv2.out]) (by rw [← HV.out.2, hv2.out]), hb.trans (b4.mono hb.size)⟩
        · have z2 : (a == -1) = false := by simp [a2]
          have ab : ¬ (-1 ≤ a ∧ a ≤ 1) := by omega
          clear a0 a1 a2
          have HV := Lib.hid (pow_min a k (k) (by omega))
          clear ab
          go_enter Try.func22, Try.ntmps22
          go_wp2_with fail
          refine (of_one _).mono ?_; rintro e w1 ⟨g1, c1, rfl, s1, b1⟩; go_wp2_with fail
          go_loopw [7] (fun i wr => ∃ (j g c : Nat) (sj : Bool), i = .int .i64 j ∧ j ≤ k ∧ j ≤ 70 ∧ wr.cell? ⟨w1.heap.size, 0, none⟩ = some (.bool sj) ∧ wr.cell? ⟨w1.heap.size, 1, none⟩ = some (.slice (some ⟨g, 0, none⟩) (digs (m ^ j)).length c) ∧ wr.frozen? ⟨w1.heap.size, 0, none⟩ = false ∧ wr.frozen? ⟨w1.heap.size, 1, none⟩ = false ∧ Sl wr g c (digs (m ^ j)) ∧ Hid (wv sj (m ^ j) = a ^ j) ∧ w1.heap.size < wr.heap.size ∧ Below w.heap.size w wr) (fun i _ => 70 - (intOf i).toNat)
          case atStart => exact ⟨0, g1, c1, false, rfl, by omega, by omega, by go_cell, by rw [Nat.pow_zero]; go_cell, by go_cell, by go_cell, by rw [Nat.pow_zero]; exact s1.alloc _, Lib.hid (by rw [Nat.pow_zero, Int.pow_zero]; rfl), by simp, b1.alloc b1.size _⟩
          case round =>
            obtain ⟨j, g, c, sj, rfl, hj1, hj2, p0, p1, f0, f1, hg, hv, hz, hb⟩ := hrel
            have lj := digs_pow (i := j) l1 hj2
            by_cases hjn : j < k
            · by_cases hj7 : j < 70
              · have hv' := Lib.hid (show wv (sj != s) (m ^ (j + 1)) = a ^ (j + 1) by rw [Nat.pow_succ, wv_mul, hv.out, A1.out, Int.pow_succ])
                rw [Nat.pow_succ] at hv'
                have lm := len_ok (n := m) (by omega)
                have hP := Lib.hid (Nat.pow_succ (n := m) (m := j))
                clear hv
                generalize m ^ j = T at *
                go_wp2_with fail
                go_region_with (first
                    | (go_at_call 45; refine (o1 _).mono ?_; rintro e w2 ⟨g2, c2, rfl, s2, b2⟩; have z2 : w1.heap.size < w2.heap.size := (by have := b2.size; first | omega | (simp at this; omega)); have p20 : w2.cell? ⟨w1.heap.size, 0, none⟩ = some (.bool sj) := (by rw [b2.cell (by go_size)]; exact p0); have p21 : w2.cell? ⟨w1.heap.size, 1, none⟩ = some (.slice (some ⟨g, 0, none⟩) (digs T).length c) := (by rw [b2.cell (by go_size)]; exact p1); have f20 : w2.frozen? ⟨w1.heap.size, 0, none⟩ = false := (by rw [b2.frozen (by go_size)]; exact f0); have f21 : w2.frozen? ⟨w1.heap.size, 1, none⟩ = false := (by rw [b2.frozen (by go_size)]; exact f1); have hg2 : Sl w2 g c (digs T) := (by first | exact SlB.stay hg.drew b2 | exact SlB.stay hg b2); have hb2 : Below w.heap.size w w2 := (by first | exact hb.drew.trans (b2.mono hb.size) | exact hb.trans (b2.mono hb.size)))
                    | (go_at_call 47; refine (times_f _ sj s g c g2 c2 T m (by first | exact hg2.drew | exact hg2) (by first | exact s2.drew | exact s2) lj lm).mono ?_; rintro e w3 ⟨g3, c3, rfl, s3, b3⟩; have z3 : w1.heap.size < w3.heap.size := (by have := b3.size; first | omega | (simp at this; omega)); have p30 : w3.cell? ⟨w1.heap.size, 0, none⟩ = some (.bool sj) := (by rw [b3.cell (by go_size)]; exact p20); have p31 : w3.cell? ⟨w1.heap.size, 1, none⟩ = some (.slice (some ⟨g, 0, none⟩) (digs T).length c) := (by rw [b3.cell (by go_size)]; exact p21); have f30 : w3.frozen? ⟨w1.heap.size, 0, none⟩ = false := (by rw [b3.frozen (by go_size)]; exact f20); have f31 : w3.frozen? ⟨w1.heap.size, 1, none⟩ = false := (by rw [b3.frozen (by go_size)]; exact f21); have hb3 : Below w.heap.size w w3 := (by first | exact hb2.drew.trans (b3.mono hb2.size) | exact hb2.trans (b3.mono hb2.size)); have hs3 : w1.heap.size < g3 := (by have := s3.lt.1; first | omega | (simp at this; omega))))
                go_wp2_with fail
                all_goals exact ⟨⟨j + 1, g3, c3, (sj != s), by go_num, by omega, by omega, put_c0 p30 p31 _ _, by rw [hP.out]; exact put_c1 p30 p31 _ _, put_f f30 _ _, put_f f31 _ _, by rw [hP.out]; exact put_sl s3 hs3 _ _, by rw [hP.out]; exact hv', put_z z3 _ _, put_b hb3 (by have := b1.size; omega) _ _⟩, by simp [intOf]; omega⟩
              · obtain rfl : j = 70 := by omega
                have hv2 := Lib.hid (show a ^ min (k) 70 = wv sj (m ^ 70) by rw [hv.out, Nat.min_eq_right (by omega)])
                go_wp2_with (go_at_call 43; refine (fit_c _ sj g c _ (by exact hg) lj).mono ?_; rintro e w4 ⟨rfl, b4⟩)
                all_goals go_ret2
                all_goals exact ⟨nm_ret (by rw [← HV.out.1, hv2.out]) (by rw [← HV.out.2, hv2.out]), hb.trans (b4.mono hb.size)⟩
            · have hv2 := Lib.hid (show a ^ min (k) 70 = wv sj (m ^ j) by rw [hv.out, Nat.min_eq_left (by omega), show k = j from by omega])
              go_wp2_with (go_at_call 43; refine (fit_c _ sj g c _ (by exact hg) lj).mono ?_; rintro e w4 ⟨rfl, b4⟩)
              all_goals go_ret2
              all_goals exact ⟨nm_ret (by rw [← HV.out.1, hv2.out]) (by rw [← HV.out.2, hv2.out]), hb.trans (b4.mono hb.size)⟩
end Go.Proofs.Ytpfkcllincfpkaa.dg
