/- Contracts of the reference's functions: fit; Add, Sub, Neg, Abs. -/
import Derived.Test.YtpfkcllincfpkaaRefC
namespace Go.Proofs.Ytpfkcllincfpkaa.dg
open Go.RowKit

theorem val_drop_le (l : List Nat) (k : Nat) : val (l.drop k) ≤ val l := by
  induction l generalizing k with
  | nil => simp
  | cons d l ih =>
    cases k with
    | zero => exact Nat.le_refl _
    | succ k => rw [List.drop_succ_cons, val_cons]; have := ih k; omega
theorem val_drop (l : List Nat) (k : Nat) (h : k < l.length) : val (l.drop k) = l[k] + 32768 * val (l.drop (k + 1)) := by
  rw [List.drop_eq_getElem_cons h, val_cons]

/-- what fit answers -/
def Fits (w w' : World) (e : Ending) (x : Int) : Prop := e = .returned (.tuple #[.int .i64 (nm.val x), .int .i64 (nm.err x)]) ∧ Below w.heap.size w w'

def top : Nat := 9223372036854775808
theorem of_least (w : World) : Calls Try.prog 45 #[.int .i64 (-9223372036854775808)] w fun e w' => Wide w w' e true top :=
  (of_c _ (by omega) w).mono fun e w' h => by
    have h1 : decide ((-9223372036854775808 : Int) < 0) = true := by decide
    have h2 : ((-9223372036854775808 : Int)).natAbs = top := by decide
    rwa [h1, h2] at h
theorem wv_over {s : Bool} {n : Nat} (h : top < n) : ¬ nm.Fit (wv s n) := by
  unfold top at h; unfold nm.Fit wv; cases s <;> simp <;> omega
theorem wv_top : ¬ nm.Fit (wv false top) := by unfold top nm.Fit wv; simp
theorem wv_least : wv true top = -9223372036854775808 := rfl
theorem wv_fit {s : Bool} {n : Nat} (h : n < top) : nm.Fit (wv s n) := by
  unfold top at h; unfold nm.Fit wv; cases s <;> simp <;> omega

theorem nm_ret {a b c d : Int} (h : a = c) (h2 : b = d) : Ending.returned (.tuple #[.int .i64 a, .int .i64 b]) = .returned (.tuple #[.int .i64 c, .int .i64 d]) := by rw [h, h2]
theorem fit_end {w w' : World} {C C' : Array Value} {t t' : TypeId} (hb : Below (w.alloc (.cells C t)).heap.size (w.alloc (.cells C t)) w') : Below w.heap.size w (w'.alloc (.cells C' t')) := by
  have hz := hb.size
  simp at hz
  exact (((Below.refl _ _).alloc (Nat.le_refl _) _).trans (hb.mono (by simp))).alloc (by omega) _

theorem fit_c (w : World) (s : Bool) (g cap n : Nat) (h : Sl w g cap (digs n)) (hb1 : (digs n).length ≤ 100000) :
    Calls Try.prog 43 #[.agg #[.bool s, .slice (some ⟨g, 0, none⟩) (digs n).length cap]] w fun e w' => Fits w w' e (wv s n) := by
  by_cases h0 : n = 0
  · subst h0
    have e1 : nm.val (wv s 0) = 0 := by cases s <;> rfl
    have e2 : nm.err (wv s 0) = 0 := by cases s <;> rfl
    have e3 : (digs 0).length = 0 := by rw [digs_zero]; rfl
    unfold Fits
    rw [e1, e2]
    generalize digs 0 = l at *
    go_enter Try.func43, Try.ntmps43
    go_wp2_with (go_at_call 45; refine (of_least _).mono ?_; rintro e w' ⟨gl, capl, rfl, hl, hb⟩; have c0 : w'.cell? ⟨w.heap.size, 0, none⟩ = some (.bool s) := (by rw [hb.cell (by go_size)]; go_cell); have c1 : w'.cell? ⟨w.heap.size, 1, none⟩ = some (.slice (some ⟨g, 0, none⟩) 0 cap) := (by rw [hb.cell (by go_size)]; go_cell); have hz : w.heap.size < w'.heap.size := (by have := hb.size; simp at this; omega))
    go_ret2
    exact ⟨rfl, by first | (go_grown; done) | exact fit_end hb⟩
  · have hp : ((((digs n).length : Nat) : Int) == 0) = false := by
      rw [digs_pos (by omega)]; simp; omega
    rcases Nat.lt_trichotomy n top with hlt | heq | hgt
    · have e3 : ord n top = -1 := if_pos hlt
      have f1 := Lib.hid (nm.val_of (wv_fit (s := s) hlt))
      have f2 := Lib.hid (nm.err_of (wv_fit (s := s) hlt))
      have hlt2 : n < 9223372036854775808 := hlt
      have hv := Lib.hid (val_digs n)
      clear hlt h0
      go_enter Try.func43, Try.ntmps43
      go_wp2_with (first | (go_at_call 45; refine (of_least _).mono ?_; rintro e w' ⟨gl, capl, rfl, hl, hb⟩; have c0 : w'.cell? ⟨w.heap.size, 0, none⟩ = some (.bool s) := (by rw [hb.cell (by go_size)]; go_cell); have c1 : w'.cell? ⟨w.heap.size, 1, none⟩ = some (.slice (some ⟨g, 0, none⟩) (digs n).length cap) := (by rw [hb.cell (by go_size)]; go_cell); have hz : w.heap.size < w'.heap.size := (by have := hb.size; simp at this; omega); have hb3 := fit_end (C' := #[.bool true, .slice (some ⟨gl, 0, none⟩) (digs top).length capl]) (t' := 36) hb; clear hb) | (go_at_call 56; refine (order_c _ g cap gl capl n top (SlB.stay h hb3) (SlB.alloc hl _)).mono ?_; rintro e w' ⟨rfl, k, rfl⟩))
      have hr := SlB.stay h hb3
      go_loop [6, 7] (fun x i => ∃ j : Nat, j ≤ (digs n).length ∧ i = .int .i64 ((j : Int) - 1) ∧ x = .int .i64 (val ((digs n).drop j) : Nat)) (fun _ i => (intOf i + 1).toNat)
      case atStart => exact ⟨(digs n).length, Nat.le_refl _, rfl, by rw [List.drop_length]; rfl⟩
      case round =>
        obtain ⟨j, hj, rfl, rfl⟩ := hrel
        by_cases hj0 : j = 0
        · subst hj0
          rw [List.drop_zero, hv.out]
          cases s
          · go_wp2
            go_ret2
            exact ⟨nm_ret (by rw [f1.out]; rfl) (by rw [f2.out]), below_drewN hb3 _⟩
          · go_wp2
            go_ret2
            exact ⟨nm_ret (by rw [f1.out]; rfl) (by rw [f2.out]), below_drewN hb3 _⟩
        · obtain ⟨j, rfl⟩ : ∃ m, j = m + 1 := ⟨j - 1, by omega⟩
          rw [show (((j + 1 : Nat) : Int) - 1) = (j : Int) from by omega]
          have hc := hr.cell j (by omega)
          have hd := Lib.hid (val_drop (digs n) j (by omega))
          have hle : (digs n)[j] + 32768 * val ((digs n).drop (j + 1)) ≤ n := by
            have := val_drop_le (digs n) j; rw [hd.out, hv.out] at this; exact this
          generalize val ((digs n).drop (j + 1)) = y at *
          go_wp2
          exact ⟨⟨j, by omega, rfl, by rw [hd.out]; go_num⟩, by first | (simp [intOf]; done) | (simp [intOf]; omega)⟩
    · subst heq
      have e3 : ord top top = 0 := by unfold ord; rw [if_neg (by omega), if_neg (by omega)]
      cases s
      · unfold Fits
        rw [nm.val_no wv_top, nm.err_no wv_top]
        clear h0
        go_enter Try.func43, Try.ntmps43
        go_wp2_with (first | (go_at_call 45; refine (of_least _).mono ?_; rintro e w' ⟨gl, capl, rfl, hl, hb⟩; have c0 : w'.cell? ⟨w.heap.size, 0, none⟩ = some (.bool false) := (by rw [hb.cell (by go_size)]; go_cell); have c1 : w'.cell? ⟨w.heap.size, 1, none⟩ = some (.slice (some ⟨g, 0, none⟩) (digs top).length cap) := (by rw [hb.cell (by go_size)]; go_cell); have hz : w.heap.size < w'.heap.size := (by have := hb.size; simp at this; omega); have hb3 := fit_end (C' := #[.bool true, .slice (some ⟨gl, 0, none⟩) (digs top).length capl]) (t' := 36) hb; clear hb) | (go_at_call 56; refine (order_c _ g cap gl capl top top (SlB.stay h hb3) (SlB.alloc hl _)).mono ?_; rintro e w' ⟨rfl, k, rfl⟩))
        go_ret2
        exact ⟨rfl, below_drewN hb3 _⟩
      · have hf := nm.least_fit
        unfold Fits
        rw [wv_least, nm.val_of hf, nm.err_of hf]
        clear h0 hf
        go_enter Try.func43, Try.ntmps43
        go_wp2_with (first | (go_at_call 45; refine (of_least _).mono ?_; rintro e w' ⟨gl, capl, rfl, hl, hb⟩; have c0 : w'.cell? ⟨w.heap.size, 0, none⟩ = some (.bool true) := (by rw [hb.cell (by go_size)]; go_cell); have c1 : w'.cell? ⟨w.heap.size, 1, none⟩ = some (.slice (some ⟨g, 0, none⟩) (digs top).length cap) := (by rw [hb.cell (by go_size)]; go_cell); have hz : w.heap.size < w'.heap.size := (by have := hb.size; simp at this; omega); have hb3 := fit_end (C' := #[.bool true, .slice (some ⟨gl, 0, none⟩) (digs top).length capl]) (t' := 36) hb; clear hb) | (go_at_call 56; refine (order_c _ g cap gl capl top top (SlB.stay h hb3) (SlB.alloc hl _)).mono ?_; rintro e w' ⟨rfl, k, rfl⟩))
        go_ret2
        exact ⟨rfl, below_drewN hb3 _⟩
    · have e3 : ord n top = 1 := by unfold ord; rw [if_neg (by omega), if_pos hgt]
      unfold Fits
      rw [nm.val_no (wv_over hgt), nm.err_no (wv_over hgt)]
      clear hgt h0
      go_enter Try.func43, Try.ntmps43
      go_wp2_with (first | (go_at_call 45; refine (of_least _).mono ?_; rintro e w' ⟨gl, capl, rfl, hl, hb⟩; have c0 : w'.cell? ⟨w.heap.size, 0, none⟩ = some (.bool s) := (by rw [hb.cell (by go_size)]; go_cell); have c1 : w'.cell? ⟨w.heap.size, 1, none⟩ = some (.slice (some ⟨g, 0, none⟩) (digs n).length cap) := (by rw [hb.cell (by go_size)]; go_cell); have hz : w.heap.size < w'.heap.size := (by have := hb.size; simp at this; omega); have hb3 := fit_end (C' := #[.bool true, .slice (some ⟨gl, 0, none⟩) (digs top).length capl]) (t' := 36) hb; clear hb) | (go_at_call 56; refine (order_c _ g cap gl capl n top (SlB.stay h hb3) (SlB.alloc hl _)).mono ?_; rintro e w' ⟨rfl, k, rfl⟩))
      go_ret2
      exact ⟨rfl, below_drewN hb3 _⟩


theorem wv_of (a : Int) : wv (decide (a < 0)) a.natAbs = a := by
  unfold wv; by_cases h : a < 0 <;> simp [h] <;> omega
theorem fit_natAbs {a : Int} (h : nm.Fit a) : a.natAbs ≤ 9223372036854775808 := by unfold nm.Fit at h; omega
theorem sumN_le (s : Bool) (m : Nat) (t : Bool) (n : Nat) : sumN s m t n ≤ m + n := by
  unfold sumN; repeat (first | omega | split)
theorem len_ok {n : Nat} (h : n ≤ 18446744073709551616) : (digs n).length ≤ 100000 := by
  have := @digs_len_lt n 5 (by omega); omega

/-- the wide one of a number that fits -/
theorem of_w (a : Int) (ha : nm.Fit a) (w : World) : Calls Try.prog 45 #[.int .i64 a] w fun e w' => Wide w w' e (decide (a < 0)) a.natAbs :=
  of_c a (by unfold nm.Fit at ha; exact ha) w

theorem chain {w w1 w2 : World} (h : Below w.heap.size w w1) (k : Below w1.heap.size w1 w2) : Below w.heap.size w w2 := h.trans (k.mono h.size)

theorem add_r (a b : Int) (ha : nm.Fit a) (hb : nm.Fit b) (w : World) :
    Calls Try.prog 14 #[.int .i64 a, .int .i64 b] w fun e w' => Fits w w' e (a + b) := by
  have l1 := fit_natAbs ha
  have l2 := fit_natAbs hb
  have l3 := sumN_le (decide (a < 0)) a.natAbs (decide (b < 0)) b.natAbs
  have HW := Lib.hid (sum_wv (decide (a < 0)) a.natAbs (decide (b < 0)) b.natAbs)
  have o1 := of_w a ha
  have o2 := of_w b hb
  have A1 := Lib.hid (wv_of a)
  have A2 := Lib.hid (wv_of b)
  generalize decide (a < 0) = s at *
  generalize decide (b < 0) = t at *
  generalize a.natAbs = m at *
  generalize b.natAbs = n at *
  go_enter Try.func14, Try.ntmps14
  go_wp2_with fail
  refine (o1 _).mono ?_; rintro e w1 ⟨g1, cap1, rfl, h1, b1⟩; go_wp2_with fail
  refine (o2 _).mono ?_; rintro e w2 ⟨g2, cap2, rfl, h2, b2⟩; go_wp2_with fail
  refine (sum_c _ _ _ g1 cap1 g2 cap2 m n (SlB.stay h1 b2) h2 (len_ok (by omega)) (len_ok (by omega))).mono ?_; rintro e w3 ⟨g3, cap3, rfl, h3, b3⟩; go_wp2_with fail
  refine (fit_c _ _ g3 cap3 _ h3 (len_ok (by omega))).mono ?_; rintro e w4 ⟨rfl, b4⟩; go_wp2_with fail
  go_ret2
  exact ⟨nm_ret (by rw [HW.out, A1.out, A2.out]) (by rw [HW.out, A1.out, A2.out]), chain (chain (chain b1 b2) b3) b4⟩

theorem wv_not (s : Bool) (n : Nat) : wv (!s) n = -wv s n := by unfold wv; cases s <;> simp

theorem sub_r (a b : Int) (ha : nm.Fit a) (hb : nm.Fit b) (w : World) :
    Calls Try.prog 23 #[.int .i64 a, .int .i64 b] w fun e w' => Fits w w' e (a - b) := by
  have l1 := fit_natAbs ha
  have l2 := fit_natAbs hb
  have l3 := sumN_le (decide (a < 0)) a.natAbs (!decide (b < 0)) b.natAbs
  have HW := Lib.hid (sum_wv (decide (a < 0)) a.natAbs (!decide (b < 0)) b.natAbs)
  have o1 := of_w a ha
  have o2 := of_w b hb
  have A1 := Lib.hid (wv_of a)
  have A2 := Lib.hid (wv_of b)
  generalize decide (a < 0) = s at *
  generalize decide (b < 0) = t at *
  generalize a.natAbs = m at *
  generalize b.natAbs = n at *
  go_enter Try.func23, Try.ntmps23
  go_wp2_with fail
  refine (o1 _).mono ?_; rintro e w1 ⟨g1, cap1, rfl, h1, b1⟩; go_wp2_with fail
  refine (o2 _).mono ?_; rintro e w2 ⟨g2, cap2, rfl, h2, b2⟩; go_wp2_with fail
  refine (minus_c _ t g2 cap2 n h2).mono ?_; rintro e w5 ⟨g5, cap5, rfl, h5, b5⟩; go_wp2_with fail
  refine (sum_c _ _ _ g1 cap1 g5 cap5 m n (SlB.stay h1 (chain b2 b5)) h5 (len_ok (by omega)) (len_ok (by omega))).mono ?_; rintro e w3 ⟨g3, cap3, rfl, h3, b3⟩; go_wp2_with fail
  refine (fit_c _ _ g3 cap3 _ h3 (len_ok (by omega))).mono ?_; rintro e w4 ⟨rfl, b4⟩; go_wp2_with fail
  go_ret2
  exact ⟨nm_ret (by rw [HW.out, wv_not, A1.out, A2.out, Int.sub_eq_add_neg]) (by rw [HW.out, wv_not, A1.out, A2.out, Int.sub_eq_add_neg]), chain (chain (chain (chain b1 b2) b5) b3) b4⟩

theorem neg_r (a : Int) (ha : nm.Fit a) (w : World) :
    Calls Try.prog 25 #[.int .i64 a] w fun e w' => Fits w w' e (-a) := by
  have l1 := fit_natAbs ha
  have o1 := of_w a ha
  have A1 := Lib.hid (wv_of a)
  generalize decide (a < 0) = s at *
  generalize a.natAbs = m at *
  go_enter Try.func25, Try.ntmps25
  go_wp2_with fail
  refine (o1 _).mono ?_; rintro e w1 ⟨g1, cap1, rfl, h1, b1⟩; go_wp2_with fail
  refine (minus_c _ s g1 cap1 m h1).mono ?_; rintro e w3 ⟨g3, cap3, rfl, h3, b3⟩; go_wp2_with fail
  refine (fit_c _ _ g3 cap3 _ h3 (len_ok (by omega))).mono ?_; rintro e w4 ⟨rfl, b4⟩; go_wp2_with fail
  go_ret2
  exact ⟨nm_ret (by rw [wv_not, A1.out]) (by rw [wv_not, A1.out]), chain (chain b1 b3) b4⟩

theorem field_d (s : Bool) (a : Option Addr) (n c : Nat) (w : World) : (Instr.field 36 (.agg #[.bool s, .slice a n c]) 1).run Try.prog w = .ok (.slice a n c) w := by kernel_rfl

theorem abs_r (a : Int) (ha : nm.Fit a) (w : World) :
    Calls Try.prog 27 #[.int .i64 a] w fun e w' => Fits w w' e (a.natAbs : Int) := by
  have l1 := fit_natAbs ha
  have o1 := of_w a ha
  generalize decide (a < 0) = s at *
  generalize a.natAbs = m at *
  have hf := field_d
  go_enter Try.func27, Try.ntmps27
  go_wp2_with fail
  refine (o1 _).mono ?_; rintro e w1 ⟨g1, cap1, rfl, h1, b1⟩; go_wp2_with fail
  refine (fit_c _ false g1 cap1 m h1 (len_ok (by omega))).mono ?_; rintro e w4 ⟨rfl, b4⟩; go_wp2_with fail
  go_ret2
  exact ⟨rfl, chain b1 b4⟩

end Go.Proofs.Ytpfkcllincfpkaa.dg
