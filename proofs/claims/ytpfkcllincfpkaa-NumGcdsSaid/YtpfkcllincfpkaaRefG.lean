/- Contracts of the reference's cut, down, Quo, Rem, Div, Mod. -/
import Derived.Test.YtpfkcllincfpkaaRefF
namespace Go.Proofs.Ytpfkcllincfpkaa.dg
open Go.RowKit

/-- two wide ones -/
def TwoW (w w' : World) (e : Ending) (s : Bool) (m : Nat) (t : Bool) (n : Nat) : Prop :=
  ∃ g cap g' cap', e = .returned (.tuple #[.agg #[.bool s, .slice (some ⟨g, 0, none⟩) (digs m).length cap], .agg #[.bool t, .slice (some ⟨g', 0, none⟩) (digs n).length cap']]) ∧ SlB w.heap.size w' g cap (digs m) ∧ SlB w.heap.size w' g' cap' (digs n) ∧ Below w.heap.size w w'

theorem put4 {B : Nat} {wr : World} {g cap N : Nat} {l : List Nat} (h : SlB B wr g cap l) (hB : N + 1 < B) (v0 v1 v2 v3 : Value) :
    SlB B ((((wr.setCell ⟨N, 0, none⟩ v0).setCell ⟨N, 1, none⟩ v1).setCell ⟨N + 1, 0, none⟩ v2).setCell ⟨N + 1, 1, none⟩ v3) g cap l :=
  ownsRow_setCell_below (ownsRow_setCell_below (ownsRow_setCell_below (ownsRow_setCell_below h (by simp; omega) _) (by simp; omega) _) (by simp; omega) _) (by simp; omega) _
theorem put4b {N : Nat} {w wr : World} (h : Below N w wr) (v0 v1 v2 v3 : Value) :
    Below N w ((((wr.setCell ⟨N, 0, none⟩ v0).setCell ⟨N, 1, none⟩ v1).setCell ⟨N + 1, 0, none⟩ v2).setCell ⟨N + 1, 1, none⟩ v3) :=
  (((h.setCell (Nat.le_refl _) _).setCell (Nat.le_refl _) _).setCell (by simp) _).setCell (by simp) _

set_option maxRecDepth 100000 in
set_option maxHeartbeats 2000000 in
theorem cut_c (a b : Int) (ha : nm.Fit a) (hb : nm.Fit b) (h0 : b ≠ 0) (w : World) :
    Calls Try.prog 49 #[.int .i64 a, .int .i64 b] w fun e w' => TwoW w w' e (decide (a < 0) != decide (b < 0)) (a.natAbs / b.natAbs) (decide (a < 0)) (a.natAbs % b.natAbs) := by
  have l1 := fit_natAbs ha
  have l2 := fit_natAbs hb
  have l3 : 0 < b.natAbs := by omega
  have o1 := of_w a ha
  have o2 := of_w b hb
  generalize decide (a < 0) = s at *
  generalize decide (b < 0) = t at *
  generalize a.natAbs = m at *
  generalize b.natAbs = n at *
  clear h0
  go_enter Try.func49, Try.ntmps49
  go_wp2_with fail
  refine (o1 _).mono ?_; rintro e w1 ⟨g1, c1, rfl, s1, b1⟩
  have z1 : w.heap.size + 1 < w1.heap.size := by have := b1.size; simp at this; omega
  go_wp2_with fail
  refine (o2 _).mono ?_; rintro e w2 ⟨g2, c2, rfl, s2, b2⟩
  have z2 : w1.heap.size < w2.heap.size := by have := b2.size; simp at this; omega
  have d0 : w2.cell? ⟨w1.heap.size, 0, none⟩ = some (.bool s) := by rw [b2.cell (by go_size)]; go_cell
  have d1 : w2.cell? ⟨w1.heap.size, 1, none⟩ = some (.slice (some ⟨g1, 0, none⟩) (digs m).length c1) := by rw [b2.cell (by go_size)]; go_cell
  go_wp2_with fail
  refine (halves_c _ g1 c1 g2 c2 m n ((SlB.stay (s1.alloc _) b2).alloc _) (s2.alloc _) l1 l3 l2).mono ?_; rintro e w3 ⟨g3, c3, g4, c4, rfl, s3, s4, b3⟩
  have z3 : w2.heap.size < w3.heap.size := by have := b3.size; simp at this; omega
  have e0 : w3.cell? ⟨w1.heap.size, 0, none⟩ = some (.bool s) := by rw [b3.cell (by go_size)]; go_cell
  have e1 : w3.cell? ⟨w1.heap.size, 1, none⟩ = some (.slice (some ⟨g1, 0, none⟩) (digs m).length c1) := by rw [b3.cell (by go_size)]; go_cell
  have e2 : w3.cell? ⟨w2.heap.size, 0, none⟩ = some (.bool t) := by rw [b3.cell (by go_size)]; go_cell
  have r0 : w3.cell? ⟨w.heap.size, 0, none⟩ = some (.bool false) := by rw [b3.cell (by go_size), World.cell?_alloc_past _ _ _ (by omega), b2.cell (by go_size), World.cell?_alloc_past _ _ _ (by omega), b1.cell (by go_size)]; go_cell
  have r1 : w3.cell? ⟨w.heap.size, 1, none⟩ = some (.slice none 0 0) := by rw [b3.cell (by go_size), World.cell?_alloc_past _ _ _ (by omega), b2.cell (by go_size), World.cell?_alloc_past _ _ _ (by omega), b1.cell (by go_size)]; go_cell
  have r2 : w3.cell? ⟨w.heap.size + 1, 0, none⟩ = some (.bool false) := by rw [b3.cell (by go_size), World.cell?_alloc_past _ _ _ (by omega), b2.cell (by go_size), World.cell?_alloc_past _ _ _ (by omega), b1.cell (by go_size)]; go_cell
  have r3 : w3.cell? ⟨w.heap.size + 1, 1, none⟩ = some (.slice none 0 0) := by rw [b3.cell (by go_size), World.cell?_alloc_past _ _ _ (by omega), b2.cell (by go_size), World.cell?_alloc_past _ _ _ (by omega), b1.cell (by go_size)]; go_cell
  have f0 : w3.frozen? ⟨w.heap.size, 0, none⟩ = false := by rw [b3.frozen (by go_size), World.frozen?_alloc_past _ _ _ (by omega), b2.frozen (by go_size), World.frozen?_alloc_past _ _ _ (by omega), b1.frozen (by go_size)]; go_cell
  have f1 : w3.frozen? ⟨w.heap.size, 1, none⟩ = false := by rw [b3.frozen (by go_size), World.frozen?_alloc_past _ _ _ (by omega), b2.frozen (by go_size), World.frozen?_alloc_past _ _ _ (by omega), b1.frozen (by go_size)]; go_cell
  have f2 : w3.frozen? ⟨w.heap.size + 1, 0, none⟩ = false := by rw [b3.frozen (by go_size), World.frozen?_alloc_past _ _ _ (by omega), b2.frozen (by go_size), World.frozen?_alloc_past _ _ _ (by omega), b1.frozen (by go_size)]; go_cell
  have f3 : w3.frozen? ⟨w.heap.size + 1, 1, none⟩ = false := by rw [b3.frozen (by go_size), World.frozen?_alloc_past _ _ _ (by omega), b2.frozen (by go_size), World.frozen?_alloc_past _ _ _ (by omega), b1.frozen (by go_size)]; go_cell
  go_wp2_with fail
  go_region
  go_wp2
  refine bodyPost_ret (v := .tuple #[.agg #[.bool (s != t), .slice (some ⟨g3, 0, none⟩) (digs (m / n)).length c3], .agg #[.bool s, .slice (some ⟨g4, 0, none⟩) (digs (m % n)).length c4]]) (by simp [results, Try.results49, go_sem, r0, r1, r2, r3]; cases s <;> cases t <;> rfl) rfl ?_
  have hz : w.heap.size + 1 < (w2.alloc (.cells #[.bool t, .slice (some ⟨g2, 0, none⟩) (digs n).length c2] 36)).heap.size := by simp; omega
  refine ⟨g3, c3, g4, c4, rfl, ?_, ?_, ?_⟩
  · exact SlB.mono (SlB.drew (put4 s3 hz _ _ _ _)) (by omega)
  · exact SlB.mono (SlB.drew (put4 s4 hz _ _ _ _)) (by omega)
  · refine Below.drew (put4b (Below.trans ?_ (b3.mono (by simp; omega))) _ _ _ _)
    exact ((((Below.refl _ w).alloc (Nat.le_refl _) _).alloc (by simp) _).trans ((b1.mono (by simp; omega)).alloc (by omega) _)).trans ((b2.mono (by simp; omega)).alloc (by omega) _)

/-! ### plain: the sizes' quotient and rest as integers -/
theorem wv_tdiv (a b : Int) : wv (decide (a < 0) != decide (b < 0)) (a.natAbs / b.natAbs) = a.tdiv b := by
  unfold wv
  rcases (show a < 0 ∨ 0 ≤ a by omega) with h1 | h1 <;> rcases (show b < 0 ∨ 0 ≤ b by omega) with h2 | h2
  · obtain ⟨m, rfl⟩ : ∃ m : Nat, a = -(m : Int) := ⟨a.natAbs, by omega⟩
    obtain ⟨n, rfl⟩ : ∃ n : Nat, b = -(n : Int) := ⟨b.natAbs, by omega⟩
    rw [decide_eq_true h1, decide_eq_true h2]; simp
  · obtain ⟨m, rfl⟩ : ∃ m : Nat, a = -(m : Int) := ⟨a.natAbs, by omega⟩
    obtain ⟨n, rfl⟩ : ∃ n : Nat, b = (n : Int) := ⟨b.natAbs, by omega⟩
    rw [decide_eq_true h1, decide_eq_false (Int.not_lt.2 h2)]; simp
  · obtain ⟨m, rfl⟩ : ∃ m : Nat, a = (m : Int) := ⟨a.natAbs, by omega⟩
    obtain ⟨n, rfl⟩ : ∃ n : Nat, b = -(n : Int) := ⟨b.natAbs, by omega⟩
    rw [decide_eq_false (Int.not_lt.2 h1), decide_eq_true h2]; simp
  · obtain ⟨m, rfl⟩ : ∃ m : Nat, a = (m : Int) := ⟨a.natAbs, by omega⟩
    obtain ⟨n, rfl⟩ : ∃ n : Nat, b = (n : Int) := ⟨b.natAbs, by omega⟩
    rw [decide_eq_false (Int.not_lt.2 h1), decide_eq_false (Int.not_lt.2 h2)]; simp
theorem wv_tmod (a b : Int) : wv (decide (a < 0)) (a.natAbs % b.natAbs) = a.tmod b := by
  unfold wv
  have h := Int.natAbs_tmod a b
  have hs := nm.tmod_sign a b
  rcases (show a < 0 ∨ 0 ≤ a by omega) with h1 | h1
  · simp [h1]; omega
  · simp [Int.not_lt.2 h1]; omega
theorem lean_is (a b : Int) (_hb : b ≠ 0) : nm.lean (a.tmod b) b = (decide (0 < a.natAbs % b.natAbs) && (decide (a < 0) != decide (b < 0))) := by
  have h := Int.natAbs_tmod a b
  have hs := nm.tmod_sign a b
  unfold nm.lean
  by_cases h0 : a.tmod b = 0
  · rw [← h, h0]; simp
  · have h2 : 0 < a.natAbs % b.natAbs := by omega
    have h3 : decide (a.tmod b < 0) = decide (a < 0) := by
      rcases (show a < 0 ∨ 0 ≤ a by omega) with h1 | h1
      · have := hs.2 (by omega); simp [h1]; omega
      · have := hs.1 h1; simp; omega
    rw [h3]; simp [h0, h2]

/-- two wide ones, of these values -/
def TwoV (w w' : World) (e : Ending) (x y : Int) : Prop :=
  ∃ s m t n, TwoW w w' e s m t n ∧ wv s m = x ∧ wv t n = y ∧ m ≤ 18446744073709551616 ∧ n ≤ 18446744073709551616

theorem of_neg1 (w : World) : Calls Try.prog 45 #[.int .i64 (-1)] w fun e w' => Wide w w' e true 1 :=
  (of_c _ (by omega) w).mono fun e w' h => h

set_option maxRecDepth 100000 in
set_option maxHeartbeats 2000000 in
theorem down_c (a b : Int) (ha : nm.Fit a) (hb : nm.Fit b) (h0 : b ≠ 0) (w : World) :
    Calls Try.prog 51 #[.int .i64 a, .int .i64 b] w fun e w' => TwoV w w' e (a.fdiv b) (a.fmod b) := by
  have l1 := fit_natAbs ha
  have l2 := fit_natAbs hb
  have cc := cut_c a b ha hb h0
  have ob := of_w b hb
  have q1 := Lib.hid (wv_tdiv a b)
  have q2 := Lib.hid (wv_tmod a b)
  have q3 := Lib.hid (nm.fdiv_is a b h0)
  have q4 := Lib.hid (nm.fmod_is a b h0)
  have q5 := lean_is a b h0
  have q6 := Lib.hid (wv_of b)
  have n1 : a.natAbs / b.natAbs ≤ a.natAbs := Nat.div_le_self _ _
  have n2 : a.natAbs % b.natAbs ≤ a.natAbs := Nat.mod_le _ _
  generalize a.natAbs / b.natAbs = m at *
  generalize a.natAbs % b.natAbs = n at *
  by_cases hl : nm.lean (a.tmod b) b = true
  · have hl2 := hl
    rw [q5] at hl2
    have Hl := Lib.hid hl
    simp only [Bool.and_eq_true, decide_eq_true_eq] at hl2
    obtain ⟨hp, hne⟩ := hl2
    have dp : 0 < (digs n).length := by rw [digs_pos hp]; simp
    have t1 : (!(decide (a < 0) == decide (b < 0))) = true := by simpa using hne
    generalize hs : decide (a < 0) = s at *
    rw [show (s != decide (b < 0)) = true from hne] at cc q1
    clear hl q5 hs h0 hne
    go_enter Try.func51, Try.ntmps51
    go_wp2_with fail
    refine (cc _).mono ?_; rintro e w1 ⟨g1, c1, g2, c2, rfl, s1, s2, b1⟩
    have z1 : w.heap.size + 1 < w1.heap.size := by have := b1.size; simp at this; omega
    go_wp2_with fail
    have r01 : w1.cell? ⟨w.heap.size, 0, none⟩ = some (.bool false) := by rw [b1.cell (by go_size)]; go_cell
    have r11 : w1.cell? ⟨w.heap.size, 1, none⟩ = some (.slice none 0 0) := by rw [b1.cell (by go_size)]; go_cell
    have r21 : w1.cell? ⟨w.heap.size + 1, 0, none⟩ = some (.bool false) := by rw [b1.cell (by go_size)]; go_cell
    have r31 : w1.cell? ⟨w.heap.size + 1, 1, none⟩ = some (.slice none 0 0) := by rw [b1.cell (by go_size)]; go_cell
    have f01 : w1.frozen? ⟨w.heap.size, 0, none⟩ = false := by rw [b1.frozen (by go_size)]; go_cell
    have f11 : w1.frozen? ⟨w.heap.size, 1, none⟩ = false := by rw [b1.frozen (by go_size)]; go_cell
    have f21 : w1.frozen? ⟨w.heap.size + 1, 0, none⟩ = false := by rw [b1.frozen (by go_size)]; go_cell
    have f31 : w1.frozen? ⟨w.heap.size + 1, 1, none⟩ = false := by rw [b1.frozen (by go_size)]; go_cell
    go_region_held3 (fun w' => w'.cell? ⟨w1.heap.size, 0, none⟩ = some (.bool true) ∧ w'.cell? ⟨w1.heap.size, 1, none⟩ = some (.slice (some ⟨g1, 0, none⟩) (digs m).length c1) ∧ w'.cell? ⟨w1.heap.size + 1, 0, none⟩ = some (.bool s) ∧ w'.cell? ⟨w1.heap.size + 1, 1, none⟩ = some (.slice (some ⟨g2, 0, none⟩) (digs n).length c2))
      (first | (refine ⟨?_, ?_, ?_, ?_⟩ <;> go_cell) | (refine ⟨?_, ?_, ?_, ?_⟩ <;> (rw [b8.cell (by go_size)]; first | assumption | go_cell)) | (refine ⟨?_, ?_, ?_, ?_⟩ <;> (rw [b7.cell (by go_size)]; first | assumption | go_cell)) | (refine ⟨?_, ?_, ?_, ?_⟩ <;> (rw [b6.cell (by go_size)]; first | assumption | go_cell)) | (refine ⟨?_, ?_, ?_, ?_⟩ <;> (rw [b5.cell (by go_size)]; first | assumption | go_cell)))
      (first
        | (go_at_call 45; (with_reducible refine (of_neg1 _).mono ?_); rintro e w5 ⟨g5, c5, rfl, s5, b5⟩; have z5 : w1.heap.size + 1 < w5.heap.size := (by have := b5.size; simp at this; omega))
        | (go_at_call_of 44 (Value.bool true); refine (sum_f _ true true g1 c1 g5 c5 m 1 (by first | exact SlB.stay (((s1.mono (Nat.zero_le _)).alloc _).alloc _).drew b5 | exact SlB.stay (((s1.mono (Nat.zero_le _)).alloc _).alloc _) b5) (by exact s5) (len_ok (by omega)) (len_ok (by omega))).mono ?_; rintro e w6 ⟨g6, c6, rfl, s6, b6⟩; have z6 : w1.heap.size + 1 < w6.heap.size := (by have := b6.size; omega))
        | (go_at_call 45; (with_reducible refine (ob _).mono ?_); rintro e w7 ⟨g7, c7, rfl, s7, b7⟩; have z7 : w1.heap.size + 1 < w7.heap.size := (by have := b7.size; omega))
        | (go_at_call_of 44 (Value.bool s); refine (sum_f _ s _ g2 c2 g7 c7 n b.natAbs (by first | exact SlB.stay (((s2.mono (Nat.zero_le _)).alloc _).alloc _).drew (chain (chain b5 b6) b7) | exact SlB.stay (((s2.mono (Nat.zero_le _)).alloc _).alloc _) (chain (chain b5 b6) b7)) (by exact s7) (len_ok (by omega)) (len_ok (by omega))).mono ?_; rintro e w8 ⟨g8, c8, rfl, s8, b8⟩; have z8 : w1.heap.size + 1 < w8.heap.size := (by have := b8.size; omega); have c18 := chain (chain (chain b5 b6) b7) b8; have r0 : w8.cell? ⟨w.heap.size, 0, none⟩ = some (.bool false) := (by rw [c18.cell (by go_size)]; exact (World.cell?_alloc_past _ _ _ (by simp; omega)).trans ((World.cell?_alloc_past _ _ _ (by omega)).trans r01)); have r1 : w8.cell? ⟨w.heap.size, 1, none⟩ = some (.slice none 0 0) := (by rw [c18.cell (by go_size)]; exact (World.cell?_alloc_past _ _ _ (by simp; omega)).trans ((World.cell?_alloc_past _ _ _ (by omega)).trans r11)); have r2 : w8.cell? ⟨w.heap.size + 1, 0, none⟩ = some (.bool false) := (by rw [c18.cell (by go_size)]; exact (World.cell?_alloc_past _ _ _ (by simp; omega)).trans ((World.cell?_alloc_past _ _ _ (by omega)).trans r21)); have r3 : w8.cell? ⟨w.heap.size + 1, 1, none⟩ = some (.slice none 0 0) := (by rw [c18.cell (by go_size)]; exact (World.cell?_alloc_past _ _ _ (by simp; omega)).trans ((World.cell?_alloc_past _ _ _ (by omega)).trans r31)); have f0 : w8.frozen? ⟨w.heap.size, 0, none⟩ = false := (by rw [c18.frozen (by go_size)]; exact (World.frozen?_alloc_past _ _ _ (by simp; omega)).trans ((World.frozen?_alloc_past _ _ _ (by omega)).trans f01)); have f1 : w8.frozen? ⟨w.heap.size, 1, none⟩ = false := (by rw [c18.frozen (by go_size)]; exact (World.frozen?_alloc_past _ _ _ (by simp; omega)).trans ((World.frozen?_alloc_past _ _ _ (by omega)).trans f11)); have f2 : w8.frozen? ⟨w.heap.size + 1, 0, none⟩ = false := (by rw [c18.frozen (by go_size)]; exact (World.frozen?_alloc_past _ _ _ (by simp; omega)).trans ((World.frozen?_alloc_past _ _ _ (by omega)).trans f21)); have f3 : w8.frozen? ⟨w.heap.size + 1, 1, none⟩ = false := (by rw [c18.frozen (by go_size)]; exact (World.frozen?_alloc_past _ _ _ (by simp; omega)).trans ((World.frozen?_alloc_past _ _ _ (by omega)).trans f31))))
    go_wp2
    refine bodyPost_ret (v := .tuple #[.agg #[.bool (sumS true m true 1), .slice (some ⟨g6, 0, none⟩) (digs (sumN true m true 1)).length c6], .agg #[.bool (sumS s n (decide (b < 0)) b.natAbs), .slice (some ⟨g8, 0, none⟩) (digs (sumN s n (decide (b < 0)) b.natAbs)).length c8]]) (by simp [results, Try.results51, go_sem, r0, r1, r2, r3]) rfl ?_
    have k1 := sumN_le true m true 1
    have k2 := sumN_le s n (decide (b < 0)) b.natAbs
    refine ⟨_, _, _, _, ⟨g6, c6, g8, c8, rfl, ?_, ?_, ?_⟩, ?_, ?_, by omega, by omega⟩
    · exact SlB.mono (put4 (s6.stay (chain b7 b8)) (by omega) _ _ _ _) (by omega)
    · exact SlB.mono (put4 s8 (by omega) _ _ _ _) (by omega)
    · refine put4b ?_ _ _ _ _
      refine Below.trans ?_ (c18.mono (by show w.heap.size ≤ ((w1.alloc _).alloc _).heap.size; simp; omega))
      exact ((((((Below.refl _ w).alloc (Nat.le_refl _) _).alloc (by simp) _).trans (b1.mono (by simp; omega))).alloc (by omega) _).alloc (by simp; omega) _).drew
    · rw [sum_wv, q1.out, q3.out, Hl.out, if_pos rfl]; rfl
    · rw [sum_wv, q2.out, q4.out, Hl.out, if_pos rfl, q6.out]
  · have Hl := Lib.hid hl
    have hne : (decide (0 < n) && (decide (a < 0) != decide (b < 0))) = false := by rw [← q5]; simpa using hl
    have Q3 := Lib.hid (show a.fdiv b = a.tdiv b by rw [q3.out, if_neg hl])
    have Q4 := Lib.hid (show a.fmod b = a.tmod b by rw [q4.out, if_neg hl])
    clear q5 h0 hl q3 q4
    by_cases hp : 0 < n
    · have t1 : (!(decide (a < 0) == decide (b < 0))) = false := by simpa [hp] using hne
      have dp : 0 < (digs n).length := by rw [digs_pos hp]; simp
      clear hne hp
      generalize decide (a < 0) = s at *
      go_enter Try.func51, Try.ntmps51
      go_wp2_with fail
      refine (cc _).mono ?_; rintro e w1 ⟨g1, c1, g2, c2, rfl, s1, s2, b1⟩
      have z1 : w.heap.size + 1 < w1.heap.size := by have := b1.size; simp at this; omega
      have z0 : w.heap.size < w1.heap.size := by omega
      have r0 : w1.cell? ⟨w.heap.size, 0, none⟩ = some (.bool false) := by rw [b1.cell (by go_size)]; go_cell
      have r1 : w1.cell? ⟨w.heap.size, 1, none⟩ = some (.slice none 0 0) := by rw [b1.cell (by go_size)]; go_cell
      have r2 : w1.cell? ⟨w.heap.size + 1, 0, none⟩ = some (.bool false) := by rw [b1.cell (by go_size)]; go_cell
      have r3 : w1.cell? ⟨w.heap.size + 1, 1, none⟩ = some (.slice none 0 0) := by rw [b1.cell (by go_size)]; go_cell
      have f0 : w1.frozen? ⟨w.heap.size, 0, none⟩ = false := by rw [b1.frozen (by go_size)]; go_cell
      have f1 : w1.frozen? ⟨w.heap.size, 1, none⟩ = false := by rw [b1.frozen (by go_size)]; go_cell
      have f2 : w1.frozen? ⟨w.heap.size + 1, 0, none⟩ = false := by rw [b1.frozen (by go_size)]; go_cell
      have f3 : w1.frozen? ⟨w.heap.size + 1, 1, none⟩ = false := by rw [b1.frozen (by go_size)]; go_cell
      go_wp2_with fail
      go_region
      go_wp2
      refine bodyPost_ret (v := .tuple #[.agg #[.bool (s != decide (b < 0)), .slice (some ⟨g1, 0, none⟩) (digs m).length c1], .agg #[.bool s, .slice (some ⟨g2, 0, none⟩) (digs n).length c2]]) (by simp [results, Try.results51, go_sem, r0, r1, r2, r3, z0, z1]) rfl ?_
      refine ⟨_, _, _, _, ⟨g1, c1, g2, c2, rfl, ?_, ?_, ?_⟩, by rw [q1.out, Q3.out], by rw [q2.out, Q4.out], by omega, by omega⟩
      · exact SlB.mono (SlB.drew (((put4 (s1.mono (B' := w.heap.size + 2) (by simp)) (by omega) _ _ _ _).alloc _).alloc _)) (by omega)
      · exact SlB.mono (SlB.drew (((put4 (s2.mono (B' := w.heap.size + 2) (by simp)) (by omega) _ _ _ _).alloc _).alloc _)) (by omega)
      · refine (((put4b (Below.trans ?_ (b1.mono (by simp; omega))) _ _ _ _).alloc (by simp; omega) _).alloc (by simp; omega) _).drew
        exact ((Below.refl _ w).alloc (Nat.le_refl _) _).alloc (by simp) _
    · have dp : (digs n).length = 0 := by rw [show n = 0 from by omega, digs_zero]; rfl
      clear hne hp
      generalize decide (a < 0) = s at *
      go_enter Try.func51, Try.ntmps51
      go_wp2_with fail
      refine (cc _).mono ?_; rintro e w1 ⟨g1, c1, g2, c2, rfl, s1, s2, b1⟩
      have z1 : w.heap.size + 1 < w1.heap.size := by have := b1.size; simp at this; omega
      have z0 : w.heap.size < w1.heap.size := by omega
      have r0 : w1.cell? ⟨w.heap.size, 0, none⟩ = some (.bool false) := by rw [b1.cell (by go_size)]; go_cell
      have r1 : w1.cell? ⟨w.heap.size, 1, none⟩ = some (.slice none 0 0) := by rw [b1.cell (by go_size)]; go_cell
      have r2 : w1.cell? ⟨w.heap.size + 1, 0, none⟩ = some (.bool false) := by rw [b1.cell (by go_size)]; go_cell
      have r3 : w1.cell? ⟨w.heap.size + 1, 1, none⟩ = some (.slice none 0 0) := by rw [b1.cell (by go_size)]; go_cell
      have f0 : w1.frozen? ⟨w.heap.size, 0, none⟩ = false := by rw [b1.frozen (by go_size)]; go_cell
      have f1 : w1.frozen? ⟨w.heap.size, 1, none⟩ = false := by rw [b1.frozen (by go_size)]; go_cell
      have f2 : w1.frozen? ⟨w.heap.size + 1, 0, none⟩ = false := by rw [b1.frozen (by go_size)]; go_cell
      have f3 : w1.frozen? ⟨w.heap.size + 1, 1, none⟩ = false := by rw [b1.frozen (by go_size)]; go_cell
      go_wp2_with fail
      go_region
      go_wp2
      refine bodyPost_ret (v := .tuple #[.agg #[.bool (s != decide (b < 0)), .slice (some ⟨g1, 0, none⟩) (digs m).length c1], .agg #[.bool s, .slice (some ⟨g2, 0, none⟩) (digs n).length c2]]) (by simp [results, Try.results51, go_sem, r0, r1, r2, r3, z0, z1, dp]) rfl ?_
      refine ⟨_, _, _, _, ⟨g1, c1, g2, c2, rfl, ?_, ?_, ?_⟩, by rw [q1.out, Q3.out], by rw [q2.out, Q4.out], by omega, by omega⟩
      · exact SlB.mono (SlB.drew (((put4 (s1.mono (B' := w.heap.size + 2) (by simp)) (by omega) _ _ _ _).alloc _).alloc _)) (by omega)
      · exact SlB.mono (SlB.drew (((put4 (s2.mono (B' := w.heap.size + 2) (by simp)) (by omega) _ _ _ _).alloc _).alloc _)) (by omega)
      · refine (((put4b (Below.trans ?_ (b1.mono (by simp; omega))) _ _ _ _).alloc (by simp; omega) _).alloc (by simp; omega) _).drew
        exact ((Below.refl _ w).alloc (Nat.le_refl _) _).alloc (by simp) _
end Go.Proofs.Ytpfkcllincfpkaa.dg
