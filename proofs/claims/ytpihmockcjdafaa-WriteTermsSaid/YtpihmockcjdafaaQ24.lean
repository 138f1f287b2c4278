/- The reference: parts, Good.; The reference: pair, text.; The reference: text of lists; Named, Write.; A term in memory, looked at as what stands as a term.; The law's own function alike: two terms that are one but for the numbers of variables. -/
import Derived.Test.YtpihmockcjdafaaQ22
import Derived.Test.YtpihmockcjdafaaQ10
import Derived.Test.YtpihmockcjdafaaQ23
import Derived.Test.YtpihmockcjdafaaQ20
import Derived.Test.YtpihmockcjdafaaQ13
import Derived.Test.YtpihmockcjdafaaQ12
set_option linter.unusedVariables false
set_option linter.unusedSimpArgs false
section
/- The reference: parts, Good. -/
namespace Go.Proofs.Ytpihmockcjdafaa.wr
open Go.RowKit
open Go.Proofs.Ytpihmockcjdafaa.rd
open Go.Proofs.Ytpihmockcjdafaa.op (bs strC)
open Go.Proofs.Ytpihmockcjdafaa.lx (quoteS cell_at isOne toks Qn rquote_c)
open Go.Proofs.Ytpihmockcjdafaa.nm (Fit)
set_option maxRecDepth 20000

open Classical in
/-- what is left when the parts are taken off, below 0: they are more, or one may not be -/
noncomputable def leftU (u : U) (n : Int) : Int := if okU u ∧ (szU u : Int) ≤ n then n - szU u else -1
abbrev PaOk (u : U) : Prop := ∀ (n : Int) (a : Value) (w : World), -1 ≤ n → n ≤ 1000 → Ru w.heap.size w u a → qnU u →
  Calls Try.prog 21 #[uV u a, .int .i64 n] w fun e w' => e = .returned (.int .i64 (leftU u n)) ∧ Below w.heap.size w w'
theorem left_no {u : U} {n : Int} (h : ¬ (okU u ∧ (szU u : Int) ≤ n)) : leftU u n = -1 := by unfold leftU; rw [if_neg h]
theorem left_yes {u : U} {n : Int} (h : okU u) (k : (szU u : Int) ≤ n) : leftU u n = n - szU u := by unfold leftU; rw [if_pos ⟨h, k⟩]
set_option maxHeartbeats 4000000 in
theorem parts_step (u : U) (ih : ∀ i, i < u.l.length → PaOk (u.l.getD i dfU)) : PaOk u := by
  intro n a w hn0 hn ha hq
  obtain ⟨p, cap, rfl, hf, hP⟩ := ha.parts
  have hm := hP.max
  have hle := hP.le
  obtain ⟨q1, q2⟩ := hq.sp
  have hb0 := heap_alloc_new w (.cells #[.int .i64 u.k, .int .i64 u.n, .string (bs u.s), .slice p u.l.length cap] 24)
  have hbb := (Below.refl w.heap.size w).alloc (Nat.le_refl _) (.cells #[.int .i64 u.k, .int .i64 u.n, .string (bs u.s), .slice p u.l.length cap] 24)
  have hB0 := Lib.hid hb0
  have HBB := Lib.hid hbb
  have kq := rquote_c (bs u.s) (w.alloc (.cells #[.int .i64 u.k, .int .i64 u.n, .string (bs u.s), .slice p u.l.length cap] 24)) q1
  rw [show (bs u.s).data.toList = u.s from rfl] at kq
  have hOk := Lib.hid (okU_iff u)
  have hSz := Lib.hid (szU_eq u)
  have hPos := szU_pos u
  have IH := Lib.hid ih
  have HP := Lib.hid hP
  have Q2 := Lib.hid q2
  have hlen := szUL_len u.l
  have hNo := Lib.hid (left_no (u := u) (n := n))
  have hYes := Lib.hid (left_yes (u := u) (n := n))
  have hL0 : Hid (u.l = [] ↔ u.l.length = 0) := Lib.hid List.length_eq_zero_iff.symm
  have hE : ∀ l : List UInt8, l.isEmpty = true ↔ l = [] := fun l => List.isEmpty_iff
  unfold uV
  unfold maxLen at hm
  generalize leftU u n = R at *
  clear ih ha hb0 hbb hP hq q1 q2 hf
  by_cases h0 : n ≤ 0
  · obtain rfl : R = -1 := hNo.out (by omega)
    clear kq
    go_enter Try.func21, Try.ntmps21
    go_wp2
    go_ret
    exact ⟨rfl, HBB.out⟩
  have i1 : IntKind.i64.wrap (n - 1) = n - 1 := IntWalk.i64_in _ (by omega)
  generalize quoteS u.s = Q at *
  generalize u.k = kk at *
  generalize u.n = nn at *
  generalize bs u.s = ss at *
  by_cases h1 : kk = 1
  · subst h1
    by_cases hneg : nn < 0
    · obtain rfl : R = -1 := hNo.out (by rw [hOk.out]; omega)
      clear kq hNo hYes hOk hSz
      go_enter Try.func21, Try.ntmps21
      go_wp2
      go_ret
      exact ⟨rfl, HBB.out⟩
    · have hs : szU u = 1 := by rw [hSz.out]; simp
      obtain rfl : R = n - 1 := by rw [hYes.out (hOk.out.2 (.inl ⟨rfl, by omega⟩)) (by omega)]; omega
      clear kq hNo hYes hOk hSz
      go_enter Try.func21, Try.ntmps21
      go_wp2
      go_ret
      exact ⟨rfl, HBB.out⟩
  by_cases h2 : kk = 2
  · subst h2
    have hs : szU u = 1 := by rw [hSz.out]; simp
    obtain rfl : R = n - 1 := by rw [hYes.out (hOk.out.2 (.inr (.inl rfl))) (by omega)]; omega
    clear kq hNo hYes hOk hSz
    go_enter Try.func21, Try.ntmps21
    go_wp2
    go_ret
    exact ⟨rfl, HBB.out⟩
  by_cases h3 : kk = 3
  · subst h3
    have hs : szU u = 1 := by rw [hSz.out]; simp
    by_cases hQ : Q = []
    · subst hQ
      obtain rfl : R = -1 := hNo.out (by rw [hOk.out]; simp)
      clear hNo hYes hOk hSz hE
      go_enter Try.func21, Try.ntmps21
      go_wp2_with fail
      refine kq.mono ?_
      rintro e w1 ⟨rfl, hb⟩
      have HB := Lib.hid (HBB.out.trans (hb.mono HBB.out.size))
      clear hb kq
      go_wp2
      go_ret
      exact ⟨rfl, HB.out⟩
    · obtain rfl : R = n - 1 := by rw [hYes.out (hOk.out.2 (.inr (.inr (.inl ⟨rfl, hQ⟩)))) (by omega)]; omega
      have hQe : Q.isEmpty = false := by simp [hQ]
      clear hNo hYes hOk hSz hE
      go_enter Try.func21, Try.ntmps21
      go_wp2_with fail
      refine kq.mono ?_
      rintro e w1 ⟨rfl, hb⟩
      have HB := Lib.hid (HBB.out.trans (hb.mono HBB.out.size))
      clear hb kq
      go_wp2
      go_ret
      exact ⟨rfl, HB.out⟩
  by_cases h4 : kk = 4
  · subst h4
    by_cases hQ : Q = []
    · subst hQ
      obtain rfl : R = -1 := hNo.out (by rw [hOk.out]; simp)
      clear hNo hYes hOk hSz hE
      go_enter Try.func21, Try.ntmps21
      go_wp2_with fail
      refine kq.mono ?_
      rintro e w1 ⟨rfl, hb⟩
      have HB := Lib.hid (HBB.out.trans (hb.mono HBB.out.size))
      clear hb kq
      go_wp2
      go_ret
      exact ⟨rfl, HB.out⟩
    have hQe : Q.isEmpty = false := by simp [hQ]
    by_cases hl : u.l.length = 0 ∨ n - 1 < (u.l.length : Int)
    · have hs : szU u = 1 + szUL u.l := by rw [hSz.out]; simp
      obtain rfl : R = -1 := hNo.out (by rw [hOk.out]; rintro ⟨h, k⟩; rcases h with h | h | h | ⟨_, _, h, _⟩; omega; omega; omega; rcases hl with hl | hl; exact h (hL0.out.2 hl); omega)
      clear hNo hYes hOk hSz hE hs hlen hL0 hQ
      generalize u.l.length = ll at *
      go_enter Try.func21, Try.ntmps21
      go_wp2_with fail
      refine kq.mono ?_
      rintro e w1 ⟨rfl, hb⟩
      have hbx := (hb.block w.heap.size (lt_of hB0.out)).trans hB0.out
      obtain ⟨x0, x1, x2, x3, _⟩ := cells4 hbx
      have HB := Lib.hid (HBB.out.trans (hb.mono HBB.out.size))
      clear hb kq hbx
      by_cases h00 : ll = 0
      · subst h00
        go_wp2
        go_ret
        exact ⟨rfl, HB.out⟩
      · have y1 : ((ll : Int) == 0) = false := by simp [h00]
        have y2 : n - 1 < (ll : Int) := by omega
        clear hl h00
        go_wp2
        go_ret
        exact ⟨rfl, HB.out⟩
    · have Hr : Hid ((okU u ↔ okUL u.l) ∧ szU u = 1 + szUL u.l) := Lib.hid ⟨by
        rw [hOk.out]
        exact ⟨fun h => by rcases h with h | h | h | ⟨_, _, _, h⟩; omega; omega; omega; exact h, fun h => .inr (.inr (.inr ⟨rfl, hQ, fun e => hl (.inl (hL0.out.1 e)), h⟩))⟩, by rw [hSz.out]; simp⟩
      have y1 : ((u.l.length : Int) == 0) = false := beq_eq_false_iff_ne.2 (by omega)
      have y2 : ¬ (n - 1 < (u.l.length : Int)) := by omega
      clear hOk hSz hE hL0 hQ hl
      go_enter Try.func21, Try.ntmps21
      go_wp2_with fail
      refine kq.mono ?_
      rintro e w1 ⟨rfl, hb⟩
      have hbx := (hb.block w.heap.size (lt_of hB0.out)).trans hB0.out
      have hB1 := Lib.hid hbx
      obtain ⟨x0, x1, x2, x3, _⟩ := cells4 hbx
      have HB := Lib.hid (HBB.out.trans (hb.mono HBB.out.size))
      clear hb kq hbx hB0 HBB
      go_wp2
      clear x0 x1 x2 x3 y1
      go_loopg [1, 5] u.l.length (fun k v1 v5 wr => ∃ (i : Nat) (m : Int), k = u.l.length - i ∧ i ≤ u.l.length ∧ v1 = .int .i64 m ∧ v5 = .int .i64 i ∧ -1 ≤ m ∧ m ≤ 1000 ∧ Hid (Below w1.heap.size w1 wr) ∧
        Hid ((m = -1 ∧ R = -1) ∨ (0 ≤ m ∧ (okUL u.l ↔ okUL (u.l.drop i)) ∧ m - szUL (u.l.drop i) = n - 1 - szUL u.l)))
      case atStart => exact ⟨0, n - 1, by omega, by omega, rfl, rfl, by omega, by omega, Lib.hid (Below.refl _ _), Lib.hid (.inr ⟨by omega, Iff.rfl, rfl⟩)⟩
      case round =>
        obtain ⟨i, m, hgk, hi, rfl, rfl, hm0, hm1, HW, HI⟩ := hrel
        have hbx := (HW.out.block w.heap.size (lt_of hB1.out)).trans hB1.out
        obtain ⟨x0, x1, x2, x3, _⟩ := cells4 hbx
        clear hbx
        by_cases hlt : i < u.l.length
        · have hlt2 : (i : Int) < u.l.length := by omega
          by_cases hneg : m < 0
          · have hR : R = -1 := by rcases HI.out with h | h; exact h.2; omega
            obtain rfl : m = -1 := by omega
            clear hneg
            go_wp2
            go_ret
            exact ⟨by subst hR; rfl, HB.out.trans (HW.out.mono HB.out.size)⟩
          · have hnn : 0 ≤ m := by omega
            have i4 : (0 : Int) ≤ (i : Int) := by omega
            obtain ⟨ho, hs⟩ : (okUL u.l ↔ okUL (u.l.drop i)) ∧ m - szUL (u.l.drop i) = n - 1 - szUL u.l := by rcases HI.out with h | h; omega; exact h.2
            have hww : Below w.heap.size w wr := HB.out.trans (HW.out.mono HB.out.size)
            obtain ⟨g, o, a, hpe, hgl, d0, d1, d2, d3, hR⟩ := (HP.out.stay hww).el i hlt
            subst hpe
            obtain ⟨p', cap', rfl, _, _⟩ := hR.parts
            have hd := drop_cons hlt
            have kx := IH.out i hlt m (.slice p' (u.l.getD i dfU).l.length cap') wr hm0 hm1 (hR.up hww.size) (qnUL_at Q2.out i hlt)
            generalize hx : u.l.getD i dfU = x at *
            have hsz : szUL (u.l.drop i) = szU x + szUL (u.l.drop (i + 1)) := by rw [hd, szUL]
            have hob : okUL (u.l.drop i) ↔ okU x ∧ okUL (u.l.drop (i + 1)) := by rw [hd, okUL]
            have HI2 : Hid ((leftU x m = -1 ∧ R = -1) ∨ (0 ≤ leftU x m ∧ (okUL u.l ↔ okUL (u.l.drop (i + 1))) ∧ leftU x m - szUL (u.l.drop (i + 1)) = n - 1 - szUL u.l)) := Lib.hid (by
              by_cases hx2 : okU x ∧ (szU x : Int) ≤ m
              · right
                rw [left_yes hx2.1 hx2.2]
                exact ⟨by omega, by rw [ho, hob]; exact ⟨fun h => h.2, fun h => ⟨hx2.1, h⟩⟩, by omega⟩
              · left
                refine ⟨left_no hx2, hNo.out fun ⟨h1, h2⟩ => hx2 ⟨(hob.1 (ho.1 (Hr.out.1.1 h1))).1, ?_⟩⟩
                have := Hr.out.2
                omega)
            have hz : -1 ≤ leftU x m ∧ leftU x m ≤ 1000 := by
              unfold leftU; split <;> omega
            unfold uV at kx
            clear hR hww hd hx hsz hob HI ho hs IH HP Q2 hNo hYes hlen
            generalize leftU x m = m2 at *
            go_wp2_with fail
            refine kx.mono ?_
            rintro e w3 ⟨rfl, hb3⟩
            have HW3 := Lib.hid (HW.out.trans (hb3.mono HW.out.size))
            clear hb3 kx
            go_wp2
            go_roundg (u.l.length - (i + 1))
            case measure => omega
            case rel => exact ⟨i + 1, m2, rfl, by omega, rfl, by go_num, hz.1, hz.2, HW3, HI2⟩
        · have hlt2 : ¬ ((i : Int) < u.l.length) := by omega
          have hnil : u.l.drop i = [] := List.drop_eq_nil_of_le (by omega)
          have hR : R = m := by
            rcases HI.out with ⟨h1, h2⟩ | ⟨h1, h2, h3⟩
            · omega
            · rw [hnil] at h2 h3
              have h4 : okUL u.l := h2.2 (by rw [okUL]; trivial)
              rw [szUL] at h3
              have h5 := Hr.out.2
              rw [hYes.out (Hr.out.1.2 h4) (by omega)]; omega
          clear HI hnil
          go_wp2
          go_ret
          exact ⟨by subst hR; rfl, HB.out.trans (HW.out.mono HB.out.size)⟩
  · obtain rfl : R = -1 := hNo.out (by rw [hOk.out]; simp [h1, h2, h3, h4])
    have n1 : (kk == 1) = false := by simp [h1]
    have n2 : (kk == 2) = false := by simp [h2]
    have n3 : (kk == 3) = false := by simp [h3]
    have n4 : (kk == 4) = false := by simp [h4]
    clear kq hNo hYes hOk hSz hE h1 h2 h3 h4
    go_enter Try.func21, Try.ntmps21
    go_wp2
    go_ret
    exact ⟨rfl, HBB.out⟩
theorem parts_all (u : U) : PaOk u := by
  have key : ∀ n u, SizeOf.sizeOf u ≤ n → PaOk u := by
    intro n
    induction n with
    | zero => intro u h; exact parts_step u fun i hi => absurd (part_size hi) (by omega)
    | succ n ih => intro u h; exact parts_step u fun i hi => ih _ (by have := part_size hi; omega)
  exact key _ u (Nat.le_refl _)
/-- the reference's Good -/
theorem rgood_c {u : U} {a : Value} {w : World} (ha : Ru w.heap.size w u a) (hq : qnU u) :
    Calls Try.prog 14 #[uV u a] w fun e w' => e = .returned (.bool (decide (goodU u))) ∧ Below w.heap.size w w' := by
  obtain ⟨p, cap, rfl, hf, hP⟩ := ha.parts
  have hbb := (Below.refl w.heap.size w).alloc (Nat.le_refl _) (.cells #[.int .i64 u.k, .int .i64 u.n, .string (bs u.s), .slice p u.l.length cap] 24)
  have kx := parts_all u 1000 _ _ (by omega) (by omega) ((ha.stay hbb).up hbb.size) hq
  have HB := Lib.hid hbb
  have hr : (0 : Int) ≤ leftU u 1000 ↔ goodU u := by
    unfold goodU
    by_cases h : okU u ∧ (szU u : Int) ≤ 1000
    · rw [left_yes h.1 h.2]; exact ⟨fun _ => ⟨h.1, by omega⟩, fun _ => by omega⟩
    · rw [left_no h]; exact ⟨fun h => by omega, fun k => absurd ⟨k.1, by omega⟩ h⟩
  have hr2 : decide (0 ≤ leftU u 1000) = decide (goodU u) := by rw [Bool.eq_iff_iff, decide_eq_true_iff, decide_eq_true_iff]; exact hr
  generalize decide (goodU u) = D at *
  generalize leftU u 1000 = m at *
  unfold uV at kx ⊢
  clear ha hq hP hf hbb hr
  go_enter Try.func14, Try.ntmps14
  go_wp2_with fail
  refine kx.mono ?_
  rintro e w2 ⟨rfl, hb⟩
  have HB2 := Lib.hid (HB.out.trans (hb.mono HB.out.size))
  clear kx hb
  go_wp2
  go_ret
  exact ⟨rfl, HB2.out⟩
end Go.Proofs.Ytpihmockcjdafaa.wr
end
section
/- The reference: pair, text. -/
namespace Go.Proofs.Ytpihmockcjdafaa.wr
open Go.RowKit
open Go.Proofs.Ytpihmockcjdafaa.rd
open Go.Proofs.Ytpihmockcjdafaa.op (bs strC)
open Go.Proofs.Ytpihmockcjdafaa.tx (text)
open Go.Proofs.Ytpihmockcjdafaa.lx (quoteS cell_at isOne toks Qn GM rquote_c varX txT txR)
open Go.Proofs.Ytpihmockcjdafaa.nm (Fit)
set_option maxRecDepth 20000

set_option maxHeartbeats 2000000 in
theorem pair_r {u : U} {p : Option Addr} {cap : Nat} {w : World} (hm : u.l.length ≤ maxLen) :
    Calls Try.prog 47 #[uV u (.slice p u.l.length cap)] w fun e w' => e = .returned (.bool (decide (cellU u))) ∧ Below w.heap.size w w' := by
  have hbb := Lib.hid ((Below.refl w.heap.size w).alloc (Nat.le_refl _) (.cells #[.int .i64 u.k, .int .i64 u.n, .string (bs u.s), .slice p u.l.length cap] 24))
  unfold maxLen at hm
  unfold uV
  have hs := isL u.s
  have hD : Hid (decide (cellU u) = (decide (u.k = 4) && (decide (u.s = [46]) && decide (u.l.length = 2)))) := Lib.hid (by rw [Bool.eq_iff_iff, decide_eq_true_iff]; simp [cellU])
  generalize decide (cellU u) = D at *
  generalize u.l.length = ll at *
  by_cases h4 : u.k = 4
  · rw [decide_eq_true h4, Bool.true_and] at hD
    generalize u.k = kk at *
    subst h4
    generalize bs u.s = z at *
    by_cases he : u.s = [46]
    · have e1 : (z.toList == [46]) = true := by rw [hs, he]; rfl
      rw [decide_eq_true he, Bool.true_and] at hD
      clear hs he
      by_cases h2 : ll = 2
      · subst h2
        obtain rfl : D = true := hD.out
        clear hD
        go_enter Try.func47, Try.ntmps47
        go_wp2
        go_ret
        exact ⟨rfl, hbb.out⟩
      · obtain rfl : D = false := by rw [hD.out, decide_eq_false h2]
        have e2 : ((ll : Int) == 2) = false := beq_eq_false_iff_ne.2 (by omega)
        clear hD h2
        go_enter Try.func47, Try.ntmps47
        go_wp2
        go_ret
        exact ⟨rfl, hbb.out⟩
    · have e1 : (z.toList == [46]) = false := by rw [hs]; exact beq_eq_false_iff_ne.2 he
      obtain rfl : D = false := by rw [hD.out, decide_eq_false he]; rfl
      clear hs he hD
      go_enter Try.func47, Try.ntmps47
      go_wp2
      go_ret
      exact ⟨rfl, hbb.out⟩
  · obtain rfl : D = false := by rw [hD.out, decide_eq_false h4]; rfl
    have e4 : (u.k == 4) = false := beq_eq_false_iff_ne.2 h4
    clear hD hs h4
    go_enter Try.func47, Try.ntmps47
    go_wp2
    go_ret
    exact ⟨rfl, hbb.out⟩
/-- text is the document's -/
abbrev TxR (u : U) : Prop := ∀ (p : Option Addr) (cap : Nat) (nm : List (List UInt8)) (a : Value) (w : World), okU u → qnU u → Ru w.heap.size w u a → Nr w.heap.size w nm p cap → (txT nm (er u)).length ≤ 100000000 →
  Calls Try.prog 24 #[uV u a, .slice p nm.length cap] w fun e w' => e = .returned (.string (bs (txT nm (er u)))) ∧ Below w.heap.size w w'
set_option maxHeartbeats 4000000 in
theorem rtext_var {u : U} (h1 : u.k = 1) : TxR u := by
  intro p cap nm a w ho hq hR hN hx
  have h0 : 0 ≤ u.n := by rw [okU_iff] at ho; omega
  rw [er_var h1]
  obtain ⟨pu, cu, rfl, hf, hPu⟩ := hR.parts
  have hbb := (Below.refl w.heap.size w).alloc (Nat.le_refl _) (.cells #[.int .i64 u.k, .int .i64 u.n, .string (bs u.s), .slice pu u.l.length cu] 24)
  have HBB := Lib.hid hbb
  have hN0 := hN.stay hbb
  have hm := hN.max
  have hle := hN.le
  have kp := fun W => tx.print_r u.n hf W
  rw [show tx.str (text u.n) = bs (text u.n) from rfl] at kp
  have hap : (⟨#[95]⟩ : ByteArray) ++ bs (text u.n) = bs (95 :: text u.n) := by unfold bs; apply ByteArray.ext; simp
  have hzs : (bs (text u.n)).size ≤ 20 := (tx.text_len hf).1
  have hX : Hid (varX nm u.n = if u.n.toNat < nm.length ∧ nm.getD u.n.toNat [] ≠ [] ∧ nm.getD u.n.toNat [] ≠ [95] then nm.getD u.n.toNat [] else 95 :: text u.n) := Lib.hid rfl
  unfold maxLen at hm
  unfold uV
  generalize varX nm u.n = X at *
  generalize hnn : u.n = nn at *
  generalize u.k = kk at *
  subst h1
  clear hbb hR ho hq hx hf hPu hN
  by_cases hlt : nn < nm.length
  · have hnat : nn.toNat < nm.length := by omega
    obtain ⟨g, o, rfl, hg, d0⟩ := hN0.el nn.toNat hnat
    have hni : ((nn.toNat : Nat) : Int) = nn := by omega
    by_cases he : nm.getD nn.toNat [] = [] ∨ nm.getD nn.toNat [] = [95]
    · obtain rfl : X = 95 :: text nn := by rw [hX.out, if_neg (fun h => he.elim h.2.1 h.2.2)]
      clear hX hN0 hnn
      generalize bs (text nn) = z at *
      rcases he with he | he
      all_goals
        rw [he] at d0
        (first | rw [show bs [] = ⟨#[]⟩ from rfl] at d0 | rw [show bs [95] = ⟨#[95]⟩ from rfl] at d0)
        clear he
        go_enter Try.func24, Try.ntmps24
        go_wp2_with fail
        refine (kp _).mono ?_
        rintro e w1 ⟨rfl, rfl⟩
        clear kp
        go_wp2
        go_ret
        exact ⟨rfl, HBB.out⟩
    · have he1 : nm.getD nn.toNat [] ≠ [] := fun h => he (.inl h)
      have he2 : nm.getD nn.toNat [] ≠ [95] := fun h => he (.inr h)
      obtain rfl : X = nm.getD nn.toNat [] := by rw [hX.out, if_pos ⟨hnat, he1, he2⟩]
      have z1 : (bs (nm.getD nn.toNat [])).toList.isEmpty = false := by rw [isE]; simpa using he1
      have z2 : ¬ (bs (nm.getD nn.toNat [])).toList = [] := by rw [ByteArray.toList_eq]; exact he1
      have z3 : ((bs (nm.getD nn.toNat [])).toList == [95]) = false := by rw [ByteArray.toList_eq]; exact beq_eq_false_iff_ne.2 he2
      clear hX hN0 kp hap hzs he he1 he2 hnn
      generalize bs (nm.getD nn.toNat []) = z at *
      go_enter Try.func24, Try.ntmps24
      go_wp2
      go_ret
      exact ⟨rfl, HBB.out⟩
  · obtain rfl : X = 95 :: text nn := by rw [hX.out, if_neg (by omega)]
    clear hX hN0 hnn
    generalize bs (text nn) = z at *
    go_enter Try.func24, Try.ntmps24
    go_wp2_with fail
    refine (kp _).mono ?_
    rintro e w1 ⟨rfl, rfl⟩
    clear kp
    go_wp2
    go_ret
    exact ⟨rfl, HBB.out⟩
set_option maxHeartbeats 4000000 in
theorem rtext_int {u : U} (h1 : u.k = 2) : TxR u := by
  intro p cap nm a w ho hq hR hN hx
  rw [er_int h1]
  obtain ⟨pu, cu, rfl, hf, hPu⟩ := hR.parts
  have HBB := Lib.hid ((Below.refl w.heap.size w).alloc (Nat.le_refl _) (.cells #[.int .i64 u.k, .int .i64 u.n, .string (bs u.s), .slice pu u.l.length cu] 24))
  have kp := fun W => tx.print_r u.n hf W
  rw [show tx.str (text u.n) = bs (text u.n) from rfl] at kp
  unfold uV
  generalize text u.n = X at *
  generalize u.k = kk at *
  subst h1
  clear hR ho hq hx hf hPu hN
  go_enter Try.func24, Try.ntmps24
  go_wp2_with fail
  refine (kp _).mono ?_
  rintro e w1 ⟨rfl, rfl⟩
  clear kp
  go_wp2
  go_ret
  exact ⟨rfl, HBB.out⟩
set_option maxHeartbeats 4000000 in
theorem rtext_atom {u : U} (h1 : u.k = 3) : TxR u := by
  intro p cap nm a w ho hq hR hN hx
  rw [er_atom h1]
  obtain ⟨pu, cu, rfl, hf, hPu⟩ := hR.parts
  have HBB := Lib.hid ((Below.refl w.heap.size w).alloc (Nat.le_refl _) (.cells #[.int .i64 u.k, .int .i64 u.n, .string (bs u.s), .slice pu u.l.length cu] 24))
  have kq := fun W => rquote_c (bs u.s) W hq.sp.1
  rw [show (bs u.s).data.toList = u.s from rfl] at kq
  have hs := isL u.s
  unfold uV
  generalize u.k = kk at *
  subst h1
  clear hR ho hq hx hf hPu hN
  by_cases hA : u.s = [91, 93]
  · rw [if_pos (.inl hA)]
    rw [hA] at HBB ⊢
    rw [show bs [91, 93] = ⟨#[91, 93]⟩ from rfl] at HBB ⊢
    clear kq hs hA
    go_enter Try.func24, Try.ntmps24
    go_wp2
    go_ret
    exact ⟨rfl, HBB.out⟩
  by_cases hB : u.s = [123, 125]
  · rw [if_pos (.inr hB)]
    rw [hB] at HBB ⊢
    rw [show bs [123, 125] = ⟨#[123, 125]⟩ from rfl] at HBB ⊢
    clear kq hs hA hB
    go_enter Try.func24, Try.ntmps24
    go_wp2
    go_ret
    exact ⟨rfl, HBB.out⟩
  · rw [if_neg (fun h => h.elim hA hB)]
    have e1 : ((bs u.s).toList == [91, 93]) = false := by rw [hs]; exact beq_eq_false_iff_ne.2 hA
    have e2 : ((bs u.s).toList == [123, 125]) = false := by rw [hs]; exact beq_eq_false_iff_ne.2 hB
    generalize quoteS u.s = Q at *
    generalize bs u.s = z at *
    clear hs hA hB
    go_enter Try.func24, Try.ntmps24
    go_wp2_with fail
    refine (kq _).mono ?_
    rintro e w1 ⟨rfl, hb⟩
    have HB := Lib.hid (HBB.out.trans (hb.mono HBB.out.size))
    clear kq hb
    go_wp2
    go_ret
    exact ⟨rfl, HB.out⟩
theorem bs_sz (x : List UInt8) : (bs x).size = x.length := by simp [bs, ByteArray.size]
set_option maxHeartbeats 4000000 in
theorem rtext_row {u : U} (h4 : u.k = 4) (hc : ¬ cellU u) (ih : ∀ v, szU v < szU u → TxR v) : TxR u := by
  intro p cap nm a w ho hq hR hN hx
  have hol : okUL u.l ∧ u.l ≠ [] := by rw [okU_iff] at ho; rcases ho with ⟨h, _⟩ | h | ⟨h, _⟩ | ⟨_, _, h1, h⟩ <;> first | omega | exact ⟨h, h1⟩
  rw [er_cmp h4 hc hol.2] at hx ⊢
  simp only [List.length_append, List.length_singleton] at hx
  have hlm := ru_len hR
  obtain ⟨pu, cu, rfl, hf, hPu⟩ := hR.parts
  have hbb := (Below.refl w.heap.size w).alloc (Nat.le_refl _) (.cells #[.int .i64 u.k, .int .i64 u.n, .string (bs u.s), .slice pu u.l.length cu] 24)
  have hbx := heap_alloc_new w (.cells #[.int .i64 u.k, .int .i64 u.n, .string (bs u.s), .slice pu u.l.length cu] 24)
  have HBX := Lib.hid hbx
  have HBB := Lib.hid hbb
  have kq := fun W => rquote_c (bs u.s) W hq.sp.1
  rw [show (bs u.s).data.toList = u.s from rfl] at kq
  have kc := fun W => pair_r (u := u) (p := pu) (cap := cu) (w := W) hlm
  rw [decide_eq_false hc] at kc
  have HP := Lib.hid hPu
  have HN := Lib.hid hN
  have HX := Lib.hid hx
  have HO := Lib.hid hol.1
  have HL := Lib.hid hol.2
  have HQ := Lib.hid hq.sp.2
  have IH := Lib.hid (fun i (hi : i < u.l.length) => ih (u.l.getD i dfU) (part_sz h4 hi))
  unfold maxLen at hlm
  unfold uV at kc ⊢
  generalize hSd : quoteS u.s = Q at *
  have hb0 : bs Q = ⟨Q.toArray⟩ := rfl
  have hap : (⟨Q.toArray⟩ : ByteArray) ++ ⟨#[40]⟩ = bs (Q ++ [40]) := by rw [← hb0, show (⟨#[40]⟩ : ByteArray) = bs [40] from rfl, bs_append]
  have hz0 : Q.length ≤ 100000000 := by omega
  generalize bs u.s = ss at *
  generalize u.k = kk at *
  subst h4
  clear hbb hbx hR ho hq hx hf hPu hN hc hol ih hSd hb0
  have HT : Hid ((Q ++ [40]) ++ rowX nm [] u.l ++ [41] = Q ++ (rowX nm [40] u.l ++ [41])) := Lib.hid (by
    match hh : u.l, HL.out with
    | y :: l, _ => simp only [rowX, List.append_assoc, List.nil_append])
  have HTl : Hid ((Q ++ [40]).length + (rowX nm [] u.l).length ≤ 100000000) := Lib.hid (by
    have := congrArg List.length HT.out
    have := HX.out
    simp only [List.length_append, List.length_singleton] at *
    omega)
  rw [← HT.out]
  generalize Q ++ [40] = Y at *
  go_enter Try.func24, Try.ntmps24
  go_wp2_with fail
  refine (kc _).mono ?_
  rintro e w1 ⟨rfl, hb1⟩
  have HX1 := Lib.hid ((hb1.block w.heap.size (lt_of HBX.out)).trans HBX.out)
  obtain ⟨x0, x1, x2, x3⟩ := box_cells HX1.out
  have HB1 := Lib.hid (HBB.out.trans (hb1.mono HBB.out.size))
  clear hb1 kc HBX HBB
  go_wp2_with fail
  refine (kq _).mono ?_
  rintro e w2 ⟨rfl, hb2⟩
  have HX2 := Lib.hid ((hb2.block w.heap.size (lt_of HX1.out)).trans HX1.out)
  have HB2 := Lib.hid (HB1.out.trans (hb2.mono HB1.out.size))
  clear hb2 kq HX1 HB1 x0 x1 x2 x3
  go_wp2
  go_loopg [6, 7] u.l.length (fun k v6 v7 wr => ∃ (i : Nat) (x : List UInt8), k = u.l.length - i ∧ i ≤ u.l.length ∧ v6 = .string (bs x) ∧ v7 = .int .i64 i ∧ Hid (Below w2.heap.size w2 wr) ∧ Hid (x ++ rowX nm (if i = 0 then [] else [44]) (u.l.drop i) = Y ++ rowX nm [] u.l))
  case atStart => exact ⟨0, Y, by omega, by omega, by rw [← hap], rfl, Lib.hid (Below.refl _ _), Lib.hid rfl⟩
  case round =>
    obtain ⟨i, x, hgk, hi, rfl, rfl, HW, HI⟩ := hrel
    have hX3 := (HW.out.block w.heap.size (lt_of HX2.out)).trans HX2.out
    obtain ⟨x0, x1, x2, x3⟩ := box_cells hX3
    have hww := HB2.out.trans (HW.out.mono HB2.out.size)
    clear hX3
    by_cases hlt : i < u.l.length
    · have hlt2 : (i : Int) < u.l.length := by omega
      have i4 : (0 : Int) ≤ (i : Int) := by omega
      obtain ⟨g, o, a, hpe, hgl, d0, d1, d2, d3, hR⟩ := (HP.out.stay hww).el i hlt
      subst hpe
      obtain ⟨p', cap', rfl, _, _⟩ := hR.parts
      have hxx := HI.out
      rw [rowX_at hlt] at hxx
      have hlen := congrArg List.length hxx
      have hl2 := HTl.out
      simp only [List.length_append] at hlen
      have kx := IH.out i hlt p cap nm _ wr (okUL_at HO.out i hlt) (qnUL_at HQ.out i hlt) (hR.up hww.size) ((HN.out.stay hww).up hww.size) (by omega)
      generalize u.l.getD i dfU = y at *
      have hTz := bs_sz (txT nm (er y))
      have hxz := bs_sz x
      unfold uV at kx
      have HW0 := Lib.hid hww
      by_cases h0 : i = 0
      · subst h0
        simp only [Nat.zero_mul, Nat.add_zero] at d0 d1 d2 d3
        have hcat : bs x ++ bs (txT nm (er y)) = bs (x ++ txT nm (er y)) := bs_append _ _
        rw [if_pos rfl, List.nil_append] at hxx
        have HI2 : Hid (x ++ txT nm (er y) ++ rowX nm (if 0 + 1 = 0 then [] else [44]) (u.l.drop (0 + 1)) = Y ++ rowX nm [] u.l) := Lib.hid (by rw [if_neg (by decide), ← hxx]; simp only [List.append_assoc])
        clear hR hww hxx HI IH HP HN HO HQ
        go_wp2_with fail
        refine kx.mono ?_
        rintro e w3 ⟨rfl, hb3⟩
        have HW3 := Lib.hid (HW.out.trans (hb3.mono HW.out.size))
        clear hb3 kx
        go_wp2
        go_roundg (u.l.length - (0 + 1))
        case measure => omega
        case rel => exact ⟨0 + 1, _, rfl, by omega, by rw [← hcat], by go_num, HW3, HI2⟩
      · have hi0 : (0 : Int) < (i : Int) := by omega
        have hcat0 : bs x ++ (⟨#[44]⟩ : ByteArray) = bs (x ++ [44]) := by rw [show (⟨#[44]⟩ : ByteArray) = bs [44] from rfl, bs_append]
        have hcat : bs (x ++ [44]) ++ bs (txT nm (er y)) = bs (x ++ [44] ++ txT nm (er y)) := bs_append _ _
        rw [if_neg h0] at hxx hlen
        simp only [List.length_singleton] at hlen
        have hcz : (bs (x ++ [44])).size = x.length + 1 := by rw [bs_sz, List.length_append]; rfl
        have HI2 : Hid (x ++ [44] ++ txT nm (er y) ++ rowX nm (if i + 1 = 0 then [] else [44]) (u.l.drop (i + 1)) = Y ++ rowX nm [] u.l) := Lib.hid (by rw [if_neg (by omega), ← hxx]; simp only [List.append_assoc])
        clear hR hww hxx HI IH HP HN HO HQ h0
        generalize x ++ [44] = xc at *
        go_wp2_with fail
        refine kx.mono ?_
        rintro e w3 ⟨rfl, hb3⟩
        have HW3 := Lib.hid (HW.out.trans (hb3.mono HW.out.size))
        clear hb3 kx
        go_wp2
        go_roundg (u.l.length - (i + 1))
        case measure => omega
        case rel => exact ⟨i + 1, _, rfl, by omega, by rw [← hcat], by go_num, HW3, HI2⟩
    · have hlt2 : ¬ ((i : Int) < u.l.length) := by omega
      have hxx := HI.out
      rw [List.drop_eq_nil_of_le (by omega), show ∀ h, rowX nm h [] = [] from fun _ => by rw [rowX], List.append_nil] at hxx
      have hcat : bs x ++ (⟨#[41]⟩ : ByteArray) = bs (Y ++ rowX nm [] u.l ++ [41]) := by rw [← hxx, show (⟨#[41]⟩ : ByteArray) = bs [41] from rfl, bs_append]
      have hxz : (bs x).size ≤ 100000000 := by rw [bs_sz, hxx, List.length_append]; exact HTl.out
      clear hxx HI IH HP HN HO HQ
      go_wp2
      go_ret
      exact ⟨rfl, hww⟩
end Go.Proofs.Ytpihmockcjdafaa.wr
end
section
/- The reference: text of lists; Named, Write. -/
namespace Go.Proofs.Ytpihmockcjdafaa.wr
open Go.RowKit
open Go.Proofs.Ytpihmockcjdafaa.rd
open Go.Proofs.Ytpihmockcjdafaa.op (bs strC)
open Go.Proofs.Ytpihmockcjdafaa.lx (quoteS cell_at isOne toks Qn GM varX txT txR)
open Go.Proofs.Ytpihmockcjdafaa.nm (Fit)
set_option maxRecDepth 20000

theorem cat1 (x : List UInt8) (b : UInt8) : bs x ++ (⟨#[b]⟩ : ByteArray) = bs (x ++ [b]) := by rw [show (⟨#[b]⟩ : ByteArray) = bs [b] from rfl, bs_append]
theorem cat1' (x : List UInt8) (b : UInt8) : (⟨#[b]⟩ : ByteArray) ++ bs x = bs (b :: x) := by rw [show (⟨#[b]⟩ : ByteArray) = bs [b] from rfl, bs_append]; rfl
set_option maxHeartbeats 8000000 in
theorem rtext_list {u : U} (hc : cellU u) (ih : ∀ v, szU v < szU u → TxR v) : TxR u := by
  intro p cap nm a w ho hq hR hN hx
  have hlm := ru_len hR
  obtain ⟨o1, o2, q1, q2⟩ := cell_parts hc ho hq
  have hsl := snd_lt hc
  have h2 := hc.2.2
  obtain ⟨pu, cu, rfl, hf, hPu⟩ := hR.parts
  have hbb := (Below.refl w.heap.size w).alloc (Nat.le_refl _) (.cells #[.int .i64 u.k, .int .i64 u.n, .string (bs u.s), .slice pu u.l.length cu] 24)
  have hbx := heap_alloc_new w (.cells #[.int .i64 u.k, .int .i64 u.n, .string (bs u.s), .slice pu u.l.length cu] 24)
  have HBX := Lib.hid hbx
  have HBB := Lib.hid hbb
  have kc := fun W => pair_r (u := u) (p := pu) (cap := cu) (w := W) hlm
  rw [decide_eq_true hc] at kc
  unfold uV at kc ⊢
  have hT := er_cellT (nm := nm) hc
  have HX := Lib.hid hx
  have hlen := congrArg List.length hT
  simp only [List.length_cons, List.length_append] at hlen
  obtain ⟨g, o, a1, hpe, hgl, d0, d1, d2, d3, hR1⟩ := hPu.el 0 (by omega)
  obtain ⟨g', o', a2, hpe', hgl', f0, f1, f2, f3, hR2⟩ := hPu.el 1 (by omega)
  subst hpe
  injection hpe' with hpe'
  injection hpe' with e1 e2
  subst e1 e2
  rw [show u.l.getD 0 dfU = fstU u from rfl] at d0 d1 d2 hR1
  rw [show u.l.getD 1 dfU = sndU u from rfl] at f0 f1 f2 hR2
  simp only [Nat.zero_mul, Nat.add_zero, Nat.one_mul] at d0 d1 d2 d3 f0 f1 f2 f3
  obtain ⟨p1, c1, rfl, _, _⟩ := hR1.parts
  obtain ⟨p2, c2, rfl, _, _⟩ := hR2.parts
  have HD := Lib.hid (And.intro d0 (And.intro d1 (And.intro d2 d3)))
  have HE := Lib.hid (And.intro f0 (And.intro f1 (And.intro f2 f3)))
  have HR1 := Lib.hid hR1
  have HR2 := Lib.hid hR2
  have HN := Lib.hid hN
  have IH := Lib.hid ih
  have k1 := ih (fstU u) hsl.2
  have hk4 := hc.1
  unfold maxLen at hlm
  rw [h2] at kc HBX HBB hlm ⊢
  clear hbb hbx hR ho hq hx hf hPu hN hc ih d0 d1 d2 d3 f0 f1 f2 f3 hR1 hR2
  generalize hkk : u.k = kk at *
  subst hk4
  generalize bs u.s = ss at *
  go_enter Try.func24, Try.ntmps24
  go_wp2_with fail
  refine (kc _).mono ?_
  rintro e w1 ⟨rfl, hb1⟩
  have HX1 := Lib.hid ((hb1.block w.heap.size (lt_of HBX.out)).trans HBX.out)
  obtain ⟨x0, x1, x2, x3⟩ := box_cells HX1.out
  have HB1 := Lib.hid (HBB.out.trans (hb1.mono HBB.out.size))
  obtain ⟨d0, d1, d2, d3⟩ := HD.out
  have xc : ∀ j : Nat, w1.cell? ⟨g, j, none⟩ = w.cell? ⟨g, j, none⟩ := fun j => by unfold World.cell?; rw [HB1.out.block g hgl]
  rw [← xc] at d0 d1 d2 d3
  have k1' := k1 p cap nm _ w1 o1 q1 ((HR1.out.stay HB1.out).up HB1.out.size) ((HN.out.stay HB1.out).up HB1.out.size) (by have := HX.out; omega)
  unfold uV at k1'
  clear hb1 kc HBX HBB k1 xc HD HR1
  go_wp2_with fail
  refine k1'.mono ?_
  rintro e w2 ⟨rfl, hb2⟩
  have hX2 := (hb2.block w.heap.size (lt_of HX1.out)).trans HX1.out
  obtain ⟨y0, y1, y2, y3, yf⟩ := cells4 hX2
  have HX2 := Lib.hid hX2
  have HB2 := Lib.hid (HB1.out.trans (hb2.mono HB1.out.size))
  obtain ⟨f0, f1, f2, f3⟩ := HE.out
  have xc : ∀ j : Nat, w2.cell? ⟨g, j, none⟩ = w.cell? ⟨g, j, none⟩ := fun j => by unfold World.cell?; rw [HB2.out.block g hgl]
  rw [← xc] at f0 f1 f2 f3
  have hz1 : (bs (txT nm (er (fstU u)))).size ≤ 100000000 := by rw [bs_sz]; have := HX.out; omega
  have hcat := cat1' (txT nm (er (fstU u))) 91
  have hgB : g ≠ w.heap.size := by omega
  clear hb2 hX2 k1' HX1 HB1 xc HE d0 d1 d2 d3 x0 x1 x2 x3
  obtain ⟨b1, b2, b3⟩ := box4 HX2.out (.int .i64 (sndU u).k) (.int .i64 (sndU u).n) (.string (bs (sndU u).s)) (.slice p2 (sndU u).l.length c2)
  have hRk : ∀ W, Below w.heap.size w W → Ru w.heap.size W (sndU u) (.slice p2 (sndU u).l.length c2) := fun W h => HR2.out.stay h
  have HB3 := Lib.hid (HB2.out.trans b3)
  have HBX := Lib.hid b1
  have HR3 := Lib.hid (HR2.out.stay (HB2.out.trans b3))
  have HXT : Hid (91 :: txT nm (er (fstU u)) ++ txR nm (er (sndU u)) = txT nm (er u)) := Lib.hid (by rw [hT]; rfl)
  have hsl2 := hsl.1
  clear b1 b2 b3 hRk HB2 HX2 HR2 hT hlen hsl o1 q1
  go_wp2
  generalize ((((w2.setCell ⟨w.heap.size, 0, none⟩ (.int .i64 (sndU u).k)).setCell ⟨w.heap.size, 1, none⟩ (.int .i64 (sndU u).n)).setCell ⟨w.heap.size, 2, none⟩ (.string (bs (sndU u).s))).setCell ⟨w.heap.size, 3, none⟩ (.slice p2 (sndU u).l.length c2)) = W3 at *
  clear y0 y1 y2 y3 yf f0 f1 f2 f3 hz1 hcat hgB
  go_loopg [5] (szU (sndU u)) (fun k v5 wr => ∃ (v : U) (pv : Option Addr) (cv : Nat) (x : List UInt8), k = szU v ∧ v5 = .string (bs x) ∧ szU v < szU u ∧ okU v ∧ qnU v ∧ Hid (Below w.heap.size w wr) ∧ Hid (Ru w.heap.size wr v (.slice pv v.l.length cv)) ∧
    Hid (wr.heap[w.heap.size]? = some (.cells #[.int .i64 v.k, .int .i64 v.n, .string (bs v.s), .slice pv v.l.length cv] 24 (0, 0))) ∧ Hid (x ++ txR nm (er v) = txT nm (er u)))
  case atStart => exact ⟨sndU u, p2, c2, _, rfl, rfl, hsl2, o2, q2, HB3, HR3, HBX, HXT⟩
  case round =>
    obtain ⟨v, pv, cv, x, rfl, rfl, hvu, ov, qv, HW, HR, HB, HI⟩ := hrel
    obtain ⟨x0, x1, x2, x3, _⟩ := cells4 HB.out
    have hvm := ru_len HR.out
    have kc := pair_r (u := v) (p := pv) (cap := cv) (w := wr) hvm
    unfold maxLen at hvm
    unfold uV at kc
    have hlen := congrArg List.length HI.out
    rw [List.length_append] at hlen
    have hXX := HX.out
    by_cases hcv : cellU v
    · rw [decide_eq_true hcv] at kc
      obtain ⟨o1, o2, q1, q2⟩ := cell_parts hcv ov qv
      have hsl := snd_lt hcv
      have h2 := hcv.2.2
      have hR := HR.out
      obtain ⟨pv', cv', e9, _, hP⟩ := hR.parts
      injection e9 with e91 _ e93
      subst e91 e93
      obtain ⟨g, o, a1, hpe, hgl, d0, d1, d2, d3, hR1⟩ := hP.el 0 (by omega)
      obtain ⟨g', o', a2, hpe', hgl', f0, f1, f2, f3, hR2⟩ := hP.el 1 (by omega)
      subst hpe
      injection hpe' with hpe'
      injection hpe' with e1 e2
      subst e1 e2
      rw [show v.l.getD 0 dfU = fstU v from rfl] at d0 d1 d2 hR1
      rw [show v.l.getD 1 dfU = sndU v from rfl] at f0 f1 f2 hR2
      simp only [Nat.zero_mul, Nat.add_zero, Nat.one_mul] at d0 d1 d2 d3 f0 f1 f2 f3
      obtain ⟨p1, c1, rfl, _, _⟩ := hR1.parts
      obtain ⟨p2, c2, rfl, _, _⟩ := hR2.parts
      have hxx := HI.out
      rw [er_cellR hcv] at hxx hlen
      simp only [List.length_cons, List.length_append] at hlen
      have HB' := HB.out
      rw [h2] at kc x3 HB'
      have HBv := Lib.hid HB'
      have HD := Lib.hid (And.intro d0 (And.intro d1 (And.intro d2 d3)))
      have HE := Lib.hid (And.intro f0 (And.intro f1 (And.intro f2 f3)))
      have HR1 := Lib.hid hR1
      have HR2 := Lib.hid hR2
      have k1 := IH.out (fstU v) (by omega)
      have hxz : (bs x).size ≤ 100000000 := by rw [bs_sz]; omega
      have hcz : (bs (x ++ [44])).size ≤ 100000001 := by rw [bs_sz, List.length_append]; simp; omega
      have hcat0 := cat1 x 44
      have hcat : bs (x ++ [44]) ++ bs (txT nm (er (fstU v))) = bs (x ++ [44] ++ txT nm (er (fstU v))) := bs_append _ _
      have hlz : (bs (txT nm (er (fstU v)))).size ≤ 100000000 := by rw [bs_sz]; omega
      have hl1 : (txT nm (er (fstU v))).length ≤ 100000000 := by omega
      have HI2 : Hid (x ++ [44] ++ txT nm (er (fstU v)) ++ txR nm (er (sndU v)) = txT nm (er u)) := Lib.hid (by rw [← hxx]; simp [List.append_assoc])
      clear d0 d1 d2 d3 f0 f1 f2 f3 hR1 hR2 hP hR HR HI hxx hlen HB HB' HXT
      go_wp2_with fail
      refine kc.mono ?_
      rintro e w4 ⟨rfl, hb4⟩
      have hB4 := (hb4.block w.heap.size (lt_of HBv.out)).trans HBv.out
      obtain ⟨y0, y1, y2, y3⟩ := box_cells hB4
      have hbw := hb4.mono (show w.heap.size ≤ wr.heap.size from HW.out.size)
      have HB4 := Lib.hid hB4
      have HW4 := Lib.hid (HW.out.trans hbw)
      obtain ⟨d0, d1, d2, d3⟩ := HD.out
      have xc : ∀ j : Nat, w4.cell? ⟨g, j, none⟩ = wr.cell? ⟨g, j, none⟩ := fun j => by unfold World.cell?; rw [hbw.block g hgl]
      rw [← xc] at d0 d1 d2 d3
      have k1' := k1 p cap nm _ w4 o1 q1 ((HR1.out.stay hbw).up HW4.out.size) ((HN.out.stay HW4.out).up HW4.out.size) hl1
      have HBW := Lib.hid hbw
      unfold uV at k1'
      clear hb4 hB4 hbw kc xc HD HR1 k1 HBv HW x0 x1 x2 x3
      generalize x ++ [44] = xc at *
      go_wp2_with fail
      refine k1'.mono ?_
      rintro e w5 ⟨rfl, hb5⟩
      have hB5 := (hb5.block w.heap.size (lt_of HB4.out)).trans HB4.out
      obtain ⟨z0, z1, z2, z3, zf⟩ := cells4 hB5
      have hbw5 := HBW.out.trans (hb5.mono (show w.heap.size ≤ w4.heap.size from HW4.out.size))
      have HW5 := HW4.out.trans (hb5.mono (show w.heap.size ≤ w4.heap.size from HW4.out.size))
      obtain ⟨f0, f1, f2, f3⟩ := HE.out
      have xc5 : ∀ j : Nat, w5.cell? ⟨g, j, none⟩ = wr.cell? ⟨g, j, none⟩ := fun j => by unfold World.cell?; rw [hbw5.block g hgl]
      rw [← xc5] at f0 f1 f2 f3
      obtain ⟨b1, b2, b3⟩ := box4 hB5 (.int .i64 (sndU v).k) (.int .i64 (sndU v).n) (.string (bs (sndU v).s)) (.slice p2 (sndU v).l.length c2)
      have HB6 := Lib.hid b1
      have HW6 := Lib.hid (HW5.trans b3)
      have HR6 := Lib.hid (HR2.out.stay (hbw5.trans b3))
      have hgB : g ≠ w.heap.size := by omega
      clear hb5 hB5 hbw5 HW5 k1' xc5 HE HR2 HB4 HW4 b1 b2 b3 d0 d1 d2 d3 y0 y1 y2 y3 HBW
      go_wp2
      go_roundg (szU (sndU v))
      case measure => omega
      case rel => exact ⟨sndU v, p2, c2, _, rfl, by rw [← hcat], by omega, o2, q2, HW6, HR6, HB6, HI2⟩
    · rw [decide_eq_false hcv] at kc
      have hxx := HI.out
      rw [er_end hcv] at hxx hlen
      have kt := IH.out v hvu
      have hxz : (bs x).size ≤ 100000000 := by rw [bs_sz]; omega
      clear HI
      by_cases hn : nilU v
      · rw [if_pos hn] at hxx
        have hcat : bs x ++ (⟨#[93]⟩ : ByteArray) = bs (txT nm (er u)) := by rw [cat1, hxx]
        obtain ⟨n1, n2⟩ := hn
        have e1 : (bs v.s).toList = [91, 93] := by rw [isL]; exact n2
        generalize v.k = kv at *
        subst n1
        generalize bs v.s = sv at *
        clear hxx hlen kt n2 hcv
        go_wp2_with fail
        refine kc.mono ?_
        rintro e w4 ⟨rfl, hb4⟩
        have hB4 := (hb4.block w.heap.size (lt_of HB.out)).trans HB.out
        obtain ⟨y0, y1, y2, y3⟩ := box_cells hB4
        have HW4 := Lib.hid (HW.out.trans (hb4.mono HW.out.size))
        clear hb4 hB4 kc HB HW x0 x1 x2 x3 HR
        go_wp2
        go_ret
        exact ⟨rfl, HW4.out⟩
      · rw [if_neg hn] at hxx hlen
        simp only [List.length_cons, List.length_append, List.length_nil] at hlen
        have hl1 : (txT nm (er v)).length ≤ 100000000 := by omega
        have hlz : (bs (txT nm (er v))).size ≤ 100000000 := by rw [bs_sz]; omega
        have hcz : (bs (x ++ [124])).size ≤ 100000001 := by rw [bs_sz, List.length_append]; simp; omega
        have hcat0 := cat1 x 124
        have hcat1 : bs (x ++ [124]) ++ bs (txT nm (er v)) = bs (x ++ [124] ++ txT nm (er v)) := bs_append _ _
        have hcz2 : (bs (x ++ [124] ++ txT nm (er v))).size ≤ 200000002 := by rw [bs_sz, List.length_append, List.length_append]; simp; omega
        have hcat2 : bs (x ++ [124] ++ txT nm (er v)) ++ (⟨#[93]⟩ : ByteArray) = bs (txT nm (er u)) := by rw [cat1, ← hxx]; simp [List.append_assoc]
        have hk : v.k = 3 → ((bs v.s).toList == [91, 93]) = false ∧ ¬ (bs v.s).toList = [91, 93] := fun h3 => by rw [isL]; exact ⟨beq_eq_false_iff_ne.2 (fun e => hn ⟨h3, e⟩), fun e => hn ⟨h3, e⟩⟩
        generalize x ++ [124] ++ txT nm (er v) = X2 at *
        generalize x ++ [124] = X1 at *
        clear hxx hlen hn hcv
        by_cases h3 : v.k = 3
        · obtain ⟨h3b, h3d⟩ := hk h3
          have h3' : (v.k != 3) = false := by rw [h3]; rfl
          have h3c : (v.k == 3) = true := by rw [h3]; rfl
          clear hk h3
          go_wp2_with fail
          refine kc.mono ?_
          rintro e w4 ⟨rfl, hb4⟩
          have hB4 := (hb4.block w.heap.size (lt_of HB.out)).trans HB.out
          obtain ⟨y0, y1, y2, y3⟩ := box_cells hB4
          have HW4 := Lib.hid (HW.out.trans (hb4.mono HW.out.size))
          have kt1 := kt p cap nm _ w4 ov qv ((HR.out.stay (hb4.mono HW.out.size)).up HW4.out.size) ((HN.out.stay HW4.out).up HW4.out.size) hl1
          unfold uV at kt1
          clear hb4 hB4 kc HB HW x0 x1 x2 x3 HR kt
          go_wp2_with fail
          refine kt1.mono ?_
          rintro e w5 ⟨rfl, hb5⟩
          have HW5 := Lib.hid (HW4.out.trans (hb5.mono HW4.out.size))
          clear hb5 kt1 HW4
          go_wp2
          go_ret
          exact ⟨rfl, HW5.out⟩
        · have h3' : (v.k != 3) = true := bne_iff_ne.2 h3
          clear hk h3
          go_wp2_with fail
          refine kc.mono ?_
          rintro e w4 ⟨rfl, hb4⟩
          have hB4 := (hb4.block w.heap.size (lt_of HB.out)).trans HB.out
          obtain ⟨y0, y1, y2, y3⟩ := box_cells hB4
          have HW4 := Lib.hid (HW.out.trans (hb4.mono HW.out.size))
          have kt1 := kt p cap nm _ w4 ov qv ((HR.out.stay (hb4.mono HW.out.size)).up HW4.out.size) ((HN.out.stay HW4.out).up HW4.out.size) hl1
          unfold uV at kt1
          clear hb4 hB4 kc HB HW x0 x1 x2 x3 HR kt
          go_wp2_with fail
          refine kt1.mono ?_
          rintro e w5 ⟨rfl, hb5⟩
          have HW5 := Lib.hid (HW4.out.trans (hb5.mono HW4.out.size))
          clear hb5 kt1 HW4
          go_wp2
          go_ret
          exact ⟨rfl, HW5.out⟩
theorem rtext_all (u : U) : TxR u := by
  have key : ∀ n u, szU u ≤ n → TxR u := by
    intro n
    have step : ∀ u, (∀ v, szU v < szU u → TxR v) → TxR u := fun u ih => by
      by_cases h1 : u.k = 1
      · exact rtext_var h1
      by_cases h2 : u.k = 2
      · exact rtext_int h2
      by_cases h3 : u.k = 3
      · exact rtext_atom h3
      by_cases h4 : u.k = 4
      · by_cases hc : cellU u
        · exact rtext_list hc ih
        · exact rtext_row h4 hc ih
      · intro p cap nm a w ho
        rw [okU_iff] at ho
        exfalso; omega
    induction n with
    | zero => intro u h; exact step u fun v hv => by omega
    | succ n ih => intro u h; exact step u fun v hv => ih v (by omega)
  exact key _ u (Nat.le_refl _)
set_option maxHeartbeats 4000000 in
/-- the reference's Named -/
theorem rnamed_c {u : U} {a : Value} {p : Option Addr} {cap : Nat} {nm : List (List UInt8)} {w : World} (ha : Ru w.heap.size w u a) (hq : qnU u) (hN : NmOk nm) (hn : Nr w.heap.size w nm p cap) :
    Calls Try.prog 16 #[uV u a, .slice p nm.length cap] w fun e w' => e = .returned (.string (bs (wrX nm u))) ∧ Below w.heap.size w w' := by
  obtain ⟨pu, cu, rfl, hf, hPu⟩ := ha.parts
  have hbb := (Below.refl w.heap.size w).alloc (Nat.le_refl _) (.cells #[.int .i64 u.k, .int .i64 u.n, .string (bs u.s), .slice pu u.l.length cu] 24)
  have hbx := Lib.hid (heap_alloc_new w (.cells #[.int .i64 u.k, .int .i64 u.n, .string (bs u.s), .slice pu u.l.length cu] 24))
  have kg := rgood_c ((ha.stay hbb).up hbb.size) hq
  have HBB := Lib.hid hbb
  have HR := Lib.hid ha
  have Hq := Lib.hid hq
  have Hn := Lib.hid hn
  have HN := Lib.hid hN
  have Hfx := Lib.hid ha.fx
  have hyes := Lib.hid (wrX_yes (nm := nm) (u := u))
  have hno := Lib.hid (wrX_no (nm := nm) (u := u))
  unfold uV at kg ⊢
  clear hbb ha hq hn hN hf hPu
  by_cases hgd : goodU u
  · rw [decide_eq_true hgd] at kg
    have hlen := fx_len HN.out hgd Hq.out Hfx.out
    have kt := fun a w h1 h2 => rtext_all u p cap nm a w hgd.1 Hq.out h1 h2 (by omega)
    rw [hyes.out hgd]
    have HT := Lib.hid kt
    clear hyes hno hgd hlen kt
    generalize txT nm (er u) = X at *
    go_enter Try.func16, Try.ntmps16
    go_wp2_with fail
    refine kg.mono ?_
    rintro e w1 ⟨rfl, hb1⟩
    have hX1 := (hb1.block w.heap.size (lt_of hbx.out)).trans hbx.out
    have HB1 := Lib.hid (HBB.out.trans (hb1.mono HBB.out.size))
    obtain ⟨x0, x1, x2, x3⟩ := box_cells hX1
    have kt := HT.out _ w1 ((HR.out.stay HB1.out).up HB1.out.size) ((Hn.out.stay HB1.out).up HB1.out.size)
    unfold uV at kt
    clear hb1 kg hX1 HBB hbx HT Hq Hn HR Hfx HN
    go_wp2_with fail
    refine kt.mono ?_
    rintro e w2 ⟨rfl, hb2⟩
    have HB2 := Lib.hid (HB1.out.trans (hb2.mono HB1.out.size))
    clear hb2 kt
    go_wp2
    go_ret
    exact ⟨rfl, HB2.out⟩
  · rw [decide_eq_false hgd] at kg
    rw [hno.out hgd]
    clear hyes hno hgd Hq Hn HN Hfx HR
    go_enter Try.func16, Try.ntmps16
    go_wp2_with fail
    refine kg.mono ?_
    rintro e w1 ⟨rfl, hb1⟩
    have HB1 := Lib.hid (HBB.out.trans (hb1.mono HBB.out.size))
    clear hb1 kg
    go_wp2
    go_ret
    exact ⟨rfl, HB1.out⟩
/-- the reference's Write -/
theorem rwrite_c {u : U} {a : Value} {w : World} (ha : Ru w.heap.size w u a) (hq : qnU u) :
    Calls Try.prog 9 #[uV u a] w fun e w' => e = .returned (.string (bs (wrX [] u))) ∧ Below w.heap.size w w' := by
  obtain ⟨pu, cu, rfl, hf, hPu⟩ := ha.parts
  have hbb := (Below.refl w.heap.size w).alloc (Nat.le_refl _) (.cells #[.int .i64 u.k, .int .i64 u.n, .string (bs u.s), .slice pu u.l.length cu] 24)
  have kn := rnamed_c ((ha.stay hbb).up hbb.size) hq nm_nil (nr_nil _)
  have HBB := Lib.hid hbb
  unfold uV at kn ⊢
  rw [show ([] : List (List UInt8)).length = 0 from rfl] at kn
  generalize wrX [] u = X at *
  clear hbb ha hq hf hPu
  go_enter Try.func9, Try.ntmps9
  go_wp2_with fail
  refine kn.mono ?_
  rintro e w1 ⟨rfl, hb1⟩
  have HB1 := Lib.hid (HBB.out.trans (hb1.mono HBB.out.size))
  clear hb1 kn
  go_wp2
  go_ret
  exact ⟨rfl, HB1.out⟩
end Go.Proofs.Ytpihmockcjdafaa.wr
end
section
/- A term in memory, looked at as what stands as a term. -/
namespace Go.Proofs.Ytpihmockcjdafaa.wr
open Go.RowKit
open Go.Proofs.Ytpihmockcjdafaa.rd
open Go.Proofs.Ytpihmockcjdafaa.ls
open Go.Proofs.Ytpihmockcjdafaa.op (bs strC)
open Go.Proofs.Ytpihmockcjdafaa.lx (quoteS)
open Go.Proofs.Ytpihmockcjdafaa.nm (Fit)
set_option maxRecDepth 20000

/-! ### a term in memory is such a thing -/
mutual
def emb : T → U
  | .leaf k n s => .mk (k : Nat) n s []
  | .cmp s l => .mk 4 0 s (embL l)
def embL : List T → List U
  | [] => []
  | t :: l => emb t :: embL l
end
mutual
/-- its numbers are in 64 bits -/
def fxT : T → Prop
  | .leaf _ n _ => Fit n
  | .cmp _ l => fxL l
def fxL : List T → Prop
  | [] => True
  | t :: l => fxT t ∧ fxL l
end
theorem embL_len : ∀ (l : List T), (embL l).length = l.length
  | [] => rfl
  | t :: l => by rw [embL, List.length_cons, List.length_cons, embL_len l]
theorem emb_k (t : T) : (emb t).k = (t.k : Nat) := by cases t <;> rw [emb] <;> rfl
theorem emb_n (t : T) : (emb t).n = t.n := by cases t <;> rw [emb] <;> rfl
theorem emb_s (t : T) : (emb t).s = t.s := by cases t <;> rw [emb] <;> rfl
mutual
theorem er_emb : ∀ (t : T), okU (emb t) → er (emb t) = t
  | .leaf k n s, h => by
    rw [emb] at h ⊢
    rw [okU] at h
    rw [er]
    rcases h with ⟨h, _⟩ | h | ⟨h, _⟩ | ⟨_, _, h, _⟩
    · rw [if_neg (by omega)]; simp
    · rw [if_neg (by omega)]; simp
    · rw [if_neg (by omega)]; simp
    · exact absurd rfl h
  | .cmp s l, h => by
    rw [emb] at h ⊢
    rw [okU] at h
    rw [er, if_pos rfl]
    rcases h with ⟨h, _⟩ | h | ⟨h, _⟩ | ⟨_, _, _, h⟩
    · omega
    · omega
    · omega
    · rw [er_embL l h]
theorem er_embL : ∀ (l : List T), okUL (embL l) → erL (embL l) = l
  | [], _ => by rw [embL, erL]
  | t :: l, h => by
    rw [embL] at h ⊢
    rw [okUL] at h
    rw [erL, er_emb t h.1, er_embL l h.2]
end
theorem fit0 : Fit 0 := by unfold Fit; omega
mutual
theorem ru_emb {D : Nat → Prop} {w : World} : ∀ {t : T} {a : Value}, Rp D w t a → fxT t → Ru w.heap.size w (emb t) a
  | .leaf k n s, a, h, hf => by
    rw [Rp] at h
    rw [fxT] at hf
    rw [emb, Ru]
    exact ⟨none, 0, h, Nat.le_refl _, Nat.zero_le _, hf, by rw [Rus]; trivial⟩
  | .cmp s l, a, h, hf => by
    rw [fxT] at hf
    rw [emb, Ru]
    have hN := lenL h
    obtain ⟨p, c, rfl⟩ := shapeL h
    rw [Rp] at h
    obtain ⟨az, h1, h2, h3⟩ := h
    rcases h1.2 with ⟨e1, e2⟩ | ⟨g, cap, cur, e1, e2, e3, e4, e5, e6⟩
    · injection e1 with x1 x2 x3
      have : l = [] := List.length_eq_zero_iff.1 x2
      subst this
      exact ⟨p, c, rfl, Nat.zero_le _, by rw [x3]; exact Nat.zero_le _, fit0, by rw [embL, Rus]; trivial⟩
    · injection e1 with x1 x2 x3
      subst x1 x3
      refine ⟨_, c, by rw [embL_len], by rw [embL_len]; exact e4, e5, fit0, ?_⟩
      have hc := World.ownsRow.cells h1 (g := g) rfl
      refine rus_emb h3 hf g (lt_of e3) 0 fun i j u hj hu => ?_
      have := hc (i * 4 + j) u hu
      rw [op.addr_add] at this
      rw [Nat.zero_add]; exact this
theorem rus_emb {D : Nat → Prop} {w : World} : ∀ {l : List T} {az : List Value}, Rps D w l az → fxL l → ∀ (g : Nat), g < w.heap.size → ∀ m, (∀ i j u, j < 4 → (tvs (l.zip az))[i * 4 + j]? = some u → w.cell? ⟨g, (m + i) * 4 + j, none⟩ = some u) → Rus w.heap.size w (embL l) (some ⟨g, 0, none⟩) m
  | [], az, _, _, _, _, _, _ => by rw [embL, Rus]; trivial
  | t :: l, az, h, hf, g, hg, m, hc => by
    rw [Rps] at h
    obtain ⟨a, az', rfl, h1, h2⟩ := h
    rw [fxL] at hf
    rw [embL, Rus, emb_k, emb_n, emb_s]
    have c : ∀ j u, j < 4 → (tv t a)[j]? = some u → w.cell? ⟨g, m * 4 + j, none⟩ = some u := fun j u hj hu => by
      have := hc 0 j u hj (by rw [tvs_get _ 0 j (by simp) hj]; simpa using hu)
      rwa [Nat.add_zero] at this
    refine ⟨⟨g, 0, a, rfl, hg, ?_, ?_, ?_, ?_, ru_emb h1 hf.1⟩, rus_emb h2 hf.2 g hg (m + 1) fun i j u hj hu => ?_⟩
    · rw [Nat.zero_add]; exact c 0 _ (by omega) rfl
    · rw [Nat.zero_add]; exact c 1 _ (by omega) rfl
    · rw [Nat.zero_add]; exact c 2 _ (by omega) rfl
    · rw [Nat.zero_add]; exact c 3 _ (by omega) rfl
    · have := hc (i + 1) j u hj (by
        rw [List.zip_cons_cons, tvs, List.flatMap_cons, List.getElem?_append_right (by simp [tv]; omega), show (i + 1) * 4 + j - (tv (t, a).1 (t, a).2).length = i * 4 + j from by simp [tv]; omega]
        exact hu)
      rw [show m + 1 + i = m + (i + 1) by omega]; exact this
end
end Go.Proofs.Ytpihmockcjdafaa.wr
end
section
/- The law's own function alike: two terms that are one but for the numbers of variables. -/
namespace Go.Proofs.Ytpihmockcjdafaa.wr
open Go.RowKit
open Go.Proofs.Ytpihmockcjdafaa.rd
open Go.Proofs.Ytpihmockcjdafaa.ls
open Go.Proofs.Ytpihmockcjdafaa.op (bs strC)
open Go.Proofs.Ytpihmockcjdafaa.lx (cell_at ieq_yes ieq_no)
set_option maxRecDepth 20000

mutual
/-- no leaf says that it is a compound term -/
def nkT : T → Prop
  | .leaf k _ _ => k ≠ 4
  | .cmp _ l => nkL l
def nkL : List T → Prop
  | [] => True
  | t :: l => nkT t ∧ nkL l
end
mutual
def lvT : T → Nat
  | .leaf _ _ _ => 1
  | .cmp _ l => lvL l
def lvL : List T → Nat
  | [] => 0
  | t :: l => lvT t + lvL l
end
mutual
theorem al_len : ∀ (t u : T) (p : List (Int × Int)), p.length ≤ (alT t u p).1.length ∧ (alT t u p).1.length ≤ p.length + lvT t
  | .leaf k n s, .leaf k' n' s', p => by
    rw [alT, lvT]
    repeat' split
    all_goals simp
  | .cmp s l, .cmp s' l', p => by
    rw [alT, lvT]
    split
    · simp
    split
    · simp
    · exact al_lenL l l' p
  | .leaf _ _ _, .cmp _ _, p => by rw [alT]; simp
  | .cmp _ _, .leaf _ _ _, p => by rw [alT]; simp
theorem al_lenL : ∀ (l m : List T) (p : List (Int × Int)), p.length ≤ (alL l m p).1.length ∧ (alL l m p).1.length ≤ p.length + lvL l
  | t :: l, u :: m, p => by
    rw [alL, lvL]
    have h1 := al_len t u p
    have h2 := al_lenL l m (alT t u p).1
    split <;> (try dsimp only) <;> omega
  | [], m, p => by rw [alL]; simp
  | _ :: _, [], p => by rw [alL]; simp
end
/-- two variables -/
def alV (n m : Int) (p : List (Int × Int)) : List (Int × Int) × Bool := match lkP n m p with | some b => (p, b) | none => (p ++ [(n, m)], true)
theorem alV_some {n m : Int} {p : List (Int × Int)} {b : Bool} (h : lkP n m p = some b) : alV n m p = (p, b) := by unfold alV; rw [h]
theorem alV_none {n m : Int} {p : List (Int × Int)} (h : lkP n m p = none) : alV n m p = (p ++ [(n, m)], true) := by unfold alV; rw [h]
theorem alT_eq {t u : T} (ht : nkT t) (hu : nkT u) (p : List (Int × Int)) : alT t u p = if t.k ≠ u.k then (p, false) else if t.k = 1 then alV t.n u.n p else if t.k = 2 then (p, t.n == u.n) else
    if t.s ≠ u.s then (p, false) else if t.k = 3 then (p, true) else if (parts t).length ≠ (parts u).length then (p, false) else alL (parts t) (parts u) p := by
  match t, u with
  | .leaf k n s, .leaf k' n' s' =>
    rw [alT]
    show _ = if k ≠ k' then _ else if k = 1 then _ else if k = 2 then (p, n == n') else if s ≠ s' then _ else if k = 3 then _ else if ([] : List T).length ≠ ([] : List T).length then _ else alL [] [] p
    split
    · rfl
    split
    · unfold alV; rfl
    split
    · rfl
    rw [if_neg (show ¬ ([] : List T).length ≠ ([] : List T).length from fun h => h rfl), alL]
    split
    · rename_i h; rw [beq_eq_false_iff_ne.2 h]
    · rename_i h
      have : s = s' := Classical.not_not.1 h
      rw [this]; simp
  | .cmp s l, .cmp s' l' =>
    rw [alT]
    show _ = if (4 : Nat) ≠ 4 then _ else if (4 : Nat) = 1 then _ else if (4 : Nat) = 2 then _ else if s ≠ s' then _ else if (4 : Nat) = 3 then _ else if l.length ≠ l'.length then _ else alL l l' p
    rw [if_neg (show ¬ (4 : Nat) ≠ 4 from fun h => h rfl), if_neg (show ¬ (4 : Nat) = 1 by decide), if_neg (show ¬ (4 : Nat) = 2 by decide), if_neg (show ¬ (4 : Nat) = 3 by decide)]
  | .leaf k n s, .cmp s' l' =>
    rw [alT]
    rw [nkT] at ht
    show _ = if k ≠ 4 then _ else _
    rw [if_pos ht]
  | .cmp s l, .leaf k n s' =>
    rw [alT]
    rw [nkT] at hu
    show _ = if 4 ≠ k then _ else _
    rw [if_pos (fun e => hu e.symm)]
theorem alL_drop {l m : List T} {i : Nat} (hi : i < l.length) (hm : i < m.length) (p : List (Int × Int)) : alL (l.drop i) (m.drop i) p = if (alT (l.getD i dfT) (m.getD i dfT) p).2 = true then alL (l.drop (i + 1)) (m.drop (i + 1)) (alT (l.getD i dfT) (m.getD i dfT) p).1 else ((alT (l.getD i dfT) (m.getD i dfT) p).1, false) := by
  rw [List.drop_eq_getElem_cons hi, List.drop_eq_getElem_cons hm, alL]; simp [hi, hm]
/-- pairs in memory -/
def pcs (ps : List (Int × Int)) : List Value := ps.flatMap fun x => [.int .i64 x.1, .int .i64 x.2]
theorem pcs_len (ps : List (Int × Int)) : (pcs ps).length = ps.length * 2 := by
  induction ps with
  | nil => rfl
  | cons x ps ih => rw [pcs, List.flatMap_cons, List.length_append, List.length_cons]; rw [pcs] at ih; rw [ih]; simp; omega
theorem pcs_get (ps : List (Int × Int)) (i : Nat) (hi : i < ps.length) : (pcs ps)[i * 2]? = some (.int .i64 ps[i].1) ∧ (pcs ps)[i * 2 + 1]? = some (.int .i64 ps[i].2) := by
  induction ps generalizing i with
  | nil => exact absurd hi (Nat.not_lt_zero _)
  | cons x ps ih =>
    cases i with
    | zero => exact ⟨rfl, rfl⟩
    | succ i =>
      have := ih i (by simpa using hi)
      rw [pcs, List.flatMap_cons, show (i + 1) * 2 = i * 2 + 2 by omega]
      rw [pcs] at this
      refine ⟨?_, ?_⟩
      · rw [List.getElem?_append_right (by simp)]; simpa using this.1
      · rw [List.getElem?_append_right (by simp)]; simpa [show i * 2 + 2 + 1 - 2 = i * 2 + 1 by omega] using this.2
theorem pcs_append (a b : List (Int × Int)) : pcs (a ++ b) = pcs a ++ pcs b := by simp [pcs]
def Pw (B : Nat) (w : World) (v : Value) (ps : List (Int × Int)) : Prop := w.ownsRow B 43 2 v ps.length (pcs ps)
theorem pair_info : (Try.prog.info? 43).map (fun i => (i.zero, i.size, i.bytes)) = some (some (.agg #[.int .i64 0, .int .i64 0]), 2, 16) := by kernel_rfl
theorem Pw.stay {B : Nat} {w w' : World} {v : Value} {ps : List (Int × Int)} (h : Pw B w v ps) (hb : Below w.heap.size w w') : Pw B w' v ps := own_kept h (Kt.below hb)
theorem Pw.shape {B : Nat} {w : World} {v : Value} {ps : List (Int × Int)} (h : Pw B w v ps) : (v = .slice none 0 0 ∧ ps = []) ∨ ∃ g cap, v = .slice (some ⟨g, 0, none⟩) ps.length cap ∧ ps.length ≤ cap ∧ g < w.heap.size ∧ ∀ i, (hi : i < ps.length) → w.cell? ⟨g, i * 2, none⟩ = some (.int .i64 ps[i].1) ∧ w.cell? ⟨g, i * 2 + 1, none⟩ = some (.int .i64 ps[i].2) := by
  rcases h.2 with ⟨h1, h2⟩ | ⟨g, cap, cur, h1, h2, h3, h4, h5, _⟩
  · exact .inl ⟨h1, List.length_eq_zero_iff.1 h2⟩
  · right
    have hc := World.ownsRow.cells h (g := g) (by rw [h1]; rfl)
    refine ⟨g, cap, h1, h4, lt_of h3, fun i hi => ?_⟩
    obtain ⟨a1, a2⟩ := pcs_get ps i hi
    have b1 := hc _ _ a1
    have b2 := hc _ _ a2
    rw [op.addr_add] at b1 b2
    exact ⟨b1, b2⟩
end Go.Proofs.Ytpihmockcjdafaa.wr
end
