/- What a call of a term's function meets: boxes, frames; the law's own same and sames.; The reference's Size, Depth.; The program's each: a closure that goes through all parts of a term and tells each.; The program's Size, Depth.; The reference's has, Vars; the law's own sameInts. -/
import Derived.Test.YtjccohcigopdfaaQ21
import Derived.Test.YtjccohcigopdfaaQ3
import Derived.Deep.RegionHeld3
import Derived.BigQuiet
import Derived.Shelf.Abstract
import Derived.Laws.AppendOwnNone
import Derived.Deep.Onto
import Derived.Deep.AppendLies
set_option linter.unusedVariables false
set_option linter.unusedSimpArgs false
section
/- What a call of a term's function meets: boxes, frames; the law's own same and sames. -/
namespace Go.Proofs.Ytjccohcigopdfaa.tm
open Go.RowKit
open Go.Proofs.Ytjccohcigopdfaa.wr
open Go.Proofs.Ytjccohcigopdfaa.rd
open Go.Proofs.Ytjccohcigopdfaa.op (bs strC)
open Go.Proofs.Ytjccohcigopdfaa.lx (cell_at)
open Go.Proofs.Ytjccohcigopdfaa.nm (Fit)
set_option maxRecDepth 20000

theorem dN (B : Nat) (W : World) (k : Nat) : Below B W (W.drewN k) := ⟨rfl, rfl, rfl, Nat.le_refl _, fun _ _ => rfl⟩
theorem sizeA (w : World) (o : Obj) : (w.alloc o).heap.size = w.heap.size + 1 := by simp
theorem allocB (w : World) (o : Obj) : Below w.heap.size w (w.alloc o) := (Below.refl _ w).alloc (Nat.le_refl _) o
theorem box2 (w : World) (o1 o2 : Obj) : ((w.alloc o1).alloc o2).heap[w.heap.size]? = some o1 ∧ ((w.alloc o1).alloc o2).heap[w.heap.size + 1]? = some o2 ∧ ((w.alloc o1).alloc o2).heap.size = w.heap.size + 1 + 1 ∧ Below w.heap.size w ((w.alloc o1).alloc o2) := by
  refine ⟨(Lib.alloc_old _ o2 _ (by simp)).trans (heap_alloc_new w o1), ?_, by simp, (allocB w o1).alloc (by simp) o2⟩
  have := heap_alloc_new (w.alloc o1) o2
  rwa [sizeA] at this
theorem isL (x : List UInt8) : (bs x).toList = x := by rw [ByteArray.toList_eq]; rfl
theorem bs_beq {x y : List UInt8} : ((bs x).toList == (bs y).toList) = decide (x = y) := by
  rw [isL, isL]
  by_cases h : x = y
  · subst h; simp
  · simp [h]
noncomputable instance : DecidableEq U := fun a b => Classical.propDecidable (a = b)
theorem u_eq (u v : U) : u = v ↔ u.k = v.k ∧ u.n = v.n ∧ u.s = v.s ∧ u.l = v.l := by
  cases u; cases v
  show _ ↔ _ = _ ∧ _ = _ ∧ _ = _ ∧ _ = _
  constructor
  · intro h; cases h; exact ⟨rfl, rfl, rfl, rfl⟩
  · rintro ⟨h1, h2, h3, h4⟩
    dsimp only [U.k, U.n, U.s, U.l] at h1 h2 h3 h4
    subst h1 h2 h3 h4; rfl
/-- a row's part as the walk finds it -/
theorem at_pu {b i : Nat} {w : World} {l : List U} {p : Option Addr} {cap : Nat} (h : Pu b w l p cap) (hi : i < l.length) : ∃ (g o : Nat) (q : Option Addr) (c : Nat), p = some ⟨g, o, none⟩ ∧ g < b ∧ w.cell? ⟨g, o + i * 4, none⟩ = some (.int .i64 (l.getD i dfU).k) ∧ w.cell? ⟨g, o + i * 4 + 1, none⟩ = some (.int .i64 (l.getD i dfU).n) ∧
      w.cell? ⟨g, o + i * 4 + 2, none⟩ = some (.string (bs (l.getD i dfU).s)) ∧ w.cell? ⟨g, o + i * 4 + 3, none⟩ = some (.slice q (l.getD i dfU).l.length c) ∧ Ru b w (l.getD i dfU) (.slice q (l.getD i dfU).l.length c) := by
  obtain ⟨g, o, a, h1, h2, h3, h4, h5, h6, h7⟩ := h.el i hi
  obtain ⟨q, c, rfl, _⟩ := h7.opened
  exact ⟨g, o, q, c, h1, h2, h3, h4, h5, h6, h7⟩
theorem all_parts {P : U → Prop} (step : ∀ u, (∀ i, i < u.l.length → P (u.l.getD i dfU)) → P u) (u : U) : P u := by
  have key : ∀ n u, SizeOf.sizeOf u ≤ n → P u := by
    intro n
    induction n with
    | zero => intro u h; exact step u fun i hi => absurd (part_size hi) (by omega)
    | succ n ih => intro u h; exact step u fun i hi => ih _ (by have := part_size hi; omega)
  exact key _ u (Nat.le_refl _)

/-! ### same, sames -/
abbrev SameOk (u : U) : Prop := ∀ (v : U) (a c : Value) (w : World), Ru w.heap.size w u a → Ru w.heap.size w v c →
  Calls Try.prog 11 #[uV u a, uV v c] w fun e w' => e = .returned (.bool (decide (u = v))) ∧ Below w.heap.size w w'
abbrev SamesOk (l : List U) : Prop := ∀ (m : List U) (p q : Option Addr) (c d : Nat) (w : World), Pu w.heap.size w l p c → Pu w.heap.size w m q d →
  Calls Try.prog 27 #[.slice p l.length c, .slice q m.length d] w fun e w' => e = .returned (.bool (decide (l = m))) ∧ Below w.heap.size w w'
set_option maxHeartbeats 4000000 in
theorem sames_step (l : List U) (ih : ∀ i, i < l.length → SameOk (l.getD i dfU)) : SamesOk l := by
  intro m p q c d w hP hQ
  have hl := hP.max
  have hl' := hP.le
  have hm := hQ.max
  have hm' := hQ.le
  unfold maxLen at hl hm
  have HP := Lib.hid hP
  have HQ := Lib.hid hQ
  have IH := Lib.hid ih
  clear hP hQ ih
  by_cases hlen : l.length = m.length
  · have e4 : ((l.length : Int) != (m.length : Int)) = false := by rw [hlen]; simp
    have e4' : ((l.length : Int) == (m.length : Int)) = true := by rw [hlen]; simp
    generalize hB : decide (l = m) = B
    have HB : Hid (l = m ↔ B = true) := Lib.hid (by rw [← hB]; simp)
    have Hlen := Lib.hid hlen
    clear hB hlen
    go_enter Try.func27, Try.ntmps27
    go_wp2
    clear e4 e4'
    go_loopg [5] l.length (fun k v wr => ∃ i : Nat, k = l.length - i ∧ i ≤ l.length ∧ v = .int .i64 i ∧ Hid (Below w.heap.size w wr) ∧ Hid (l.take i = m.take i))
    case atStart => exact ⟨0, by omega, by omega, rfl, Lib.hid (Below.refl _ _), Lib.hid rfl⟩
    case round =>
      obtain ⟨i, hgk, hi, rfl, HW, HT⟩ := hrel
      by_cases hlt : i < l.length
      · have hlt2 : (i : Int) < l.length := by omega
        have hlt3 : i < m.length := by have := Hlen.out; omega
        have hlt4 : (i : Int) < m.length := by omega
        have i4 : (0 : Int) ≤ (i : Int) := by omega
        obtain ⟨g, o, p', c', hpe, hgl, d0, d1, d2, d3, hR⟩ := at_pu (HP.out.stay HW.out) hlt
        obtain ⟨g', o', q', d', hqe, hgl', f0, f1, f2, f3, hR'⟩ := at_pu (HQ.out.stay HW.out) hlt3
        subst hpe hqe
        have kx := fun n => IH.out i hlt (m.getD i dfU) _ _ (wr.drewN n) ((hR.stay (dN _ _ n)).up HW.out.size) ((hR'.stay (dN _ _ n)).up HW.out.size)
        have hbk : Hid (∀ w2, Below wr.heap.size wr w2 → ∀ (q : Nat), q < wr.heap.size → ∀ (j : Nat), w2.cell? ⟨q, j, none⟩ = wr.cell? ⟨q, j, none⟩) := Lib.hid fun w2 h q hq j => World.cell?_of_block (h.block q hq)
        have hg1 : g < wr.heap.size := Nat.lt_of_lt_of_le hgl HW.out.size
        have hg2 : g' < wr.heap.size := Nat.lt_of_lt_of_le hgl' HW.out.size
        have HX : Hid (l.take (i + 1) = m.take (i + 1) ↔ l.getD i dfU = m.getD i dfU) := Lib.hid (by
          rw [List.take_succ_eq_append_getElem hlt, List.take_succ_eq_append_getElem hlt3, HT.out, List.append_cancel_left_eq]
          simp [hlt, hlt3])
        have HY : Hid (l.getD i dfU ≠ m.getD i dfU → B = false) := Lib.hid fun h => by
          cases B with
          | false => rfl
          | true => exact absurd (by rw [HB.out.2 rfl]) h
        clear hR hR' HP HQ IH
        generalize l.getD i dfU = x at *
        generalize m.getD i dfU = y at *
        generalize hxy : decide (x = y) = r at *
        unfold uV at kx
        go_wp2_with fail
        go_region_held3 (fun w' => w'.cell? ⟨g, o + i * 4, none⟩ = some (.int .i64 x.k) ∧ w'.cell? ⟨g, o + i * 4 + 1, none⟩ = some (.int .i64 x.n) ∧ w'.cell? ⟨g, o + i * 4 + 2, none⟩ = some (.string (bs x.s)) ∧ w'.cell? ⟨g, o + i * 4 + 3, none⟩ = some (.slice p' x.l.length c') ∧
          w'.cell? ⟨g', o' + i * 4, none⟩ = some (.int .i64 y.k) ∧ w'.cell? ⟨g', o' + i * 4 + 1, none⟩ = some (.int .i64 y.n) ∧ w'.cell? ⟨g', o' + i * 4 + 2, none⟩ = some (.string (bs y.s)) ∧ w'.cell? ⟨g', o' + i * 4 + 3, none⟩ = some (.slice q' y.l.length d'))
          (first | exact ⟨(q1 _ hg1 _).trans d0, (q1 _ hg1 _).trans d1, (q1 _ hg1 _).trans d2, (q1 _ hg1 _).trans d3, (q1 _ hg2 _).trans f0, (q1 _ hg2 _).trans f1, (q1 _ hg2 _).trans f2, (q1 _ hg2 _).trans f3⟩ | go_keep)
          ((go_at_call 11; (refine (kx _).mono ?_); rintro en w2 ⟨rfl, hb⟩; have HW2 := Lib.hid ((dN wr.heap.size wr _).trans hb); have q1 := hbk.out w2 HW2.out; clear hb))
        all_goals
          clear kx
          cases r with
          | true =>
            have hx : x = y := by simpa using hxy
            clear hxy
            go_wp2
            go_roundg (l.length - (i + 1))
            case measure => omega
            case rel => exact ⟨i + 1, rfl, by omega, by go_num, Lib.hid (HW.out.trans (HW2.out.mono HW.out.size)), Lib.hid (HX.out.2 hx)⟩
          | false =>
            have hx : x ≠ y := by simpa using hxy
            have hBf := HY.out hx
            subst hBf
            clear hxy
            go_wp2
            go_ret
            exact ⟨rfl, HW.out.trans (HW2.out.mono HW.out.size)⟩
      · have hlt2 : ¬ ((i : Int) < l.length) := by omega
        have hBt : B = true := HB.out.1 (by
          have h1 := HT.out
          have h2 := Hlen.out
          rwa [List.take_of_length_le (by omega), List.take_of_length_le (by omega)] at h1)
        subst hBt
        go_wp2
        go_ret
        exact ⟨rfl, HW.out⟩
  · have e4 : ((l.length : Int) != (m.length : Int)) = true := bne_iff_ne.2 (by omega)
    have e5 : decide (l = m) = false := by simp; intro h; exact hlen (by rw [h])
    rw [e5]
    clear e5
    go_enter Try.func27, Try.ntmps27
    go_wp2
    go_ret
    exact ⟨rfl, Below.refl _ _⟩
set_option maxHeartbeats 4000000 in
theorem same_step (u : U) (ih : SamesOk u.l) : SameOk u := by
  intro v a c w ha hc
  obtain ⟨p, cap, rfl, _, hP⟩ := ha.parts
  obtain ⟨q, cap', rfl, _, hQ⟩ := hc.parts
  obtain ⟨b0, b1, bz, bb⟩ := box2 w (.cells #[.int .i64 u.k, .int .i64 u.n, .string (bs u.s), .slice p u.l.length cap] 25) (.cells #[.int .i64 v.k, .int .i64 v.n, .string (bs v.s), .slice q v.l.length cap'] 25)
  obtain ⟨x0, x1, x2, x3, _⟩ := cells4 b0
  obtain ⟨y0, y1, y2, y3, _⟩ := cells4 b1
  have ks := ih v.l p q cap cap' _ ((hP.stay bb).up bb.size) ((hQ.stay bb).up bb.size)
  have HB := Lib.hid bb
  have hE : Hid (decide (u = v) = (decide (u.k = v.k) && decide (u.n = v.n) && decide (u.s = v.s) && decide (u.l = v.l))) := Lib.hid (by
    rw [Bool.eq_iff_iff]; simp [u_eq u v, and_assoc])
  generalize decide (u = v) = r at *
  generalize decide (u.l = v.l) = r4 at *
  have hs := bs_beq (x := u.s) (y := v.s)
  generalize decide (u.s = v.s) = r3 at *
  have hk : (u.k == v.k) = decide (u.k = v.k) := by by_cases h : u.k = v.k <;> simp [h]
  have hn : (u.n == v.n) = decide (u.n = v.n) := by by_cases h : u.n = v.n <;> simp [h]
  generalize decide (u.k = v.k) = r1 at *
  generalize decide (u.n = v.n) = r2 at *
  unfold uV
  clear ha hc hP hQ b0 b1 ih bb
  generalize u.l.length = l1 at *
  generalize v.l.length = l2 at *
  generalize bs u.s = s1 at *
  generalize bs v.s = s2 at *
  generalize u.k = k1 at *
  generalize v.k = k2 at *
  generalize u.n = n1 at *
  generalize v.n = n2 at *
  have he := hE.out
  clear hE
  cases r1
  · obtain rfl : r = false := by rw [he]; rfl
    clear ks he
    go_enter Try.func11, Try.ntmps11
    go_wp2
    go_ret
    exact ⟨rfl, HB.out⟩
  cases r2
  · obtain rfl : r = false := by rw [he]; rfl
    clear ks he
    go_enter Try.func11, Try.ntmps11
    go_wp2
    go_ret
    exact ⟨rfl, HB.out⟩
  cases r3
  · obtain rfl : r = false := by rw [he]; rfl
    clear ks he
    go_enter Try.func11, Try.ntmps11
    go_wp2
    go_ret
    exact ⟨rfl, HB.out⟩
  obtain rfl : r = r4 := by rw [he]; rfl
  clear he
  go_enter Try.func11, Try.ntmps11
  go_wp2_with fail
  refine ks.mono ?_
  rintro e w2 ⟨rfl, hb⟩
  have HB2 := Lib.hid (HB.out.trans (hb.mono HB.out.size))
  clear hb ks
  go_wp2
  go_ret
  exact ⟨rfl, HB2.out⟩
theorem same_c (u : U) : SameOk u := all_parts (P := SameOk) (fun u ih => same_step u (sames_step u.l ih)) u
theorem sames_c (l : List U) : SamesOk l := sames_step l fun _ _ => same_c _
end Go.Proofs.Ytjccohcigopdfaa.tm
end
section
/- The reference's Size, Depth. -/
namespace Go.Proofs.Ytjccohcigopdfaa.tm
open Go.RowKit
open Go.Proofs.Ytjccohcigopdfaa.wr
open Go.Proofs.Ytjccohcigopdfaa.rd
open Go.Proofs.Ytjccohcigopdfaa.op (bs strC)
open Go.Proofs.Ytjccohcigopdfaa.lx (cell_at)
open Go.Proofs.Ytjccohcigopdfaa.nm (Fit)
set_option maxRecDepth 20000

theorem szUL_at {l : List U} {i : Nat} (hi : i < l.length) : szUL (l.drop i) = szU (l.getD i dfU) + szUL (l.drop (i + 1)) := by rw [drop_cons hi, szUL]
theorem dpL_at {l : List U} {i : Nat} (hi : i < l.length) : dpL (l.drop i) = max (dpU (l.getD i dfU)) (dpL (l.drop (i + 1))) := by rw [drop_cons hi, dpL]
theorem szUL_drop (l : List U) (i : Nat) : szUL (l.drop i) ≤ szUL l := by
  induction l generalizing i with
  | nil => simp
  | cons u l ih =>
    cases i with
    | zero => exact Nat.le_refl _
    | succ i => have := ih i; rw [List.drop_succ_cons, szUL]; omega
theorem sz_part {u : U} (h4 : u.k = 4) {i : Nat} (hi : i < u.l.length) : szU (u.l.getD i dfU) < szU u := by
  have h1 := szUL_at hi
  have h2 := szUL_drop u.l i
  rw [szU_eq u, if_pos h4]; omega
abbrev SizeOk (u : U) : Prop := ∀ (a : Value) (w : World), Ru w.heap.size w u a → szU u ≤ 100000 →
  Calls Try.prog 17 #[uV u a] w fun e w' => e = .returned (.int .i64 (szU u : Nat)) ∧ Below w.heap.size w w'
set_option maxHeartbeats 4000000 in
theorem size_step (u : U) (ih : ∀ i, i < u.l.length → SizeOk (u.l.getD i dfU)) : SizeOk u := by
  intro a w ha hz
  obtain ⟨p, cap, rfl, _, hP⟩ := ha.parts
  have hl := hP.max
  have hl' := hP.le
  unfold maxLen at hl
  have b0 := heap_alloc_new w (.cells #[.int .i64 u.k, .int .i64 u.n, .string (bs u.s), .slice p u.l.length cap] 25)
  have bb := allocB w (.cells #[.int .i64 u.k, .int .i64 u.n, .string (bs u.s), .slice p u.l.length cap] 25)
  have hS := szU_eq u
  have HP := Lib.hid hP
  have HB := Lib.hid bb
  have HB0 := Lib.hid b0
  have IH := Lib.hid ih
  have hsp0 : u.k = 4 → ∀ i, i < u.l.length → szU (u.l.getD i dfU) < szU u := fun h i hi => sz_part h hi
  unfold uV
  clear ha hP ih b0 bb
  generalize hl3 : u.l = l at *
  clear hl3
  generalize bs u.s = s1 at *
  generalize u.n = n1 at *
  by_cases h4 : u.k = 4
  · rw [if_pos h4] at hS
    have hsp := Lib.hid (hsp0 h4)
    have HS := Lib.hid hS
    generalize szU u = z at *
    generalize u.k = k1 at *
    subst h4
    clear hS hsp0
    go_enter Try.func17, Try.ntmps17
    go_wp2
    generalize World.alloc w _ = W at *
    go_loopg [3, 4] l.length (fun k v3 v4 wr => ∃ i m : Nat, k = l.length - i ∧ i ≤ l.length ∧ v3 = .int .i64 (m : Nat) ∧ v4 = .int .i64 i ∧ m ≤ 100000 ∧ Hid (Below W.heap.size W wr) ∧ Hid (m + szUL (l.drop i) = z))
    case atStart => exact ⟨0, 1, by omega, by omega, rfl, rfl, by omega, Lib.hid (Below.refl _ _), Lib.hid HS.out.symm⟩
    case round =>
      obtain ⟨i, m, hgk, hi, rfl, rfl, hm, HW, HM⟩ := hrel
      have hbo := (HW.out.block w.heap.size (lt_of HB0.out)).trans HB0.out
      obtain ⟨x0, x1, x2, x3, _⟩ := cells4 hbo
      clear hbo
      by_cases hlt : i < l.length
      · have hlt2 : (i : Int) < l.length := by omega
        have i4 : (0 : Int) ≤ (i : Int) := by omega
        have hww : Below w.heap.size w wr := HB.out.trans (HW.out.mono HB.out.size)
        obtain ⟨g, o, p', c', hpe, hgl, d0, d1, d2, d3, hR⟩ := at_pu (HP.out.stay hww) hlt
        subst hpe
        have h1 := hsp.out i hlt
        have kx := IH.out i hlt _ wr (hR.up hww.size) (by omega)
        have h2 := HM.out
        rw [szUL_at hlt] at h2
        have HM2 : Hid (m + szU (l.getD i dfU) + szUL (l.drop (i + 1)) = z) := Lib.hid (by omega)
        have h3 : m + szU (l.getD i dfU) ≤ 100000 := by omega
        generalize hzx : szU (l.getD i dfU) = zx at *
        clear hzx
        generalize l.getD i dfU = x at *
        unfold uV at kx
        clear hR hww h2 HM h1 hsp
        go_wp2_with fail
        refine kx.mono ?_
        rintro en w2 ⟨rfl, hb⟩
        have HW2 := Lib.hid (HW.out.trans (hb.mono HW.out.size))
        clear hb kx
        go_wp2
        go_roundg (l.length - (i + 1))
        case measure => omega
        case rel => exact ⟨i + 1, m + zx, rfl, by omega, by go_num, by go_num, h3, HW2, HM2⟩
      · have hlt2 : ¬ ((i : Int) < l.length) := by omega
        have hz2 : m = z := by have := HM.out; rw [List.drop_eq_nil_of_le (by omega), szUL] at this; omega
        subst hz2
        go_wp2
        go_ret
        exact ⟨rfl, HB.out.trans (HW.out.mono HB.out.size)⟩
  · rw [if_neg h4] at hS
    have e4 : (u.k == 4) = false := by simp [h4]
    generalize szU u = z at *
    obtain rfl : z = 1 := by omega
    generalize u.k = k1 at *
    clear hS hsp0 IH HP
    go_enter Try.func17, Try.ntmps17
    go_wp2
    generalize World.alloc w _ = W at *
    go_loopg [3, 4] 0 (fun k v3 v4 wr => v3 = .int .i64 1 ∧ v4 = .int .i64 0 ∧ Hid (Below W.heap.size W wr))
    case atStart => exact ⟨rfl, rfl, Lib.hid (Below.refl _ _)⟩
    case round =>
      obtain ⟨rfl, rfl, HW⟩ := hrel
      have hbo := (HW.out.block w.heap.size (lt_of HB0.out)).trans HB0.out
      obtain ⟨x0, x1, x2, x3, _⟩ := cells4 hbo
      clear hbo
      go_wp2
      go_ret
      exact ⟨rfl, HB.out.trans (HW.out.mono HB.out.size)⟩
theorem rsize_c (u : U) : SizeOk u := all_parts (P := SizeOk) size_step u
abbrev DepthOk (u : U) : Prop := ∀ (a : Value) (w : World), Ru w.heap.size w u a → szU u ≤ 100000 →
  Calls Try.prog 18 #[uV u a] w fun e w' => e = .returned (.int .i64 (dpU u : Nat)) ∧ Below w.heap.size w w'
set_option maxHeartbeats 4000000 in
theorem depth_step (u : U) (ih : ∀ i, i < u.l.length → DepthOk (u.l.getD i dfU)) : DepthOk u := by
  intro a w ha hz
  obtain ⟨p, cap, rfl, _, hP⟩ := ha.parts
  have hl := hP.max
  have hl' := hP.le
  unfold maxLen at hl
  have b0 := heap_alloc_new w (.cells #[.int .i64 u.k, .int .i64 u.n, .string (bs u.s), .slice p u.l.length cap] 25)
  have bb := allocB w (.cells #[.int .i64 u.k, .int .i64 u.n, .string (bs u.s), .slice p u.l.length cap] 25)
  have hD := dpU_eq u
  have hdz := dp_sz u
  have HP := Lib.hid hP
  have HB := Lib.hid bb
  have HB0 := Lib.hid b0
  have IH := Lib.hid ih
  have hsp0 : u.k = 4 → ∀ i, i < u.l.length → szU (u.l.getD i dfU) < szU u := fun h i hi => sz_part h hi
  unfold uV
  clear ha hP ih b0 bb
  generalize hl3 : u.l = l at *
  clear hl3
  generalize bs u.s = s1 at *
  generalize u.n = n1 at *
  by_cases h4 : u.k = 4
  · rw [if_pos h4] at hD
    have hsp := Lib.hid (fun i hi => Nat.le_trans (Nat.le_of_lt (hsp0 h4 i hi)) hz)
    have HD := Lib.hid hD
    generalize dpU u = z at *
    generalize u.k = k1 at *
    have hz2 : z ≤ 100000 := by omega
    subst h4
    clear hD hsp0
    go_enter Try.func18, Try.ntmps18
    go_wp2
    generalize World.alloc w _ = W at *
    go_loopg [3, 4] l.length (fun k v3 v4 wr => ∃ i m : Nat, k = l.length - i ∧ i ≤ l.length ∧ v3 = .int .i64 (m : Nat) ∧ v4 = .int .i64 i ∧ m ≤ 100000 ∧ Hid (Below W.heap.size W wr) ∧ Hid (1 + max m (dpL (l.drop i)) = z))
    case atStart => exact ⟨0, 0, by omega, by omega, rfl, rfl, by omega, Lib.hid (Below.refl _ _), Lib.hid (by rw [HD.out]; simp)⟩
    case round =>
      obtain ⟨i, m, hgk, hi, rfl, rfl, hm, HW, HM⟩ := hrel
      have hbo := (HW.out.block w.heap.size (lt_of HB0.out)).trans HB0.out
      obtain ⟨x0, x1, x2, x3, _⟩ := cells4 hbo
      clear hbo
      by_cases hlt : i < l.length
      · have hlt2 : (i : Int) < l.length := by omega
        have i4 : (0 : Int) ≤ (i : Int) := by omega
        have hww : Below w.heap.size w wr := HB.out.trans (HW.out.mono HB.out.size)
        obtain ⟨g, o, p', c', hpe, hgl, d0, d1, d2, d3, hR⟩ := at_pu (HP.out.stay hww) hlt
        subst hpe
        have kx := IH.out i hlt _ wr (hR.up hww.size) (hsp.out i hlt)
        have h2 := HM.out
        rw [dpL_at hlt] at h2
        have HM2 : Hid (1 + max (max m (dpU (l.getD i dfU))) (dpL (l.drop (i + 1))) = z) := Lib.hid (by omega)
        have h3 : max m (dpU (l.getD i dfU)) ≤ 100000 := by omega
        generalize hzx : dpU (l.getD i dfU) = zx at *
        clear hzx
        generalize l.getD i dfU = x at *
        unfold uV at kx
        have hmx : ∀ (ty : TypeId) (w : World), (Builtin.max_ #[3, 3] ty #[.int .i64 (m : Nat), .int .i64 (zx : Nat)]).run Try.prog w = .ok (.int .i64 (max m zx : Nat)) w := fun ty w => by
          simp [Builtin.max_, Builtin.max2]
          split <;> omega
        clear hR hww h2 HM hsp
        go_wp2_with fail
        refine kx.mono ?_
        rintro en w2 ⟨rfl, hb⟩
        have HW2 := Lib.hid (HW.out.trans (hb.mono HW.out.size))
        clear hb kx
        go_wp2
        go_roundg (l.length - (i + 1))
        case measure => omega
        case rel => exact ⟨i + 1, max m zx, rfl, by omega, by go_num, by go_num, h3, HW2, HM2⟩
      · have hlt2 : ¬ ((i : Int) < l.length) := by omega
        have hz2 : m + 1 = z := by have := HM.out; rw [List.drop_eq_nil_of_le (by omega), dpL] at this; omega
        subst hz2
        go_wp2
        go_ret
        exact ⟨rfl, HB.out.trans (HW.out.mono HB.out.size)⟩
  · rw [if_neg h4] at hD
    have e4 : (u.k == 4) = false := by simp [h4]
    generalize dpU u = z at *
    obtain rfl : z = 1 := by omega
    generalize u.k = k1 at *
    clear hD hsp0 IH HP
    go_enter Try.func18, Try.ntmps18
    go_wp2
    generalize World.alloc w _ = W at *
    go_loopg [3, 4] 0 (fun k v3 v4 wr => v3 = .int .i64 0 ∧ v4 = .int .i64 0 ∧ Hid (Below W.heap.size W wr))
    case atStart => exact ⟨rfl, rfl, Lib.hid (Below.refl _ _)⟩
    case round =>
      obtain ⟨rfl, rfl, HW⟩ := hrel
      have hbo := (HW.out.block w.heap.size (lt_of HB0.out)).trans HB0.out
      obtain ⟨x0, x1, x2, x3, _⟩ := cells4 hbo
      clear hbo
      go_wp2
      go_ret
      exact ⟨rfl, HB.out.trans (HW.out.mono HB.out.size)⟩
theorem rdepth_c (u : U) : DepthOk u := all_parts (P := DepthOk) depth_step u
end Go.Proofs.Ytjccohcigopdfaa.tm
end
section
/- The program's each: a closure that goes through all parts of a term and tells each. -/
namespace Go.Proofs.Ytjccohcigopdfaa.tm
open Go.RowKit
open Go.Proofs.Ytjccohcigopdfaa.wr
open Go.Proofs.Ytjccohcigopdfaa.rd
open Go.Proofs.Ytjccohcigopdfaa.op (bs strC)
open Go.Proofs.Ytjccohcigopdfaa.lx (cell_at)
open Go.Proofs.Ytjccohcigopdfaa.nm (Fit)
set_option maxRecDepth 20000

/-! ### frames: all but the blocks of S is as it was -/
structure Fx (S : Nat → Prop) (w w' : World) : Prop where
  os : w'.os = w.os
  tape : w'.tape = w.tape
  output : w'.output = w.output
  size : w.heap.size ≤ w'.heap.size
  block : ∀ k, k < w.heap.size → ¬ S k → w'.heap[k]? = w.heap[k]?
section
variable {S S' : Nat → Prop} {w w' w'' : World}
theorem Fx.refl (S : Nat → Prop) (w : World) : Fx S w w := ⟨rfl, rfl, rfl, Nat.le_refl _, fun _ _ _ => rfl⟩
theorem Fx.trans (h : Fx S w w') (k : Fx S w' w'') : Fx S w w'' :=
  ⟨k.os.trans h.os, k.tape.trans h.tape, k.output.trans h.output, Nat.le_trans h.size k.size, fun j hj hn => (k.block j (Nat.lt_of_lt_of_le hj h.size) hn).trans (h.block j hj hn)⟩
theorem Fx.of (h : Below w.heap.size w w') : Fx S w w' := ⟨h.os, h.tape, h.output, h.size, fun k hk _ => h.block k hk⟩
theorem Fx.imp (h : Fx S w w') (hs : ∀ k, S k → S' k) : Fx S' w w' := ⟨h.os, h.tape, h.output, h.size, fun k hk hn => h.block k hk fun e => hn (hs k e)⟩
theorem Fx.below {b : Nat} (h : Fx S w w') (hb : b ≤ w.heap.size) (hs : ∀ k, S k → b ≤ k) : Below b w w' := ⟨h.os, h.tape, h.output, h.size, fun k hk => h.block k (by omega) fun e => by have := hs k e; omega⟩
theorem Fx.set (h : Fx S w w') {p : Addr} (hp : S p.block ∨ w.heap.size ≤ p.block) (v : Value) : Fx S w (w'.setCell p v) := by
  refine ⟨h.os, h.tape, h.output, by simpa [World.setCell] using h.size, fun k hk hn => (Below.heap_setCell _ _ _ _ ?_).trans (h.block k hk hn)⟩
  rcases hp with h1 | h1
  · exact fun e => hn (by rw [e]; exact h1)
  · omega
theorem Fx.alloc (h : Fx S w w') (o : Obj) : Fx S w (w'.alloc o) := h.trans (Fx.of (allocB _ _))
theorem Fx.drew (h : Fx S w w') (n : Nat) : Fx S w (w'.drewN n) := h.trans (Fx.of (dN _ _ n))
end

/-- .. and but for integers in blocks from M on -/
structure Fi (S : Nat → Prop) (M : Nat) (w w' : World) : Prop where
  os : w'.os = w.os
  tape : w'.tape = w.tape
  output : w'.output = w.output
  size : w.heap.size ≤ w'.heap.size
  block : ∀ k, k < w.heap.size → ¬ S k → (k < M ∨ ∀ cs fr, w.heap[k]? ≠ some (.cells cs 3 fr)) → w'.heap[k]? = w.heap[k]?
section
variable {S S' : Nat → Prop} {M : Nat} {w w' w'' : World}
theorem Fi.trans (h : Fi S M w w') (k : Fi S M w' w'') : Fi S M w w'' :=
  ⟨k.os.trans h.os, k.tape.trans h.tape, k.output.trans h.output, Nat.le_trans h.size k.size, fun j hj hn hm => (k.block j (Nat.lt_of_lt_of_le hj h.size) hn (hm.imp id fun hs cs fr e => hs cs fr (by rw [← h.block j hj hn (.inr hs)]; exact e))).trans (h.block j hj hn hm)⟩
theorem Fx.fi (h : Fx S w w') : Fi S M w w' := ⟨h.os, h.tape, h.output, h.size, fun k hk hn _ => h.block k hk hn⟩
theorem Fi.imp (h : Fi S M w w') (hs : ∀ k, S k → S' k) : Fi S' M w w' := ⟨h.os, h.tape, h.output, h.size, fun k hk hn hm => h.block k hk (fun e => hn (hs k e)) hm⟩
theorem Fi.below {b : Nat} (h : Fi S M w w') (hb : b ≤ w.heap.size) (hM : b ≤ M) (hs : ∀ k, S k → b ≤ k) : Below b w w' := ⟨h.os, h.tape, h.output, h.size, fun k hk => h.block k (by omega) (fun e => by have := hs k e; omega) (.inl (by omega))⟩
theorem ne_int {k : Nat} {a : Array Value} {fr0 : Nat × Nat} (h : w.heap[k]? = some (.cells a 25 fr0)) : ∀ cs fr, w.heap[k]? ≠ some (.cells cs 3 fr) := fun cs fr e => by
  rw [h] at e
  injection e with e
  injection e with _ e2 _
  exact absurd e2 (by decide)
end

/-! ### each -/
/-- each's own blocks: t, tell, how many were told, itself -/
def eaV (N : Nat) : Value := .func (.func 47) #[] #[.pointer (some ⟨N + 2, 0, none⟩), .pointer (some ⟨N + 1, 0, none⟩), .pointer (some ⟨N + 3, 0, none⟩)]
structure Ec (F : Nat) (cb : Array Value) (N m : Nat) (w : World) : Prop where
  tell : w.heap[N + 1]? = some (.cells #[.func (.func F) #[] cb] 49 (0, 0))
  told : w.heap[N + 2]? = some (.cells #[.int .i64 (m : Nat)] 3 (0, 0))
  fn : w.heap[N + 3]? = some (.cells #[eaV N] 74 (0, 0))
section
variable {F N m : Nat} {cb : Array Value} {w w' : World} {S : Nat → Prop}
theorem Ec.stay (h : Ec F cb N m w) (hb : Fi S (N + 4) w w') (h1 : ¬ S (N + 1)) (h2 : ¬ S (N + 2)) (h3 : ¬ S (N + 3)) : Ec F cb N m w' :=
  ⟨by rw [hb.block _ (lt_of h.tell) h1 (.inl (by omega))]; exact h.tell, by rw [hb.block _ (lt_of h.told) h2 (.inl (by omega))]; exact h.told, by rw [hb.block _ (lt_of h.fn) h3 (.inl (by omega))]; exact h.fn⟩
theorem Ec.set (h : Ec F cb N m w) (m' : Nat) : Ec F cb N m' (w.setCell ⟨N + 2, 0, none⟩ (.int .i64 (m' : Nat))) :=
  ⟨by rw [Below.heap_setCell _ _ _ _ (by show N + 1 ≠ N + 2; omega)]; exact h.tell, by rw [heap_set_at h.told]; rfl, by rw [Below.heap_setCell _ _ _ _ (by show N + 3 ≠ N + 2; omega)]; exact h.fn⟩
end
/-- what is told, and what comes of it: St holds in blocks of S alone, P of how many were told and what came -/
structure TellOk {σ : Type} (F : Nat) (cb : Array Value) (S : Nat → Prop) (St : σ → World → Prop) (P : Nat → σ → Prop) (f : U → Nat → σ → σ) (b N : Nat) : Prop where
  call : ∀ (u : U) (a : Value) (d m : Nat) (x : σ) (w : World), d ≤ 100000 → m ≤ 4000 → P m x → St x w → Ru b w u a → N + 3 < w.heap.size →
    Calls Try.prog F (#[uV u a, .int .i64 (d : Nat)] ++ cb) w fun e w' => e = .returned (.tuple #[]) ∧ St (f u d x) w' ∧ P (m + 1) (f u d x) ∧ Fi S (N + 4) w w'
  keep : ∀ x w w', St x w → N ≤ w.heap.size → Fx (fun k => N ≤ k ∧ k < N + 4) w w' → St x w'
  own : ∀ k, S k → b ≤ k ∧ k < N
  bn : b ≤ N
  enters : ∀ args w, (callFunc F args).run Try.prog w = .ok (.enter F args) w
section
variable {σ : Type} {F : Nat} {cb : Array Value} {S : Nat → Prop} {St : σ → World → Prop} {P : Nat → σ → Prop} {f : U → Nat → σ → σ} {b N : Nat}
abbrev EachOk (F : Nat) (cb : Array Value) (S : Nat → Prop) (St : σ → World → Prop) (P : Nat → σ → Prop) (f : U → Nat → σ → σ) (b N : Nat) (u : U) : Prop :=
  ∀ (a : Value) (d m : Nat) (x : σ) (w : World), d + szU u ≤ 100000 → m + szU u ≤ 4000 → P m x → St x w → Ec F cb N m w → Ru b w u a →
  Calls Try.prog 47 #[uV u a, .int .i64 (d : Nat), .pointer (some ⟨N + 2, 0, none⟩), .pointer (some ⟨N + 1, 0, none⟩), .pointer (some ⟨N + 3, 0, none⟩)] w
    fun e w' => e = .returned (.bool true) ∧ St (fdU f d u x) w' ∧ P (m + szU u) (fdU f d u x) ∧ Ec F cb N (m + szU u) w' ∧ Fi (fun k => S k ∨ k = N + 2) (N + 4) w w'
set_option maxHeartbeats 4000000 in
theorem each_step (hT : TellOk F cb S St P f b N) (u : U) (ih : ∀ i, i < u.l.length → EachOk F cb S St P f b N (u.l.getD i dfU)) : EachOk F cb S St P f b N u := by
  intro a d m x w hd hm hp hst hE ha
  obtain ⟨p, cap, rfl, _, hP⟩ := ha.parts
  have hl := hP.max
  have hl' := hP.le
  unfold maxLen at hl
  have hpos := szU_pos u
  have hbN := hT.bn
  have hlt := lt_of hE.fn
  have b0 := heap_alloc_new w (.cells #[.int .i64 u.k, .int .i64 u.n, .string (bs u.s), .slice p u.l.length cap] 25)
  have bb := allocB w (.cells #[.int .i64 u.k, .int .i64 u.n, .string (bs u.s), .slice p u.l.length cap] 25)
  have hnS : ∀ k, N ≤ k → ¬ S k := fun k hk h => by have := (hT.own k h).2; omega
  have hE0 := hE.stay (Fx.fi (Fx.of (S := S) bb)) (hnS _ (by omega)) (hnS _ (by omega)) (hnS _ (by omega))
  have hE1 := hE0.set (m + 1)
  have b1 := (Below.heap_setCell (w.alloc (.cells #[.int .i64 u.k, .int .i64 u.n, .string (bs u.s), .slice p u.l.length cap] 25)) ⟨N + 2, 0, none⟩ (.int .i64 ((m + 1 : Nat) : Int)) w.heap.size (by show w.heap.size ≠ N + 2; omega)).trans b0
  have hF1 : Fx (fun k => k = N + 2) w ((w.alloc (.cells #[.int .i64 u.k, .int .i64 u.n, .string (bs u.s), .slice p u.l.length cap] 25)).setCell ⟨N + 2, 0, none⟩ (.int .i64 ((m + 1 : Nat) : Int))) := Fx.set (S := fun k => k = N + 2) (Fx.of bb) (p := ⟨N + 2, 0, none⟩) (.inl rfl) _
  have hst1 := hT.keep _ _ _ hst (by omega) (hF1.imp fun k hk => by show N ≤ k ∧ k < N + 4; omega)
  have ha1 := ha.stay (hF1.below (b := b) (by omega) (fun k hk => by omega))
  have kc := hT.call u (.slice p u.l.length cap) d m x _ (by omega) (by omega) hp hst1 ha1 (by have := hF1.size; omega)
  have eg := hT.enters
  have c0 : (w.alloc (.cells #[.int .i64 u.k, .int .i64 u.n, .string (bs u.s), .slice p u.l.length cap] 25)).cell? ⟨N + 2, 0, none⟩ = some (.int .i64 (m : Nat)) := by rw [cell_at hE0.told]; rfl
  have f0 : (w.alloc (.cells #[.int .i64 u.k, .int .i64 u.n, .string (bs u.s), .slice p u.l.length cap] 25)).frozen? ⟨N + 2, 0, none⟩ = false := by simp [World.frozen?, hE0.told]
  have c1 : ((w.alloc (.cells #[.int .i64 u.k, .int .i64 u.n, .string (bs u.s), .slice p u.l.length cap] 25)).setCell ⟨N + 2, 0, none⟩ (.int .i64 ((m + 1 : Nat) : Int))).cell? ⟨N + 1, 0, none⟩ = some (.func (.func F) #[] cb) := by rw [cell_at hE1.tell]; rfl
  obtain ⟨x0, x1, x2, x3, _⟩ := cells4 b1
  have hme : ((m + 1 : Nat) : Int) = (m : Int) + 1 := by omega
  rw [hme] at c1 x0 x1 x2 x3 kc
  have h40 : ¬ (4000 : Int) < (m : Int) := by omega
  have HT := Lib.hid hT
  have HP := Lib.hid hP
  have IH := Lib.hid ih
  have HE1 := Lib.hid hE1
  have HF1 := Lib.hid hF1
  have Hb1 := Lib.hid b1
  have HS := Lib.hid (szU_eq u)
  have HD := Lib.hid (fdU_eq f d u x)
  rw [hme] at HE1 HF1 Hb1
  unfold uV at kc ⊢
  clear ha hP ih bb b0 hE hE0 hE1 hst hst1 ha1 hF1 b1 hp hme
  go_enter Try.func47, Try.ntmps47
  go_wp2_with fail
  refine kc.mono ?_
  rintro e w2 ⟨rfl, hst2, hp2, hF2⟩
  have HnS := Lib.hid hnS
  have HF2 : Hid (Fi (fun k => S k ∨ k = N + 2) (N + 4) w w2) := Lib.hid ((HF1.out.imp fun k hk => .inr hk).fi.trans (hF2.imp fun k hk => .inl hk))
  have HE2 := Lib.hid (HE1.out.stay hF2 (hnS _ (by omega)) (hnS _ (by omega)) (hnS _ (by omega)))
  have Hst2 := Lib.hid hst2
  have Hp2 := Lib.hid hp2
  have b2 := (hF2.block w.heap.size (lt_of Hb1.out) (hnS _ (by omega)) (.inr (ne_int Hb1.out))).trans Hb1.out
  obtain ⟨y0, y1, y2, y3, _⟩ := cells4 b2
  clear kc hst2 hp2 hF2 c0 f0 c1 x0 x1 x2 x3 HE1 HF1 Hb1 b2 eg hnS hT
  by_cases h4 : u.k = 4
  · have HS2 : Hid (szU u = 1 + szUL u.l) := Lib.hid (by rw [HS.out, if_pos h4])
    have HD2 : Hid (fdU f d u x = fdL f (d + 1) u.l (f u d x)) := Lib.hid (by rw [HD.out, if_pos h4])
    have hsp := Lib.hid (fun i (hi : i < u.l.length) => sz_part h4 hi)
    obtain ⟨R, hRR⟩ : ∃ R, fdU f d u x = R := ⟨_, rfl⟩
    have HRR := Lib.hid hRR
    rw [hRR] at HD2
    clear HS HD hRR
    generalize f u d x = y at *
    generalize u.k = k1 at *
    subst h4
    go_wp2
    clear y0 y1 y2 y3
    go_loopg [24] u.l.length (fun k v24 wr => ∃ (i mm : Nat) (y : σ), k = u.l.length - i ∧ i ≤ u.l.length ∧ v24 = .int .i64 i ∧ Hid (Fi (fun k => S k ∨ k = N + 2) (N + 4) w wr) ∧ Hid (Ec F cb N mm wr) ∧ Hid (St y wr) ∧ Hid (P mm y) ∧ Hid (R = fdL f (d + 1) (u.l.drop i) y) ∧ Hid (mm + szUL (u.l.drop i) = m + szU u))
    case atStart => exact ⟨0, m + 1, y, by omega, by omega, rfl, HF2, HE2, Hst2, Hp2, HD2, Lib.hid (by have := HS2.out; simp; omega)⟩
    case round =>
      obtain ⟨i, mm, y, hgk, hi, rfl, HF, HE, Hst, Hp, HR, HM⟩ := hrel
      by_cases hlt : i < u.l.length
      · have hlt2 : (i : Int) < u.l.length := by omega
        have i4 : (0 : Int) ≤ (i : Int) := by omega
        have hww : Below b w wr := HF.out.below (by omega) (by omega) (fun k hk => by rcases hk with hk | hk; exact (HT.out.own k hk).1; omega)
        obtain ⟨g, o, p', c', hpe, hgl, d0, d1, d2, d3, hR⟩ := at_pu (HP.out.stay hww) hlt
        subst hpe
        have hsz := hsp.out i hlt
        have h2 := HM.out
        rw [szUL_at hlt] at h2
        have h3 := HR.out
        rw [fdL_drop f hlt] at h3
        have hws := HF.out.size
        have hb3 := allocB wr (.cells #[.int .i64 (u.l.getD i dfU).k, .int .i64 (u.l.getD i dfU).n, .string (bs (u.l.getD i dfU).s), .slice p' (u.l.getD i dfU).l.length c'] 25)
        have hE3 := HE.out.stay (Fx.fi (Fx.of (S := S) hb3)) (HnS.out _ (by omega)) (HnS.out _ (by omega)) (HnS.out _ (by omega))
        have kx := IH.out i hlt _ (d + 1) mm y _ (by omega) (by omega) Hp.out (HT.out.keep _ _ _ Hst.out (by omega) (Fx.of hb3)) hE3 (hR.stay (hb3.mono (by omega)))
        have c4 : (wr.alloc (.cells #[.int .i64 (u.l.getD i dfU).k, .int .i64 (u.l.getD i dfU).n, .string (bs (u.l.getD i dfU).s), .slice p' (u.l.getD i dfU).l.length c'] 25)).cell? ⟨N + 3, 0, none⟩ = some (eaV N) := by rw [cell_at hE3.fn]; rfl
        have HF3 := Lib.hid (HF.out.trans (Fx.fi (Fx.of hb3)))
        have HM2 : Hid (mm + szU (u.l.getD i dfU) + szUL (u.l.drop (i + 1)) = m + szU u) := Lib.hid (by omega)
        have HR2 := Lib.hid h3
        have hde : ((d + 1 : Nat) : Int) = (d : Int) + 1 := by omega
        have hd2 : (d : Int) ≤ 100000 := by omega
        rw [hde] at kx
        clear hR hww h2 h3 hb3 hE3 hsp hsz HM HR
        generalize fdU f (d + 1) (u.l.getD i dfU) y = y' at *
        generalize szU (u.l.getD i dfU) = zx at *
        generalize u.l.getD i dfU = xx at *
        unfold uV at kx
        unfold eaV at c4
        go_wp2_with fail
        refine kx.mono ?_
        rintro en w3 ⟨rfl, hst3, hp3, hE3, hF3⟩
        have HF4 := Lib.hid (HF3.out.trans hF3)
        have HE4 := Lib.hid hE3
        have Hst4 := Lib.hid hst3
        have Hp4 := Lib.hid hp3
        clear kx hst3 hp3 hE3 hF3 hde c4
        go_wp2
        go_roundg (u.l.length - (i + 1))
        case measure => omega
        case rel => exact ⟨i + 1, mm + zx, y', rfl, by omega, by go_num, HF4, HE4, Hst4, Hp4, HR2, HM2⟩
      · have hlt2 : ¬ ((i : Int) < u.l.length) := by omega
        have hz := HM.out
        have hr := HR.out
        rw [List.drop_eq_nil_of_le (by omega), szUL] at hz
        rw [List.drop_eq_nil_of_le (by omega), fdL] at hr
        have hz2 : mm = m + szU u := by omega
        subst hz2
        subst hr
        go_wp2
        go_ret
        exact ⟨rfl, by rw [HRR.out]; exact Hst.out, by rw [HRR.out]; exact Hp.out, HE.out, HF.out⟩
  · have e4 : (u.k == 4) = false := by simp [h4]
    have HS2 : szU u = 1 := by rw [HS.out, if_neg h4]
    have HD2 : fdU f d u x = f u d x := by rw [HD.out, if_neg h4]
    go_wp2
    go_ret
    exact ⟨rfl, by rw [HD2]; exact Hst2.out, by rw [HD2, HS2]; exact Hp2.out, by rw [HS2]; exact HE2.out, HF2.out⟩
theorem each1_c (hT : TellOk F cb S St P f b N) (u : U) : EachOk F cb S St P f b N u := all_parts (P := EachOk F cb S St P f b N) (each_step hT) u
theorem store_fn (a : Addr) (m : Mode) (f : Fn) (x y : Array Value) (W : World) : (store a (.func f x y) m).run Try.prog W = stored Try.prog W a (.func f x y) m := run_store Try.prog W a _ m rfl
set_option maxHeartbeats 4000000 in
/-- each, of a term in blocks ahead of b -/
theorem each_c {u : U} {a : Value} {x : σ} {w : World} (hT : TellOk F cb S St P f b w.heap.size) (ha : Ru b w u a) (hz : szU u ≤ 4000) (hst : St x w) (hp : P 0 x) :
    Calls Try.prog 29 #[uV u a, .func (.func F) #[] cb] w fun e w' => e = .returned (.tuple #[]) ∧ St (fdU f 1 u x) w' ∧ P (szU u) (fdU f 1 u x) ∧ Fi S (w.heap.size + 4) w w' := by
  obtain ⟨p, cap, rfl, _, hP⟩ := ha.parts
  have hst0 := store_fn
  have hmf : ∀ (fn : Fn) (first cap : Array Value) (w : World), (Instr.makeFunc fn first cap).run Try.prog w = .ok (.func fn first cap) w := fun _ _ _ _ => rfl
  unfold uV
  have kx : ∀ W2, W2 = ((((w.alloc (.cells #[.int .i64 u.k, .int .i64 u.n, .string (bs u.s), .slice p u.l.length cap] 25)).alloc (.cells #[.func (.func F) #[] cb] 49)).alloc (.cells #[.int .i64 0] 3)).alloc (.cells #[eaV w.heap.size] 74)) →
      Below w.heap.size w W2 ∧ Calls Try.prog 47 #[uV u (.slice p u.l.length cap), .int .i64 ((1 : Nat) : Int), .pointer (some ⟨w.heap.size + 2, 0, none⟩), .pointer (some ⟨w.heap.size + 1, 0, none⟩), .pointer (some ⟨w.heap.size + 3, 0, none⟩)] W2
        fun e w' => e = .returned (.bool true) ∧ St (fdU f 1 u x) w' ∧ P (0 + szU u) (fdU f 1 u x) ∧ Ec F cb w.heap.size (0 + szU u) w' ∧ Fi (fun k => S k ∨ k = w.heap.size + 2) (w.heap.size + 4) W2 w' := by
    rintro W2 rfl
    have hb : Below w.heap.size w _ := (((allocB w (.cells #[.int .i64 u.k, .int .i64 u.n, .string (bs u.s), .slice p u.l.length cap] 25)).alloc (by simp) (.cells #[.func (.func F) #[] cb] 49)).alloc (by simp; omega) (.cells #[.int .i64 0] 3)).alloc (by simp; omega) (.cells #[eaV w.heap.size] 74)
    refine ⟨hb, each1_c hT u _ 1 0 x _ (by omega) (by omega) hp (hT.keep _ _ _ hst (Nat.le_refl _) (Fx.of hb)) ⟨?_, ?_, ?_⟩ (ha.stay (hb.mono hT.bn))⟩
    · rw [Lib.alloc_old _ _ _ (by simp <;> omega), Lib.alloc_old _ _ _ (by simp <;> omega)]
      have := heap_alloc_new (w.alloc (.cells #[.int .i64 u.k, .int .i64 u.n, .string (bs u.s), .slice p u.l.length cap] 25)) (.cells #[.func (.func F) #[] cb] 49)
      rwa [sizeA] at this
    · rw [Lib.alloc_old _ _ _ (by simp)]
      have := heap_alloc_new ((w.alloc (.cells #[.int .i64 u.k, .int .i64 u.n, .string (bs u.s), .slice p u.l.length cap] 25)).alloc (.cells #[.func (.func F) #[] cb] 49)) (.cells #[.int .i64 0] 3)
      rwa [sizeA, sizeA] at this
    · have := heap_alloc_new (((w.alloc (.cells #[.int .i64 u.k, .int .i64 u.n, .string (bs u.s), .slice p u.l.length cap] 25)).alloc (.cells #[.func (.func F) #[] cb] 49)).alloc (.cells #[.int .i64 0] 3)) (.cells #[eaV w.heap.size] 74)
      rwa [sizeA, sizeA, sizeA] at this
  obtain ⟨hb, kx⟩ := kx _ rfl
  have HB := Lib.hid hb
  have HT := Lib.hid hT
  unfold uV eaV at kx
  clear ha hP hb hst hp hT
  go_enter Try.func29, Try.ntmps29
  go_wp2_with fail
  refine kx.mono ?_
  rintro e w2 ⟨rfl, hst2, hp2, _, hF2⟩
  rw [Nat.zero_add] at hp2
  have HX : Hid (St (fdU f 1 u x) w2 ∧ P (szU u) (fdU f 1 u x) ∧ Fi S (w.heap.size + 4) w w2) := Lib.hid ⟨hst2, hp2, by
    have h1 := HB.out
    exact ⟨hF2.os.trans h1.os, hF2.tape.trans h1.tape, hF2.output.trans h1.output, Nat.le_trans h1.size hF2.size, fun k hk hn _ => (hF2.block k (Nat.lt_of_lt_of_le hk h1.size) (fun e => e.elim hn (fun e2 => by omega)) (.inl (by omega))).trans (h1.block k hk)⟩⟩
  clear kx hst2 hp2 hF2
  go_wp2
  go_end0
  exact ⟨rfl, HX.out⟩
end
end Go.Proofs.Ytjccohcigopdfaa.tm
end
section
/- The program's Size, Depth. -/
namespace Go.Proofs.Ytjccohcigopdfaa.tm
open Go.RowKit
open Go.Shelf
open Go.Proofs.Ytjccohcigopdfaa.wr
open Go.Proofs.Ytjccohcigopdfaa.rd
open Go.Proofs.Ytjccohcigopdfaa.op (bs strC)
open Go.Proofs.Ytjccohcigopdfaa.lx (cell_at)
open Go.Proofs.Ytjccohcigopdfaa.nm (Fit)
set_option maxRecDepth 20000

/-- a number in a block of its own -/
def Nc (c : Nat) (n : Nat) (w : World) : Prop := w.heap[c]? = some (.cells #[.int .i64 (n : Nat)] 3 (0, 0))
section
variable {c n : Nat} {w : World}
theorem Nc.cell (h : Nc c n w) : w.cell? ⟨c, 0, none⟩ = some (.int .i64 (n : Nat)) := by rw [cell_at h]; rfl
theorem Nc.free (h : Nc c n w) : w.frozen? ⟨c, 0, none⟩ = false := by unfold Nc at h; simp [World.frozen?, h]
theorem Nc.set (h : Nc c n w) (m : Nat) : Nc c m (w.setCell ⟨c, 0, none⟩ (.int .i64 (m : Nat))) := by unfold Nc; rw [heap_set_at h]; rfl
theorem Nc.alloc (h : Nc c n w) (o : Obj) : Nc c n (w.alloc o) := by unfold Nc; rw [Lib.alloc_old w o c (lt_of h)]; exact h
end
set_option maxHeartbeats 1000000 in
theorem size1_c {c b N : Nat} (hc : b ≤ c) (hN : c < N) : TellOk 30 #[.pointer (some ⟨c, 0, none⟩)] (fun k => k = c) (Nc c) (fun m n => n = m) (fun _ _ n => n + 1) b N where
  call u a d m x w hd hm hp hst ha hw := by
    subst hp
    obtain ⟨p, cap, rfl, _, hP⟩ := ha.parts
    have h1 := Nc.alloc hst (.cells #[.int .i64 u.k, .int .i64 u.n, .string (bs u.s), .slice p u.l.length cap] 25)
    have c0 := h1.cell
    have f0 := h1.free
    have h2 := h1.set (x + 1)
    have hF : Fx (fun k => k = c) w _ := Fx.set (S := fun k => k = c) (Fx.of (allocB w (.cells #[.int .i64 u.k, .int .i64 u.n, .string (bs u.s), .slice p u.l.length cap] 25))) (p := ⟨c, 0, none⟩) (.inl rfl) (.int .i64 ((x + 1 : Nat) : Int))
    have hxe : ((x + 1 : Nat) : Int) = (x : Int) + 1 := by omega
    have H2 := Lib.hid h2
    have HF := Lib.hid hF
    rw [hxe] at H2 HF
    unfold uV
    clear hst ha hP h1 h2 hF hxe
    show Calls Try.prog _ #[_, _, _] w _
    go_enter Try.func30, Try.ntmps30
    go_wp2
    go_end0
    exact ⟨rfl, H2.out, by trivial, HF.out.fi⟩
  keep x w w' h hn hF := by unfold Nc; rw [hF.block c (by omega) (fun e => by omega)]; exact h
  own k hk := by subst hk; exact ⟨hc, hN⟩
  bn := by omega
  enters := enters_of Try.func30 (by kernel_rfl) rfl
set_option maxHeartbeats 1000000 in
theorem depth1_c {c b N : Nat} (hc : b ≤ c) (hN : c < N) : TellOk 33 #[.pointer (some ⟨c, 0, none⟩)] (fun k => k = c) (Nc c) (fun _ n => n ≤ 100000) (fun _ d n => max n d) b N where
  call u a d m x w hd hm hp hst ha hw := by
    obtain ⟨p, cap, rfl, _, hP⟩ := ha.parts
    have h1 := Nc.alloc hst (.cells #[.int .i64 u.k, .int .i64 u.n, .string (bs u.s), .slice p u.l.length cap] 25)
    have c0 := h1.cell
    have f0 := h1.free
    have H2 := Lib.hid (h1.set (max x d))
    have HF : Hid (Fx (fun k => k = c) w _) := Lib.hid (Fx.set (S := fun k => k = c) (Fx.of (allocB w (.cells #[.int .i64 u.k, .int .i64 u.n, .string (bs u.s), .slice p u.l.length cap] 25))) (p := ⟨c, 0, none⟩) (.inl rfl) (.int .i64 ((max x d : Nat) : Int)))
    have hmx : ∀ (ts : Array TypeId) (ty : TypeId) (w : World), (Builtin.max_ ts ty #[.int .i64 (x : Nat), .int .i64 (d : Nat)]).run Try.prog w = .ok (.int .i64 (max x d : Nat)) w := fun ts ty w => by
      simp [Builtin.max_, Builtin.max2]
      split <;> omega
    have hX : max x d ≤ 100000 := by omega
    unfold uV
    clear hst ha hP h1
    show Calls Try.prog _ #[_, _, _] w _
    go_enter Try.func33, Try.ntmps33
    go_wp2
    go_end0
    exact ⟨rfl, H2.out, hX, HF.out.fi⟩
  keep x w w' h hn hF := by unfold Nc; rw [hF.block c (by omega) (fun e => by omega)]; exact h
  own k hk := by subst hk; exact ⟨hc, hN⟩
  bn := by omega
  enters := enters_of Try.func33 (by kernel_rfl) rfl
set_option maxHeartbeats 2000000 in
theorem size_c {u : U} {a : Value} {w : World} (ha : Ru w.heap.size w u a) (hz : szU u ≤ 4000) :
    Calls Try.prog 9 #[uV u a] w fun e w' => e = .returned (.int .i64 (szU u : Nat)) ∧ Below w.heap.size w w' := by
  obtain ⟨p, cap, rfl, _, hP⟩ := ha.parts
  obtain ⟨b0, b1, bz, bb⟩ := box2 w (.cells #[.int .i64 u.k, .int .i64 u.n, .string (bs u.s), .slice p u.l.length cap] 25) (.cells #[.int .i64 0] 3)
  have kx := each_c (size1_c (c := w.heap.size + 1) (b := w.heap.size) (N := ((w.alloc (.cells #[.int .i64 u.k, .int .i64 u.n, .string (bs u.s), .slice p u.l.length cap] 25)).alloc (.cells #[.int .i64 0] 3)).heap.size) (by omega) (by omega)) (ha.stay bb) hz (x := 0) b1 rfl
  have hmf : ∀ (fn : Fn) (first cap : Array Value) (w : World), (Instr.makeFunc fn first cap).run Try.prog w = .ok (.func fn first cap) w := fun _ _ _ _ => rfl
  rw [fd_sz, Nat.zero_add] at kx
  have HB := Lib.hid bb
  have HBz := Lib.hid bz
  obtain ⟨x0, x1, x2, x3, _⟩ := cells4 b0
  unfold uV at kx ⊢
  clear ha hP b0 b1 bz bb
  go_enter Try.func9, Try.ntmps9
  go_wp2_with fail
  refine kx.mono ?_
  rintro e w2 ⟨rfl, hst, _, hF⟩
  have c0 := Nc.cell hst
  have HB2 : Hid (Below w.heap.size w w2) := Lib.hid (HB.out.trans (hF.below (b := w.heap.size) HB.out.size (by have := HB.out.size; omega) (fun k hk => by omega)))
  clear kx hst hF x0 x1 x2 x3
  go_wp2
  go_ret
  exact ⟨rfl, HB2.out⟩
set_option maxHeartbeats 2000000 in
theorem depth_c {u : U} {a : Value} {w : World} (ha : Ru w.heap.size w u a) (hz : szU u ≤ 4000) :
    Calls Try.prog 13 #[uV u a] w fun e w' => e = .returned (.int .i64 (dpU u : Nat)) ∧ Below w.heap.size w w' := by
  obtain ⟨p, cap, rfl, _, hP⟩ := ha.parts
  obtain ⟨b0, b1, bz, bb⟩ := box2 w (.cells #[.int .i64 u.k, .int .i64 u.n, .string (bs u.s), .slice p u.l.length cap] 25) (.cells #[.int .i64 0] 3)
  have kx := each_c (depth1_c (c := w.heap.size + 1) (b := w.heap.size) (N := ((w.alloc (.cells #[.int .i64 u.k, .int .i64 u.n, .string (bs u.s), .slice p u.l.length cap] 25)).alloc (.cells #[.int .i64 0] 3)).heap.size) (by omega) (by omega)) (ha.stay bb) hz (x := 0) b1 (by omega)
  have hmf : ∀ (fn : Fn) (first cap : Array Value) (w : World), (Instr.makeFunc fn first cap).run Try.prog w = .ok (.func fn first cap) w := fun _ _ _ _ => rfl
  rw [fd_dp, show max 0 (1 + dpU u - 1) = dpU u by omega] at kx
  have HB := Lib.hid bb
  have HBz := Lib.hid bz
  obtain ⟨x0, x1, x2, x3, _⟩ := cells4 b0
  unfold uV at kx ⊢
  clear ha hP b0 b1 bz bb
  go_enter Try.func13, Try.ntmps13
  go_wp2_with fail
  refine kx.mono ?_
  rintro e w2 ⟨rfl, hst, _, hF⟩
  have c0 := Nc.cell hst
  have HB2 : Hid (Below w.heap.size w w2) := Lib.hid (HB.out.trans (hF.below (b := w.heap.size) HB.out.size (by have := HB.out.size; omega) (fun k hk => by omega)))
  clear kx hst hF x0 x1 x2 x3
  go_wp2
  go_ret
  exact ⟨rfl, HB2.out⟩
end Go.Proofs.Ytjccohcigopdfaa.tm
end
section
/- The reference's has, Vars; the law's own sameInts. -/
namespace Go.Proofs.Ytjccohcigopdfaa.tm
open Go.RowKit
open Go.Proofs.Ytjccohcigopdfaa.wr
open Go.Proofs.Ytjccohcigopdfaa.rd
open Go.Proofs.Ytjccohcigopdfaa.op (bs strC)
open Go.Proofs.Ytjccohcigopdfaa.lx (cell_at)
open Go.Proofs.Ytjccohcigopdfaa.nm (Fit)
set_option maxRecDepth 20000

/-! ### rows of integers -/
theorem int_info : (Try.prog.info? 3).map (fun i => (i.zero, i.size, i.bytes)) = some (some (.int .i64 0), 1, 8) := by kernel_rfl
/-- the slice v holds the numbers l -/
def Iw (B : Nat) (w : World) (v : Value) (l : List Int) : Prop := w.ownsRow B 3 1 v l.length (l.map (Value.int .i64))
section
variable {B B' : Nat} {w w' : World} {v : Value} {l : List Int}
theorem Iw.shape (h : Iw B w v l) : (v = .slice none 0 0 ∧ l = []) ∨ ∃ g cap, v = .slice (some ⟨g, 0, none⟩) l.length cap ∧ l.length ≤ cap ∧ g < w.heap.size ∧ (∀ i (hi : i < l.length), w.cell? ⟨g, i, none⟩ = some (.int .i64 l[i])) := by
  have hh : w.ownsRow B 3 1 v l.length (l.map (Value.int .i64)) := h
  rcases hh.2 with ⟨e1, e2⟩ | ⟨g, cap, cur, e1, _, e3, e4, _⟩
  · exact .inl ⟨e1, List.length_eq_zero_iff.1 e2⟩
  · refine .inr ⟨g, cap, e1, e4, lt_of e3, fun i hi => ?_⟩
    have hc := World.ownsRow.cells hh (g := g) (by rw [e1]; rfl) i (.int .i64 l[i]) (by simp [hi])
    rwa [op.addr_add] at hc
theorem Iw.sl (h : Iw B w v l) : ∃ p cap, v = .slice p l.length cap := by
  rcases h.shape with ⟨e1, e2⟩ | ⟨g, cap, e, _⟩
  · exact ⟨none, 0, by rw [e1, e2]; rfl⟩
  · exact ⟨_, _, e⟩
theorem Iw.stay (h : Iw B w v l) (hb : Below w.heap.size w w') : Iw B w' v l := own_kept h (Kt.below hb)
theorem Iw.mono (h : Iw B w v l) (hb : B' ≤ B) : Iw B' w v l := World.ownsRow.mono h hb
theorem Iw.fit (h : Iw B w v l) : l.length ≤ maxLen := by
  rcases (show w.ownsRow B 3 1 v l.length (l.map (Value.int .i64)) from h).2 with ⟨_, e2⟩ | ⟨g, cap, cur, _, _, _, e4, e5, _⟩
  · rw [e2]; exact Nat.zero_le _
  · omega
end
theorem Iw.lt {B : Nat} {w : World} {v : Value} {l : List Int} (h : Iw B w v l) (g : Nat) (hv : v.ownBlock = some g) : B ≤ g ∧ g < w.heap.size := World.ownsRow.lt h g hv
theorem Iw.grown {B : Nat} {w w' : World} {v : Value} {l : List Int} (h : Iw B w v l) (hg : w.grownBy w' v.ownBlock) (hB : B ≤ w.heap.size) : Below B w w' :=
  ⟨hg.os, hg.tape, hg.output, hg.size, fun k hk => hg.block k (by omega) (fun e => by have := (h.lt k e.symm).1; omega)⟩
/-- append of one number to a row of one's own -/
theorem wpList_i1 {ops : Array Oper} {rest : List Oper} {o : Oper} {a : Act} {Q : Exit → Act → World → Prop} (hgd : o.guard = none) (s x : Operand)
    (ho : o.op = .call { callee := .builtin .append, args := #[s, x], argTypes := #[31, 31] })
    (B : Nat) (W : World) (v0 : Value) (l : List Int) (hs : a.eval s = v0) (hown : Iw B W v0 l) (g cap : Nat) (n : Int) (hx : a.eval x = .slice (some ⟨g, 0, none⟩) 1 cap) (hc : W.cell? ⟨g, 0, none⟩ = some (.int .i64 n)) (hl : l.length ≤ 2000000) (hB : B ≤ W.heap.size)
    (h : ∀ g' cap' w', Iw B w' (.slice (some ⟨g', 0, none⟩) (l.length + 1) cap') (l ++ [n]) → W.grownBy w' v0.ownBlock → (v0.ownBlock = some g' ∨ g' = W.heap.size) → wpList Try.prog ops Q rest (a.put o.dst (.slice (some ⟨g', 0, none⟩) (l.length + 1) cap')) w') : wpList Try.prog ops Q (o :: rest) a W := by
  obtain ⟨i0, hi, hz0, hz1, hz2⟩ := info_parts int_info
  refine wpList_append_lies _ hgd s x 31 ho B 3 i0 _ 1 8 Try.underlying31 hi hz0 hz1 hz2 rfl (by decide) v0 l.length (l.map (Value.int .i64)) hs hown ⟨g, 0, none⟩ 1 cap [.int .i64 n] hx rfl ?_ ?_ (by omega) (by unfold maxLen; omega) (by omega) hB _ rfl ?_
  · intro j u hu
    cases j with
    | zero => simp at hu; subst hu; exact hc
    | succ j => simp at hu
  · intro y hy
    simp at hy
    subst hy; rfl
  · intro g' cap' w' hown' hgr hat _
    exact h g' cap' w' (by unfold Iw; rw [List.length_append, List.map_append]; exact hown') hgr hat
theorem Iw.new {w : World} : Iw w.heap.size (w.alloc (.cells #[] 3)) (.slice (some ⟨w.heap.size, 0, none⟩) 0 0) [] :=
  ⟨rfl, .inr ⟨w.heap.size, 0, #[], rfl, Nat.le_refl _, heap_alloc_new w _, Nat.le_refl _, Nat.zero_le _, rfl, rfl⟩⟩

/-! ### has -/
set_option maxHeartbeats 2000000 in
theorem has_c {w : World} {v : Value} {l : List Int} (n : Int) (h : Iw 0 w v l) (hl : l.length ≤ 2000000) :
    Calls Try.prog 34 #[v, .int .i64 n] w fun e w' => e = .returned (.bool (decide (n ∈ l))) ∧ w' = w := by
  obtain ⟨p, cap, rfl⟩ := h.sl
  have H := Lib.hid h
  generalize hr : decide (n ∈ l) = r
  have HR : Hid (n ∈ l ↔ r = true) := Lib.hid (by rw [← hr]; simp)
  clear h hr
  go_enter Try.func34, Try.ntmps34
  go_wp2
  go_loopg [5] l.length (fun k v5 wr => ∃ i : Nat, k = l.length - i ∧ i ≤ l.length ∧ v5 = .int .i64 i ∧ wr = w ∧ Hid (n ∉ l.take i))
  case atStart => exact ⟨0, by omega, by omega, rfl, rfl, Lib.hid (by simp)⟩
  case round =>
    obtain ⟨i, hgk, hi, rfl, rfl, HT⟩ := hrel
    by_cases hlt : i < l.length
    · have hlt2 : (i : Int) < l.length := by omega
      have i4 : (0 : Int) ≤ (i : Int) := by omega
      obtain ⟨g, rfl, hcap, c0⟩ : ∃ g, p = some ⟨g, 0, none⟩ ∧ l.length ≤ cap ∧ wr.cell? ⟨g, i, none⟩ = some (.int .i64 l[i]) := by
        rcases H.out.shape with ⟨_, e⟩ | ⟨g, cap', e, h1, _, h2⟩
        · rw [e] at hlt; exact absurd hlt (Nat.not_lt_zero _)
        · injection e with e1 _ e3
          exact ⟨g, e1, by rw [e3]; exact h1, h2 i hlt⟩
      by_cases he : l[i] = n
      · have e1 : (l[i] == n) = true := by simp [he]
        obtain rfl : r = true := HR.out.1 (by rw [← he]; exact List.getElem_mem _)
        clear he
        generalize l[i] = m at *
        go_wp2
        go_ret
        exact ⟨rfl, rfl⟩
      · have e1 : (l[i] == n) = false := by simp [he]
        have HT2 : Hid (n ∉ l.take (i + 1)) := Lib.hid (by
          rw [List.take_succ_eq_append_getElem hlt, List.mem_append, List.mem_singleton]
          rintro (h | h)
          · exact HT.out h
          · exact he h.symm)
        clear he HT
        generalize l[i] = m at *
        go_wp2
        go_roundg (l.length - (i + 1))
        case measure => omega
        case rel => exact ⟨i + 1, rfl, by omega, by go_num, rfl, HT2⟩
    · have hlt2 : ¬ ((i : Int) < l.length) := by omega
      obtain rfl : r = false := by
        have h1 := HT.out
        rw [List.take_of_length_le (by omega)] at h1
        cases r with
        | false => rfl
        | true => exact absurd (HR.out.2 rfl) h1
      go_wp2
      go_ret
      exact ⟨rfl, rfl⟩
end Go.Proofs.Ytjccohcigopdfaa.tm
end
