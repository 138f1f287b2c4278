/- From what the card lists to what the walks ask: the two tables' cells. -/
import Derived.Test.YtnbbcegfcpcndaaDoorLawK
import Derived.Test.YtnbbcegfcpcndaaDoorRows
import Derived.OpenShut
import Derived.LaidLaws
import Derived.MakeChecks
import Derived.LaidMore
import Derived.LaidHandle
namespace Go.Proofs.YtnbbcegfcpcndaaDoor.op
open Go.RowKit

def rowD {H : Type} (r : List UInt8 × Int × Int) : DataW H := .agg [.lit (.string r.1), .lit (.int .i64 r.2.1), .lit (.int .i64 r.2.2)]
def rowC (r : List UInt8 × Int × Int) : List Value := [.string (bs r.1), .int .i64 r.2.1, .int .i64 r.2.2]
theorem parts3 {α : Type} (f : List UInt8 × Int × Int → List α) (h3 : ∀ r, (f r).length = 3) : ∀ (l : List (List UInt8 × Int × Int)) (cs : List α), cs.length = l.length * 3 →
    (∀ i (h : i < l.length), (cs.drop (i * 3)).take 3 = f l[i]) → cs = l.flatMap f
  | [], cs, h, _ => by simpa using h
  | a :: l, cs, h, hx => by
    have h0 := hx 0 (by simp)
    rw [Nat.zero_mul, List.drop_zero, List.getElem_cons_zero] at h0
    have ih := parts3 f h3 l (cs.drop 3) (by rw [List.length_drop]; simp at h; omega) fun i hi => by
      have := hx (i + 1) (by simpa using hi)
      rw [List.drop_drop, show 3 + i * 3 = (i + 1) * 3 from by omega]
      simpa using this
    rw [List.flatMap_cons, ← ih, ← h0, List.take_append_drop]
section
variable {H : Type} {enc : TypeId × Value → H} {w : World} {base : Nat} {sp : Nat → Bool} {held : Bool} {fuel : Nat}
theorem row_cells {cs : List Value} {r : List UInt8 × Int × Int} {p : List MemPlace} (h : DataW.trod enc Tryd.prog w base sp held fuel 29 cs = some (rowD r, p)) : cs = rowC r := by
  obtain ⟨xs, n, rfl, hx, hl, hn, hf⟩ := DataW.trod_struct Tryd.underlying29 h
  have c3 : Tryd.prog.cellsOf 29 = 3 := by kernel_rfl
  have cs9 : Tryd.prog.cellsOf 9 = 1 := by kernel_rfl
  have ci : Tryd.prog.cellsOf 3 = 1 := by kernel_rfl
  rw [c3] at hl
  have h0 : DataW.trod enc Tryd.prog w base sp held n 9 ((cs.drop 0).take (Tryd.prog.cellsOf 9)) = xs[0]? := hf 0 _ rfl
  rw [cs9] at h0
  have h1 : DataW.trod enc Tryd.prog w base sp held n 3 ((cs.drop 1).take (Tryd.prog.cellsOf 3)) = xs[1]? := hf 1 _ rfl
  rw [ci] at h1
  have h2 : DataW.trod enc Tryd.prog w base sp held n 3 ((cs.drop 2).take (Tryd.prog.cellsOf 3)) = xs[2]? := hf 2 _ rfl
  rw [ci] at h2
  match cs, hl, xs, hn with
  | [c0, c1, c2], _, [x0, x1, x2], _ =>
    simp only [rowD, List.map_cons, List.map_nil, Prod.mk.injEq, DataW.agg.injEq, List.cons.injEq, and_true] at hx
    obtain ⟨⟨e0, e1, e2⟩, _⟩ := hx
    obtain ⟨s, g0, rfl, _⟩ := DataW.trod_string Tryd.underlying9 (show DataW.trod enc Tryd.prog w base sp held n 9 [c0] = some x0 from h0)
    obtain ⟨k, g1, rfl, _⟩ := DataW.trod_int Tryd.underlying3 (show DataW.trod enc Tryd.prog w base sp held n 3 [c1] = some x1 from h1)
    obtain ⟨m, g2, rfl, _⟩ := DataW.trod_int Tryd.underlying3 (show DataW.trod enc Tryd.prog w base sp held n 3 [c2] = some x2 from h2)
    simp at g0 g1 g2 e0 e1 e2
    subst g0; subst g1; subst g2
    rw [rowC, e0, ← e1, ← e2]
    simp [bs_data]
theorem table_cells {t : TypeId} {l : List (List UInt8 × Int × Int)} {cs : List Value} {p : List MemPlace} (ht : Tryd.prog.underlying t = some (.array l.length 29)) (hc : Tryd.prog.cellsOf t = l.length * 3)
    (h : DataW.trod enc Tryd.prog w base sp held fuel t cs = some (.agg (l.map rowD), p)) : cs = l.flatMap rowC := by
  obtain ⟨xs, m, rfl, hx, hl, hn, hel⟩ := DataW.trod_array ht h
  have c3 : Tryd.prog.cellsOf 29 = 3 := by kernel_rfl
  rw [c3] at hel
  refine parts3 rowC (fun _ => rfl) l cs (by rw [hl, hc]) fun i hi => ?_
  have h1 := hel i hi
  rw [List.getElem?_eq_getElem (by omega)] at h1
  have h2 : xs[i].1 = rowD l[i] := by
    have := congrArg Prod.fst hx
    simp only [DataW.agg.injEq] at this
    have h3 := congrArg (fun z => z[i]?) this
    simp only [List.getElem?_map, List.getElem?_eq_getElem hi, List.getElem?_eq_getElem (show i < xs.length by omega), Option.map_some, Option.some.injEq] at h3
    exact h3.symm
  exact row_cells (p := xs[i].2) (by rw [h1, ← h2])
end
theorem heap_of_var {P : Program} {w : World} {name : String} {g : Nat} {cs : Array Value} (hg : P.globalNamed name = some g) (h : w.var? P name = some cs) : ∃ tt fr, w.heap[g]? = some (.cells cs tt fr) := by
  unfold World.var? at h
  rw [hg, Option.bind_some] at h
  split at h
  · rename_i c t fr e
    cases h
    exact ⟨t, fr, e⟩
  · cases h
theorem both_of {w : World} (h : laidMetH Tryd.prog [("coney/ops.infixes", Rows.laid_coney_ops_infixes), ("coney/ops.prefixes", Rows.laid_coney_ops_prefixes)] w) : Both w := by
  rw [MakeChecks.laidMetH_plain _ _ _ (by kernel_rfl)] at h
  obtain ⟨ps, ⟨g0, t0, cs0, f0, p0, q0, hg0, ht0, hv0, hd0, ⟨g1, t1, cs1, f1, p1, q1, hg1, ht1, hv1, hd1, _, _⟩, _⟩, _, _⟩ := h
  have e0 : Tryd.prog.globalNamed "coney/ops.infixes" = some 0 := by kernel_rfl
  have e1 : Tryd.prog.globalNamed "coney/ops.prefixes" = some 1 := by kernel_rfl
  obtain rfl := Option.some.inj (e0.symm.trans hg0)
  obtain rfl := Option.some.inj (e1.symm.trans hg1)
  obtain rfl := Option.some.inj ((show (Tryd.prog.globals[0]?).map (·.type) = some 30 by kernel_rfl).symm.trans ht0)
  obtain rfl := Option.some.inj ((show (Tryd.prog.globals[1]?).map (·.type) = some 33 by kernel_rfl).symm.trans ht1)
  obtain ⟨tt0, fr0, b0⟩ := heap_of_var hg0 hv0
  obtain ⟨tt1, fr1, b1⟩ := heap_of_var hg1 hv1
  have z0 := table_cells (l := rowsI) Tryd.underlying30 (by kernel_rfl) hd0
  have z1 := table_cells (l := rowsP) Tryd.underlying33 (by kernel_rfl) hd1
  obtain ⟨l0⟩ := cs0
  obtain ⟨l1⟩ := cs1
  simp only at z0 z1
  subst z0; subst z1
  exact ⟨⟨tt0, fr0, b0, rfl⟩, ⟨tt1, fr1, b1, rfl⟩⟩
theorem one_of {w : World} (h : laidMetH Tryd.prog [("coney/ops.infixes", Rows.laid_coney_ops_infixes)] w) : Tb 0 30 rowsI w := by
  rw [MakeChecks.laidMetH_plain _ _ _ (by kernel_rfl)] at h
  obtain ⟨ps, ⟨g0, t0, cs0, f0, p0, q0, hg0, ht0, hv0, hd0, _, _⟩, _, _⟩ := h
  have e0 : Tryd.prog.globalNamed "coney/ops.infixes" = some 0 := by kernel_rfl
  obtain rfl := Option.some.inj (e0.symm.trans hg0)
  obtain rfl := Option.some.inj ((show (Tryd.prog.globals[0]?).map (·.type) = some 30 by kernel_rfl).symm.trans ht0)
  obtain ⟨tt0, fr0, b0⟩ := heap_of_var hg0 hv0
  have z0 := table_cells (l := rowsI) Tryd.underlying30 (by kernel_rfl) hd0
  obtain ⟨l0⟩ := cs0
  simp only at z0
  subst z0
  exact ⟨tt0, fr0, b0, rfl⟩
end Go.Proofs.YtnbbcegfcpcndaaDoor.op
