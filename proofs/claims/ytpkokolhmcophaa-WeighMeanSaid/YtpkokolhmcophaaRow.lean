/- What a slice of floats, or of bools, that comes in holds: its cells, one by one. -/
import Derived.Test.YtpkokolhmcophaaProg
import Derived.WalkLawsBesides
import Derived.Deep.Slices
import Derived.Deep.Grids
import Derived.ChangeArms
import Derived.Below
import Derived.RowKit
namespace Go.Proofs.Ytpkokolhmcophaa.fl
open Go.RowKit Go.ChangeShapes Go.WideShapes

/-- the slice value of address a and room cap holds the floats fs -/
def FRow (w : World) (a : Option Addr) (cap : Nat) (fs : List Nat) : Prop :=
  fs.length ≤ cap ∧ cap ≤ maxLen ∧ (∀ x ∈ fs, x < 2 ^ 64) ∧ (∀ i (h : i < fs.length), ∃ x, a = some x ∧ w.cell? (x.add i) = some (.float .f64 (fs[i]))) ∧ (a = none → cap = 0)
/-- the slice value of address a and room cap holds the bools bs -/
def BRow (w : World) (a : Option Addr) (cap : Nat) (bs : List Bool) : Prop :=
  bs.length ≤ cap ∧ cap ≤ maxLen ∧ ∀ i (h : i < bs.length), ∃ x, a = some x ∧ w.cell? (x.add i) = some (.bool (bs[i]))

theorem FRow.kept {B : Nat} {w w' : World} {a : Option Addr} {cap : Nat} {fs : List Nat} (h : FRow w a cap fs) (hb : Below B w w') (hB : B = w.heap.size) : FRow w' a cap fs := by
  subst hB
  refine ⟨h.1, h.2.1, h.2.2.1, fun i hi => ?_, h.2.2.2.2⟩
  obtain ⟨x, hx, hc⟩ := h.2.2.2.1 i hi
  exact ⟨x, hx, by rw [hb.cell (World.block_lt_of_cell? w _ hc)]; exact hc⟩
theorem BRow.kept {B : Nat} {w w' : World} {a : Option Addr} {cap : Nat} {bs : List Bool} (h : BRow w a cap bs) (hb : Below B w w') (hB : B = w.heap.size) : BRow w' a cap bs := by
  subst hB
  refine ⟨h.1, h.2.1, fun i hi => ?_⟩
  obtain ⟨x, hx, hc⟩ := h.2.2 i hi
  exact ⟨x, hx, by rw [hb.cell (World.block_lt_of_cell? w _ hc)]; exact hc⟩
theorem FRow.cells {w : World} {a : Option Addr} {cap : Nat} {fs : List Nat} (h : FRow w a cap fs) {i : Nat} (hi : i < fs.length) : ∃ x, a = some x ∧ ∀ j (hj : j < fs.length), w.cell? (x.add j) = some (.float .f64 (fs[j])) := by
  obtain ⟨x, hx, _⟩ := h.2.2.2.1 i hi
  refine ⟨x, hx, fun j hj => ?_⟩
  obtain ⟨y, hy, hc⟩ := h.2.2.2.1 j hj
  rw [hx] at hy; cases hy; exact hc
theorem BRow.cells {w : World} {a : Option Addr} {cap : Nat} {fs : List Bool} (h : BRow w a cap fs) {i : Nat} (hi : i < fs.length) : ∃ x, a = some x ∧ ∀ j (hj : j < fs.length), w.cell? (x.add j) = some (.bool (fs[j])) := by
  obtain ⟨x, hx, _⟩ := h.2.2 i hi
  refine ⟨x, hx, fun j hj => ?_⟩
  obtain ⟨y, hy, hc⟩ := h.2.2 j hj
  rw [hx] at hy; cases hy; exact hc

section
variable {H : Type} {enc : TypeId × Value → H} {P : Program} {w : World} {base : Nat} {spare : Nat → Bool} {held : Bool}
theorem trod_float {t : TypeId} {k : FloatKind} {fuel : Nat} {cs : List Value} {x : DataW H × List MemPlace} (ht : P.underlying t = some (.float k)) (h : DataW.trod enc P w base spare held fuel t cs = some x) : ∃ b, cs = [.float k b] ∧ (Lit.float k b).wf = true := by
  cases fuel with
  | zero => simp [DataW.trod] at h
  | succ n =>
    simp only [DataW.trod, ht] at h
    match cs, h with
    | [.float k' b], h =>
      simp at h
      obtain ⟨⟨rfl, h2⟩, _⟩ := h
      exact ⟨b, rfl, h2⟩
theorem frow_of {t e : TypeId} {v : Value} {d : DataW H} {p : List MemPlace} {a : Option Addr} {len cap : Nat} (ht : P.underlying t = some (.slice e)) (he : P.underlying e = some (.float .f64)) (hc : P.cellsOf e = 1) (hv : v = .slice a len cap)
    (h : DataW.Trod enc P w 0 (fun _ => true) true t v d p) : ∃ fs : List Nat, fs.length = len ∧ FRow w a cap fs := by
  subst hv
  obtain ⟨fuel, hf⟩ := h
  rcases Deep.open_slice1 ht hc hf with ⟨hcs, _⟩ | ⟨ad, len', cap', m, n, V, D, Pl, hcs, hb, hl, hm, hmm, _, hx⟩
  · simp [Value.cells] at hcs
    obtain ⟨rfl, rfl, rfl⟩ := hcs
    exact ⟨[], rfl, Nat.le_refl _, Nat.zero_le _, (fun x hx => nomatch hx), fun i hi => absurd hi (Nat.not_lt_zero _), fun _ => rfl⟩
  · simp [Value.cells] at hcs
    obtain ⟨rfl, rfl, rfl⟩ := hcs
    simp only [if_true] at hmm
    subst hmm
    have each : ∀ i, i < m → ∃ b, w.cell? (ad.add i) = some (.float .f64 b) ∧ b < 2 ^ 64 := fun i hi => by
      obtain ⟨h1, h2⟩ := hx i hi
      obtain ⟨b, hb, hw⟩ := trod_float he h2
      simp at hb
      exact ⟨b, by rw [h1, hb], by simpa [Lit.wf] using hw⟩
    refine ⟨(List.range len).map fun i => if h : i < m then (each i h).choose else 0, by simp, by simpa using hl, hm, ?_, fun i hi => ?_, fun h => nomatch h⟩
    · intro x hx
      rw [List.mem_map] at hx
      obtain ⟨i, _, rfl⟩ := hx
      split
      · rename_i h; exact (each i h).choose_spec.2
      · decide
    · simp at hi
      refine ⟨ad, rfl, ?_⟩
      rw [List.getElem_map, List.getElem_range, dif_pos (by omega)]
      exact (each i (by omega)).choose_spec.1
theorem brow_of {t e : TypeId} {v : Value} {d : DataW H} {p : List MemPlace} {a : Option Addr} {len cap : Nat} (ht : P.underlying t = some (.slice e)) (he : P.underlying e = some .bool) (hc : P.cellsOf e = 1) (hv : v = .slice a len cap)
    (h : DataW.Trod enc P w 0 (fun _ => true) true t v d p) : ∃ bs : List Bool, bs.length = len ∧ BRow w a cap bs := by
  subst hv
  obtain ⟨fuel, hf⟩ := h
  rcases Deep.open_bools ht he hc hf with ⟨hcs, _⟩ | ⟨ad, len', cap', B, hcs, hb, hl, hm, _, hx⟩
  · simp [Value.cells] at hcs
    obtain ⟨rfl, rfl, rfl⟩ := hcs
    exact ⟨[], rfl, Nat.le_refl _, Nat.zero_le _, fun i hi => absurd hi (Nat.not_lt_zero _)⟩
  · simp [Value.cells] at hcs
    obtain ⟨rfl, rfl, rfl⟩ := hcs
    refine ⟨(List.range len).map B, by simp, by simpa using hl, hm, fun i hi => ⟨ad, rfl, ?_⟩⟩
    simp at hi
    rw [List.getElem_map, List.getElem_range]
    exact hx i (by omega)
end
end Go.Proofs.Ytpkokolhmcophaa.fl
