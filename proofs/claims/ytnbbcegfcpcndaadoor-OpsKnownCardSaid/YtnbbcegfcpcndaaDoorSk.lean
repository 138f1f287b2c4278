/- Slices of strings that the call makes: their cells, one string more. -/
import Derived.Test.YtnbbcegfcpcndaaDoorProg
import Derived.WalkKit
import Derived.Handy
import Derived.Outline
import Derived.Lib.Hide
import Derived.Laws.MakeOwn
import Derived.Laws.AppendOwn
import Derived.OwnWalk
import Derived.Carry
import Derived.Below
import Derived.RegionTactic
import Derived.BigRegion
import Derived.ChangeAlike
import Derived.WideShapes
import Derived.RowKit
import Derived.IntWalk
import Derived.BigQuiet
import Derived.Deep.QuietTactic
import Derived.Deep.LoopGhost
import Derived.Deep.RegionHeld3
import Derived.Lib.Strings
namespace Go.Proofs.YtnbbcegfcpcndaaDoor.op
open Go.RowKit

theorem below_drawn (B : Nat) (w : World) (k : Nat) : Below B w (w.drewN k) := ⟨rfl, rfl, rfl, Nat.le_refl _, fun _ _ => rfl⟩
def strC (z : List ByteArray) : List Value := z.map .string
theorem strC_len (z : List ByteArray) : (strC z).length = z.length := by simp [strC]
theorem strC_append (a b : List ByteArray) : strC (a ++ b) = strC a ++ strC b := by simp [strC]
theorem str_info : (Tryd.prog.info? 9).map (fun i => (i.zero, i.size, i.bytes)) = some (some (.string ⟨#[]⟩), 1, 16) := by kernel_rfl
/-- the slice at block g of room cap, the call's own, holds the strings z -/
def Sk (B : Nat) (w : World) (g cap : Nat) (z : List ByteArray) : Prop := w.ownsRow B 9 1 (.slice (some ⟨g, 0, none⟩) z.length cap) z.length (strC z)
theorem Sk.lt {B : Nat} {w : World} {g cap : Nat} {z : List ByteArray} (h : Sk B w g cap z) : B ≤ g ∧ g < w.heap.size := (World.ownsRow.lt h) g rfl
theorem Sk.empty (B : Nat) (w : World) (hB : B ≤ w.heap.size) : Sk B (w.alloc (.cells #[] 9)) w.heap.size 0 [] :=
  ⟨rfl, .inr ⟨w.heap.size, 0, #[], rfl, hB, heap_alloc_new w _, Nat.le_refl _, by unfold maxLen; omega, rfl, rfl⟩⟩
theorem Sk.stay {B g cap : Nat} {w w' : World} {z : List ByteArray} (h : Sk B w g cap z) (hb : Below w.heap.size w w') : Sk B w' g cap z :=
  World.ownsRow.kept (row := none) h ⟨hb.os, hb.tape, hb.output, hb.size, fun k hk _ => hb.block k hk⟩ (by simp [Value.ownBlock])
theorem addr_add (g j : Nat) : (⟨g, 0, none⟩ : Addr).add j = ⟨g, j, none⟩ := by
  by_cases h0 : j = 0
  · subst h0; simp [Addr.add]
  · simp [Addr.add, h0]
theorem Sk.cell {B g cap : Nat} {w : World} {z : List ByteArray} (h : Sk B w g cap z) (i : Nat) (hi : i < z.length) : w.cell? ⟨g, i, none⟩ = some (.string z[i]) := by
  have := World.ownsRow.cells h (g := g) rfl i (.string z[i]) (by simp [strC, hi])
  rwa [addr_add] at this
theorem Sk.room {B g cap : Nat} {w : World} {z : List ByteArray} (h : Sk B w g cap z) : z.length ≤ cap ∧ cap ≤ maxLen := by
  rcases h.2 with ⟨h1, h2⟩ | ⟨g', cap', cur, h1, _, _, h4, h5, _⟩
  · simp at h1
  · simp at h1; omega
theorem Sk.mono {B B' g cap : Nat} {w : World} {z : List ByteArray} (h : Sk B w g cap z) (hB : B' ≤ B) : Sk B' w g cap z := by
  refine ⟨h.1, ?_⟩
  rcases h.2 with h1 | ⟨g', cap', cur, h1, h2, h3⟩
  · exact .inl h1
  · exact .inr ⟨g', cap', cur, h1, Nat.le_trans hB h2, h3⟩
theorem cell_at {w : World} {g j : Nat} {cs : Array Value} {t : TypeId} {fr : Nat × Nat} (hg : w.heap[g]? = some (.cells cs t fr)) : w.cell? ⟨g, j, none⟩ = cs[j]? := cell_of_row w g j cs t fr hg
/-- one string more -/
theorem wpList_pushS {ops : Array Oper} {rest : List Oper} {o : Oper} {a : Act} {Q : Exit → Act → World → Prop} (hgd : o.guard = none) (s x : Operand)
    (ho : o.op = .call { callee := .builtin .append, args := #[s, x], argTypes := #[27, 27] })
    (B : Nat) (w : World) (g cap : Nat) (z : List ByteArray) (t : ByteArray) (hs : a.eval s = .slice (some ⟨g, 0, none⟩) z.length cap) (hown : Sk B w g cap z)
    (hx : a.eval x = .slice (some ⟨w.heap.size, 0, none⟩) 1 1) (hlen : z.length ≤ 100000) (hB : B ≤ w.heap.size)
    (h : ∀ g' cap' w', Sk B w' g' cap' (z ++ [t]) → Below B w w' → wpList Tryd.prog ops Q rest (a.put o.dst (.slice (some ⟨g', 0, none⟩) (z.length + 1) cap')) w') :
    wpList Tryd.prog ops Q (o :: rest) a (w.alloc (.cells #[.string t] 9)) := by
  obtain ⟨i0, hi, hz0, hz1, hz2⟩ := info_parts str_info
  have hb0 : (w.alloc (.cells #[.string t] 9)).heap[w.heap.size]? = some (.cells #[.string t] 9 (0, 0)) := heap_alloc_new w _
  refine wpList_append_own _ hgd s x 27 ho B 9 i0 (.string ⟨#[]⟩) 1 16 Tryd.underlying27 hi hz0 hz1 hz2 rfl (by decide) _ z.length (strC z) hs (World.ownsRow.alloc hown _) ⟨w.heap.size, 0, none⟩ 1 1 [.string t] hx rfl ?_ ?_ ?_ ?_ ?_ ?_
  · intro j u hj
    rw [addr_add, cell_at hb0, ← Array.getElem?_toList]; exact hj
  · intro u hu; simp at hu; subst hu; rfl
  · unfold maxLen; omega
  · omega
  · show B ≤ (w.heap.push _).size; simp; omega
  · intro v' w' hown' hgr hnil
    have e1 : strC z ++ [.string t] = strC (z ++ [t]) := by simp [strC]
    rw [e1] at hown'
    have hb : Below B w w' := ((Below.refl B w).alloc hB _).grown hgr (by show B ≤ (w.heap.push _).size; simp; omega) (fun k hk => by simp [Value.ownBlock] at hk; have := hown.lt.1; omega)
    rcases hown'.2 with ⟨h1, h2⟩ | ⟨g', cap', cur, h1, h2⟩
    · omega
    · subst h1
      refine h g' cap' w' ?_ hb
      unfold Sk
      rw [List.length_append]; exact hown'
end Go.Proofs.YtnbbcegfcpcndaaDoor.op
