/- A slice of whole numbers in a block of the call's own: made, stored into, appended to. -/
import Derived.Test.YtpkokolhmcophaaProg
import Derived.WalkKit
import Derived.Handy
import Derived.Outline
import Derived.Lib.Hide
import Derived.BigQuiet
import Derived.Deep.QuietTactic
import Derived.RegionTactic
import Derived.BigRegion
import Derived.WalkSmall
import Derived.Laws.MakeOwn
import Derived.Laws.AppendOwn
namespace Go.Proofs.Ytpkokolhmcophaa.sl
open Go.RowKit

/-- numbers as values -/
def nums (l : List Nat) : List Value := l.map fun (d : Nat) => Value.int .i64 (d : Int)
theorem nums_len (l : List Nat) : (nums l).length = l.length := by simp [nums]
/-- in the world w the slice at block g of room cap holds the numbers l -/
def SlB (B : Nat) (w : World) (g cap : Nat) (l : List Nat) : Prop := w.ownsRow B 3 1 (.slice (some ⟨g, 0, none⟩) l.length cap) l.length (nums l)
abbrev Sl := SlB 0
theorem SlB.mono {B B' : Nat} {w : World} {g cap : Nat} {l : List Nat} (h : SlB B w g cap l) (hB : B' ≤ B) : SlB B' w g cap l := by
  refine ⟨h.1, ?_⟩
  rcases h.2 with h1 | ⟨g', cap', cur, h1, h2, h3⟩
  · exact .inl h1
  · exact .inr ⟨g', cap', cur, h1, Nat.le_trans hB h2, h3⟩
theorem SlB.lt {B : Nat} {w : World} {g cap : Nat} {l : List Nat} (h : SlB B w g cap l) : B ≤ g ∧ g < w.heap.size := (World.ownsRow.lt h) g rfl
theorem SlB.kept {B k : Nat} {w w' : World} {g cap : Nat} {l : List Nat} (h : SlB B w g cap l) (hb : Below k w w') (hg : g < k) : SlB B w' g cap l := by
  refine ⟨h.1, ?_⟩
  rcases h.2 with h1 | ⟨g', cap', cur, h1, h2, h3, h4⟩
  · exact .inl h1
  · simp at h1; obtain ⟨rfl, rfl⟩ := h1
    exact .inr ⟨g, cap, cur, rfl, h2, by rw [hb.block g hg]; exact h3, h4⟩
theorem SlB.stay {B : Nat} {w w' : World} {g cap : Nat} {l : List Nat} (h : SlB B w g cap l) (hb : Below w.heap.size w w') : SlB B w' g cap l := h.kept hb h.lt.2
theorem SlB.alloc {B : Nat} {w : World} {g cap : Nat} {l : List Nat} (h : SlB B w g cap l) (o : Obj) : SlB B (w.alloc o) g cap l := World.ownsRow.alloc h o
/-- a slice that is made empty -/
theorem SlB.empty (B : Nat) (w : World) (hB : B ≤ w.heap.size) : SlB B (w.alloc (.cells #[] 3)) w.heap.size 0 [] :=
  ⟨rfl, .inr ⟨w.heap.size, 0, #[], rfl, hB, heap_alloc_new w _, Nat.le_refl _, by unfold maxLen; omega, rfl, rfl⟩⟩
theorem SlB.cut {B : Nat} {w : World} {g cap : Nat} {l : List Nat} (h : SlB B w g cap l) (k : Nat) : SlB B w g cap (l.take k) := by
  have e : nums (l.take k) = (nums l).take k := by simp [nums, List.map_take]
  refine ⟨by rw [nums_len]; omega, ?_⟩
  rcases h.2 with ⟨h1, _⟩ | ⟨g', cap', cur, h1, h2, h3, h4, h5, h6, h7⟩
  · simp at h1
  · simp at h1; obtain ⟨rfl, rfl⟩ := h1
    have hle : (l.take k).length ≤ l.length := List.length_take_le' ..
    refine .inr ⟨g, cap, cur, rfl, h2, h3, by omega, h5, h6, ?_⟩
    rw [e, ← h7, List.take_take, Nat.mul_one, List.length_take, Nat.mul_one]

theorem info_int : (Try.prog.info? 3).map (fun i => (i.zero, i.size, i.bytes)) = some (some (.int .i64 0), 1, 8) := by kernel_rfl
/-- 'out = append(out, d)' behind the making of the slice of one element -/
theorem wpList_push {ops : Array Oper} {rest : List Oper} {o : Oper} {a : Act} {Q : Exit → Act → World → Prop} (hgd : o.guard = none) (s x : Operand)
    (ho : o.op = .call { callee := .builtin .append, args := #[s, x], argTypes := #[23, 23] })
    (B : Nat) (w : World) (g cap d : Nat) (l : List Nat) (e : Int) (hs : a.eval s = .slice (some ⟨g, 0, none⟩) l.length cap) (hown : SlB B w g cap l)
    (hx : a.eval x = .slice (some ⟨w.heap.size, 0, none⟩) 1 1) (he : e = (d : Int)) (hlen : l.length ≤ 1000000) (hB : B ≤ w.heap.size)
    (h : ∀ g' cap' w', SlB B w' g' cap' (l ++ [d]) → Below B w w' → wpList Try.prog ops Q rest (a.put o.dst (.slice (some ⟨g', 0, none⟩) (l.length + 1) cap')) w') :
    wpList Try.prog ops Q (o :: rest) a (w.alloc (.cells #[.int .i64 e] 3)) := by
  subst he
  obtain ⟨i0, hi, hz0, hz1, hz2⟩ := info_parts info_int
  refine wpList_append_own _ hgd s x 23 ho B 3 i0 (.int .i64 0) 1 8 Try.underlying23 hi hz0 hz1 hz2 rfl (by decide) _ l.length (nums l) hs (World.ownsRow.alloc hown _) ⟨w.heap.size, 0, none⟩ 1 1 [.int .i64 (d : Int)] hx rfl ?_ ?_ ?_ ?_ ?_ ?_
  · intro j u hj
    match j, hj with
    | 0, hj => simp at hj; subst hj; simp [Addr.add]
  · intro u hu; simp at hu; subst hu; rfl
  · unfold maxLen; omega
  · omega
  · simp; omega
  · intro v' w' hown' hgr hnil
    have e1 : nums l ++ [.int .i64 (d : Int)] = nums (l ++ [d]) := by simp [nums]
    rw [e1] at hown'
    have hb : Below B w w' := ((Below.refl B w).alloc hB _).grown hgr (by simp; omega) (fun k hk => by simp [Value.ownBlock] at hk; have := hown.lt.1; omega)
    rcases hown'.2 with ⟨h1, h2⟩ | ⟨g', cap', cur, h1, h2⟩
    · omega
    · subst h1
      refine h g' cap' w' ?_ hb
      have : SlB B w' g' cap' (l ++ [d]) := by unfold SlB; simpa using hown'
      exact this
theorem SlB.cell {B : Nat} {w : World} {g cap : Nat} {l : List Nat} (h : SlB B w g cap l) (j : Nat) (hj : j < l.length) : w.cell? ⟨g, j, none⟩ = some (.int .i64 (l[j] : Nat)) := by
  rw [World.ownsRow.cellAt h j (by omega)]; simp [nums, hj]
theorem SlB.small {B : Nat} {w : World} {g cap : Nat} {l : List Nat} (h : SlB B w g cap l) : l.length ≤ cap ∧ cap ≤ maxLen ∧ g < w.heap.size := by
  have hl := (World.ownsRow.lt h) g rfl
  rcases h.2 with ⟨h1, _⟩ | ⟨g', cap', cur, h1, _, _, h2, h3, _⟩
  · simp at h1
  · simp at h1; obtain ⟨rfl, rfl⟩ := h1; exact ⟨h2, h3, hl.2⟩

theorem getD_get (l : List Nat) (p : Nat) (h : p < l.length) : l.getD p 0 = l[p] := by simp [h]
theorem nums_set (l : List Nat) (j d : Nat) : nums (l.set j d) = (nums l).set j (.int .i64 (d : Int)) := by simp [nums, List.map_set]
theorem nums_zeros (n : Nat) : nums (List.replicate n 0) = List.replicate n (.int .i64 0) := by simp [nums]
/-- a number is stored -/
theorem SlB.store {B : Nat} {w : World} {g cap : Nat} {l : List Nat} (h : SlB B w g cap l) (j d : Nat) :
    SlB B (w.setCell ⟨g, j, none⟩ (.int .i64 (d : Int))) g cap (l.set j d) := by
  have := (World.ownsRow.stored h j (.int .i64 (d : Int))).1
  rw [← nums_set] at this
  unfold SlB; rwa [List.length_set]
theorem SlB.drawn {B : Nat} {w : World} {g cap : Nat} {l : List Nat} (h : SlB B w g cap l) (k : Nat) : SlB B (w.drewN k) g cap l := h
theorem SlB.drew {B : Nat} {w : World} {g cap : Nat} {l : List Nat} (h : SlB B w g cap l) : SlB B w.drew g cap l := h
theorem SlB.free {B : Nat} {w : World} {g cap : Nat} {l : List Nat} (h : SlB B w g cap l) (j : Nat) : w.frozen? ⟨g, j, none⟩ = false := World.ownsRow.frozenAt h j
theorem SlB.at {B : Nat} {w : World} {g cap : Nat} {l : List Nat} (h : SlB B w g cap l) (j : Nat) (hj : j < l.length) : w.cell? ⟨g, j, none⟩ = some (.int .i64 (l.getD j 0 : Nat)) := by
  rw [h.cell j hj, getD_get l j hj]

/-- 'make([]int, n)' -/
theorem wpList_zeros {ops : Array Oper} {rest : List Oper} {o : Oper} {a : Act} {Q : Exit → Act → World → Prop} (w : World) (hg : o.guard = none) (x y : Operand) (hop : o.op = Op.makeSlice 23 x y)
    (B n : Nat) (C D : Int) (hl : a.eval x = .int .i64 C) (hc : a.eval y = .int .i64 D) (hC : C = (n : Int)) (hD : D = (n : Int)) (hn : n ≤ 1000000) (hB : B ≤ w.heap.size)
    (h : ∀ w', SlB B w' w.heap.size n (List.replicate n 0) → Below w.heap.size w w' → wpList Try.prog ops Q rest (a.put o.dst (.slice (some ⟨w.heap.size, 0, none⟩) n n)) w') :
    wpList Try.prog ops Q (o :: rest) a w := by
  obtain ⟨i0, hi, hz0, hz1, hz2⟩ := info_parts info_int
  refine wpList_make_full w hg x y 23 hop B 3 i0 (.int .i64 0) 1 Try.underlying23 hi hz0 hz1 .i64 .i64 C D n hl hc hC hD (by rw [hz2]; omega) (by unfold maxLen; omega) hB ?_
  intro w' hown hgr
  refine h w' ?_ ((Below.refl _ w).grown hgr (Nat.le_refl _) (fun k hk => by simp at hk))
  unfold SlB
  rw [nums_zeros, List.length_replicate]
  rw [show (Value.int .i64 0).cells = #[.int .i64 0] from rfl, Nat.mul_one, toList_madeCells_one] at hown
  exact hown


/-- two neighbours, or any two, exchanged -/
def swapL (l : List Nat) (p q : Nat) : List Nat := (l.set p (l.getD q 0)).set q (l.getD p 0)
theorem swapL_len (l : List Nat) (p q : Nat) : (swapL l p q).length = l.length := by simp [swapL]
theorem SlB.swap1 {B : Nat} {w : World} {g cap : Nat} {l : List Nat} {p q : Nat} (h : SlB B w g cap l) :
    SlB B ((w.setCell ⟨g, p, none⟩ (.int .i64 ((l.getD q 0 : Nat) : Int))).setCell ⟨g, q, none⟩ (.int .i64 ((l.getD p 0 : Nat) : Int))) g cap (swapL l p q) :=
  (h.store p _).store q _
theorem SlB.swap2 {B : Nat} {w : World} {g cap : Nat} {l : List Nat} {p q : Nat} (hne : p ≠ q) (h : SlB B w g cap l) :
    SlB B ((w.setCell ⟨g, q, none⟩ (.int .i64 ((l.getD p 0 : Nat) : Int))).setCell ⟨g, p, none⟩ (.int .i64 ((l.getD q 0 : Nat) : Int))) g cap (swapL l p q) := by
  have := (h.store q (l.getD p 0)).store p (l.getD q 0)
  unfold swapL
  rw [List.set_comm _ _ hne]; exact this
end Go.Proofs.Ytpkokolhmcophaa.sl
