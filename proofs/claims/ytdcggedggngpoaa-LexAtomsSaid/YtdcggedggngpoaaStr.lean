/- Slices of strings: one's own, and one that comes in; names, quoted, with blanks between. -/
import Derived.Test.YtdcggedggngpoaaQuo
import Derived.Test.YtdcggedggngpoaaRfU
import Derived.SliceStrings
namespace Go.Proofs.Ytdcggedggngpoaa.lx
open Go.RowKit Go.ChangeShapes Go.WideShapes

/-! ### one's own -/
def strC (z : List ByteArray) : List Value := z.map .string
theorem strC_len (z : List ByteArray) : (strC z).length = z.length := by simp [strC]
theorem strC_append (a b : List ByteArray) : strC (a ++ b) = strC a ++ strC b := by simp [strC]
theorem str_info : (Try.prog.info? 9).map (fun i => (i.zero, i.size, i.bytes)) = some (some (.string ⟨#[]⟩), 1, 16) := by kernel_rfl
/-- the slice at block g of room cap, the call's own, holds the strings z -/
def Sk (B : Nat) (w : World) (g cap : Nat) (z : List ByteArray) : Prop := w.ownsRow B 9 1 (.slice (some ⟨g, 0, none⟩) z.length cap) z.length (strC z)
theorem Sk.lt {B : Nat} {w : World} {g cap : Nat} {z : List ByteArray} (h : Sk B w g cap z) : B ≤ g ∧ g < w.heap.size := (World.ownsRow.lt h) g rfl
theorem Sk.empty (B : Nat) (w : World) (hB : B ≤ w.heap.size) : Sk B (w.alloc (.cells #[] 9)) w.heap.size 0 [] :=
  ⟨rfl, .inr ⟨w.heap.size, 0, #[], rfl, hB, heap_alloc_new w _, Nat.le_refl _, by unfold maxLen; omega, rfl, rfl⟩⟩
theorem Sk.stay {B g cap : Nat} {w w' : World} {z : List ByteArray} (h : Sk B w g cap z) (hb : Below w.heap.size w w') : Sk B w' g cap z :=
  World.ownsRow.kept (row := none) h ⟨hb.os, hb.tape, hb.output, hb.size, fun k hk _ => hb.block k hk⟩ (by simp [Value.ownBlock])
theorem addr_add (g j : Nat) : (⟨g, 0, none⟩ : Addr).add j = ⟨g, j, none⟩ := by
  by_cases h0 : j = 0
  · subst h0; simp [Addr.add]
  · simp [Addr.add, h0]
theorem Sk.cell {B g cap : Nat} {w : World} {z : List ByteArray} (h : Sk B w g cap z) (i : Nat) (hi : i < z.length) : w.cell? ⟨g, i, none⟩ = some (.string z[i]) := by
  have := World.ownsRow.cells h (g := g) rfl i (.string z[i]) (by simp [strC, hi])
  rwa [addr_add] at this
theorem Sk.room {B g cap : Nat} {w : World} {z : List ByteArray} (h : Sk B w g cap z) : z.length ≤ cap := by
  rcases h.2 with ⟨h1, h2⟩ | ⟨g', cap', cur, h1, _, _, h4, _⟩
  · simp at h1
  · simp at h1; omega
/-- one string more -/
theorem wpList_pushS {ops : Array Oper} {rest : List Oper} {o : Oper} {a : Act} {Q : Exit → Act → World → Prop} (hgd : o.guard = none) (s x : Operand)
    (ho : o.op = .call { callee := .builtin .append, args := #[s, x], argTypes := #[31, 31] })
    (B : Nat) (w : World) (g cap : Nat) (z : List ByteArray) (t : ByteArray) (hs : a.eval s = .slice (some ⟨g, 0, none⟩) z.length cap) (hown : Sk B w g cap z)
    (hx : a.eval x = .slice (some ⟨w.heap.size, 0, none⟩) 1 1) (hlen : z.length ≤ 100000) (hB : B ≤ w.heap.size)
    (h : ∀ g' cap' w', Sk B w' g' cap' (z ++ [t]) → Below B w w' → wpList Try.prog ops Q rest (a.put o.dst (.slice (some ⟨g', 0, none⟩) (z.length + 1) cap')) w') :
    wpList Try.prog ops Q (o :: rest) a (w.alloc (.cells #[.string t] 9)) := by
  obtain ⟨i0, hi, hz0, hz1, hz2⟩ := info_parts str_info
  have hb0 : (w.alloc (.cells #[.string t] 9)).heap[w.heap.size]? = some (.cells #[.string t] 9 (0, 0)) := heap_alloc_new w _
  refine wpList_append_own _ hgd s x 31 ho B 9 i0 (.string ⟨#[]⟩) 1 16 Try.underlying31 hi hz0 hz1 hz2 rfl (by decide) _ z.length (strC z) hs (World.ownsRow.alloc hown _) ⟨w.heap.size, 0, none⟩ 1 1 [.string t] hx rfl ?_ ?_ ?_ ?_ ?_ ?_
  · intro j u hj
    rw [addr_add, cell_at hb0, ← Array.getElem?_toList]; exact hj
  · intro u hu; simp at hu; subst hu; rfl
  · unfold maxLen; omega
  · omega
  · show B ≤ (w.heap.push _).size; simp; omega
  · intro v' w' hown' hgr hnil
    have e1 : strC z ++ [.string t] = strC (z ++ [t]) := by simp [strC]
    rw [e1] at hown'
    have hb : Below B w w' := ((Below.refl B w).alloc hB _).grown hgr (by show B ≤ (w.heap.push _).size; simp; omega) (fun k hk => by simp [Value.ownBlock] at hk; have := hown.lt.1; omega)
    rcases hown'.2 with ⟨h1, h2⟩ | ⟨g', cap', cur, h1, h2⟩
    · omega
    · subst h1
      refine h g' cap' w' ?_ hb
      unfold Sk
      rw [List.length_append]; exact hown'

/-! ### one that comes in -/
/-- the slice value of address a and room cap holds the strings z -/
def SRow (w : World) (a : Option Addr) (cap : Nat) (z : List ByteArray) : Prop :=
  z.length ≤ cap ∧ cap ≤ maxLen ∧ (∀ s ∈ z, s.size ≤ maxLen) ∧ ∀ i (h : i < z.length), ∃ x, a = some x ∧ w.cell? (x.add i) = some (.string (z[i]))
theorem SRow.kept {B : Nat} {w w' : World} {a : Option Addr} {cap : Nat} {z : List ByteArray} (h : SRow w a cap z) (hb : Below B w w') (hB : B = w.heap.size) : SRow w' a cap z := by
  subst hB
  refine ⟨h.1, h.2.1, h.2.2.1, fun i hi => ?_⟩
  obtain ⟨x, hx, hc⟩ := h.2.2.2 i hi
  exact ⟨x, hx, by rw [hb.cell (World.block_lt_of_cell? w _ hc)]; exact hc⟩
theorem SRow.cells {w : World} {a : Option Addr} {cap : Nat} {z : List ByteArray} (h : SRow w a cap z) {i : Nat} (hi : i < z.length) : ∃ x, a = some x ∧ w.cell? (x.add i) = some (.string (z[i])) := h.2.2.2 i hi
section
variable {H : Type} {enc : TypeId × Value → H} {P : Program} {w : World}
theorem srow_of {t e : TypeId} {v : Value} {d : DataW H} {p : List MemPlace} {a : Option Addr} {len cap : Nat} (ht : P.underlying t = some (.slice e)) (he : P.underlying e = some .string) (hc : P.cellsOf e = 1) (hv : v = .slice a len cap)
    (h : DataW.Trod enc P w 0 (fun _ => true) true t v d p) : ∃ z : List ByteArray, z.length = len ∧ SRow w a cap z := by
  subst hv
  obtain ⟨fuel, hf⟩ := h
  rcases open_strings ht he hc hf with ⟨hcs, _⟩ | ⟨ad, len', cap', ss, hcs, hb, hl, hm, hn, _, hcell, hsz⟩
  · simp [Value.cells] at hcs
    obtain ⟨rfl, rfl, rfl⟩ := hcs
    exact ⟨[], rfl, Nat.le_refl _, Nat.zero_le _, (fun x hx => nomatch hx), fun i hi => absurd hi (Nat.not_lt_zero _)⟩
  · simp [Value.cells] at hcs
    obtain ⟨rfl, rfl, rfl⟩ := hcs
    simp only [if_true] at hn
    have hlen : (ss.take len).length = len := by rw [List.length_take]; omega
    refine ⟨ss.take len, hlen, by omega, hm, fun s hs => hsz s (List.mem_of_mem_take hs), fun i hi => ⟨ad, rfl, ?_⟩⟩
    rw [hcell i (by omega)]
    rw [List.getElem_take, List.getD_eq_getElem?_getD, List.getElem?_eq_getElem (by omega), Option.getD_some]
end

/-! ### names, quoted, with blanks between -/
def qB (s : ByteArray) : List UInt8 := quoteS s.data.toList
def catQ : List ByteArray → List UInt8
  | [] => []
  | s :: z => (if qB s = [] then [] else qB s ++ [32]) ++ catQ z
def wants : List ByteArray → List ByteArray
  | [] => []
  | s :: z => if qB s = [] then wants z else s :: wants z
theorem catQ_append (a b : List ByteArray) : catQ (a ++ b) = catQ a ++ catQ b := by
  induction a with
  | nil => rfl
  | cons s a ih => rw [List.cons_append, catQ, catQ, ih, List.append_assoc]
theorem wants_append (a b : List ByteArray) : wants (a ++ b) = wants a ++ wants b := by
  induction a with
  | nil => rfl
  | cons s a ih => rw [List.cons_append, wants, wants, ih]; split <;> rfl
theorem wants_len (z : List ByteArray) : (wants z).length ≤ z.length := by
  induction z with
  | nil => exact Nat.le_refl _
  | cons s z ih => rw [wants]; split <;> simp only [List.length_cons] <;> omega
def many (z : List ByteArray) : Nat := (z.map fun s => min s.size 1048576).sum
theorem many_append (a b : List ByteArray) : many (a ++ b) = many a + many b := by simp [many]
theorem catQ_len (z : List ByteArray) (h : ∀ s ∈ z, s.size ≤ 1024) : (catQ z).length ≤ 3 * (z.length + many z) := by
  induction z with
  | nil => exact Nat.zero_le _
  | cons s z ih =>
    have h1 := ih fun x hx => h x (by simp [hx])
    have h2 := quote_len s.data.toList
    have h3 : s.data.toList.length = s.size := by simp
    have h4 := h s (by simp)
    have h5 : many (s :: z) = min s.size 1048576 + many z := by simp [many]
    rw [catQ, List.length_append, List.length_cons]
    have h6 : (if qB s = [] then ([] : List UInt8) else qB s ++ [32]).length ≤ 2 * s.size + 3 := by
      split
      · exact Nat.zero_le _
      · rw [List.length_append, List.length_singleton]; unfold qB; omega
    omega
theorem many_take (z : List ByteArray) (i : Nat) (h : i < z.length) : many (z.take (i + 1)) = many (z.take i) + min z[i].size 1048576 := by
  rw [← List.take_append_getElem h, many_append]; simp [many]
theorem many_each (z : List ByteArray) (h : many z ≤ 1024) : ∀ s ∈ z, s.size ≤ 1024 := by
  induction z with
  | nil => intro s hs; cases hs
  | cons x z ih =>
    have h5 : many (x :: z) = min x.size 1048576 + many z := by simp [many]
    intro s hs
    rcases List.mem_cons.1 hs with rfl | hs
    · omega
    · exact ih (by omega) s hs
theorem catQ_take (z : List ByteArray) (i : Nat) (h : i < z.length) : catQ (z.take (i + 1)) = catQ (z.take i) ++ (if qB z[i] = [] then [] else qB z[i] ++ [32]) := by
  rw [← List.take_append_getElem h, catQ_append]; simp [catQ]
theorem wants_take (z : List ByteArray) (i : Nat) (h : i < z.length) : wants (z.take (i + 1)) = wants (z.take i) ++ (if qB z[i] = [] then [] else [z[i]]) := by
  rw [← List.take_append_getElem h, wants_append]; simp only [wants]
theorem atoms_all (z : List ByteArray) : ∀ (T : List Tok) (d : Nat), Ahead T d → T.length + (wants z).length ≤ 1000 →
    ∃ A : List Tok, ans 1000 (catQ z) T d .btw = .ok (T ++ A) ∧ A.map (fun t => (t.kind, t.text)) = (wants z).map fun s => (1, s.data.toList) := by
  induction z with
  | nil => intro T d _ _; exact ⟨[], by rw [List.append_nil]; rfl, rfl⟩
  | cons s z ih =>
    intro T d hT hn
    rw [catQ]
    rw [wants] at hn ⊢
    by_cases hq : qB s = []
    · rw [if_pos hq] at hn ⊢
      rw [if_pos hq, List.nil_append]
      exact ih T d hT hn
    · rw [if_neg hq] at hn ⊢
      rw [if_neg hq, List.append_assoc, List.singleton_append]
      rw [List.length_cons] at hn
      have h1 := atoms_run (quote_toks hq) (catQ z) hT (by omega)
      have h2 : ans 1000 (qB s ++ 32 :: catQ z) T d .btw = _ := h1
      obtain ⟨A, hA, hm⟩ := ih (T ++ [⟨1, s.data.toList, d, d + (qB s).length⟩]) (d + (qB s).length + 1) (ahead_snoc _ _ (by show d + (qB s).length < _; omega)) (by rw [List.length_append, List.length_singleton]; omega)
      refine ⟨⟨1, s.data.toList, d, d + (qB s).length⟩ :: A, ?_, by rw [List.map_cons, List.map_cons, hm]⟩
      rw [h2]
      refine hA.trans ?_
      rw [List.append_assoc, List.singleton_append]
/-- so many atoms with these texts -/
theorem atoms_toks {z : List ByteArray} (h1 : (catQ z).length ≤ 4096) (h2 : (wants z).length ≤ 1000) : ∃ A : List Tok, toksD (catQ z) = .ok A ∧ A.length = (wants z).length ∧
    ∀ i (hi : i < A.length) (hj : i < (wants z).length), A[i].kind = 1 ∧ (⟨A[i].text.toArray⟩ : ByteArray) = (wants z)[i] := by
  obtain ⟨A, hA, hm⟩ := atoms_all z [] 0 (fun t ht => by cases ht) (by simpa using h2)
  have hl : A.length = (wants z).length := by have := congrArg List.length hm; simpa using this
  refine ⟨A, ?_, hl, fun i hi hj => ?_⟩
  · unfold toksD
    rw [if_neg (by omega)]
    exact hA
  · have := congrArg (·[i]?) hm
    simp only [List.getElem?_map, List.getElem?_eq_getElem hi, List.getElem?_eq_getElem hj, Option.map_some, Option.some.injEq, Prod.mk.injEq] at this
    refine ⟨this.1, ?_⟩
    rw [this.2]
end Go.Proofs.Ytdcggedggngpoaa.lx
