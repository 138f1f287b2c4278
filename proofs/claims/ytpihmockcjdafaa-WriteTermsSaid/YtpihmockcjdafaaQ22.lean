/- What stands as a term, whether it may or not: its parts in memory, how many they are, which may be written.; The writer: a builder that lies ahead of the names, written and read.; The text of what may be written, part by part. Plain lists.; The program's Good: whether a part may be written; the closure that counts; Good. -/
import Derived.Test.YtpihmockcjdafaaQ5
import Derived.Test.YtpihmockcjdafaaQ7
import Derived.Test.YtpihmockcjdafaaQ3
import Derived.Test.YtpihmockcjdafaaQ12
set_option linter.unusedVariables false
set_option linter.unusedSimpArgs false
section
/- What stands as a term, whether it may or not: its parts in memory, how many they are, which may be written. -/
namespace Go.Proofs.Ytpihmockcjdafaa.wr
open Go.RowKit
open Go.Proofs.Ytpihmockcjdafaa.rd
open Go.Proofs.Ytpihmockcjdafaa.op (bs strC)
open Go.Proofs.Ytpihmockcjdafaa.lx (quoteS cell_at isOne toks Qn)
open Go.Proofs.Ytpihmockcjdafaa.nm (Fit)
set_option maxRecDepth 20000

/-- a kind, a number, a name, parts -/
inductive U where
  | mk (k n : Int) (s : List UInt8) (l : List U)
def U.k : U → Int | .mk k _ _ _ => k
def U.n : U → Int | .mk _ n _ _ => n
def U.s : U → List UInt8 | .mk _ _ s _ => s
def U.l : U → List U | .mk _ _ _ l => l
def dfU : U := .mk 0 0 [] []
mutual
/-- the term that counts -/
def er : U → T
  | .mk k n s l => if k = 4 then .cmp s (erL l) else .leaf k.toNat n s
def erL : List U → List T
  | [] => []
  | u :: l => er u :: erL l
end
mutual
/-- each part may be written -/
def okU : U → Prop
  | .mk k n s l => (k = 1 ∧ 0 ≤ n) ∨ k = 2 ∨ (k = 3 ∧ quoteS s ≠ []) ∨ (k = 4 ∧ quoteS s ≠ [] ∧ l ≠ [] ∧ okUL l)
def okUL : List U → Prop
  | [] => True
  | u :: l => okU u ∧ okUL l
end
mutual
/-- how many parts -/
def szU : U → Nat
  | .mk k _ _ l => 1 + (if k = 4 then szUL l else 0)
def szUL : List U → Nat
  | [] => 0
  | u :: l => szU u + szUL l
end
mutual
/-- all names are such -/
def qnU : U → Prop
  | .mk _ _ s l => Qn s ∧ qnUL l
def qnUL : List U → Prop
  | [] => True
  | u :: l => qnU u ∧ qnUL l
end
mutual
/-- a is the slice of the parts; all lies in blocks ahead of b -/
def Ru (b : Nat) (w : World) : U → Value → Prop
  | .mk _ n _ l, a => ∃ (p : Option Addr) (cap : Nat), a = .slice p l.length cap ∧ l.length ≤ cap ∧ cap ≤ maxLen ∧ Fit n ∧ Rus b w l p 0
def Rus (b : Nat) (w : World) : List U → Option Addr → Nat → Prop
  | [], _, _ => True
  | u :: l, p, i => (∃ (g o : Nat) (a : Value), p = some ⟨g, o, none⟩ ∧ g < b ∧ w.cell? ⟨g, o + i * 4, none⟩ = some (.int .i64 u.k) ∧ w.cell? ⟨g, o + i * 4 + 1, none⟩ = some (.int .i64 u.n) ∧
      w.cell? ⟨g, o + i * 4 + 2, none⟩ = some (.string (bs u.s)) ∧ w.cell? ⟨g, o + i * 4 + 3, none⟩ = some a ∧ Ru b w u a) ∧ Rus b w l p (i + 1)
end
/-- a part in its place -/
def El (b : Nat) (w : World) (p : Option Addr) (i : Nat) (u : U) : Prop :=
  ∃ (g o : Nat) (a : Value), p = some ⟨g, o, none⟩ ∧ g < b ∧ w.cell? ⟨g, o + i * 4, none⟩ = some (.int .i64 u.k) ∧ w.cell? ⟨g, o + i * 4 + 1, none⟩ = some (.int .i64 u.n) ∧
      w.cell? ⟨g, o + i * 4 + 2, none⟩ = some (.string (bs u.s)) ∧ w.cell? ⟨g, o + i * 4 + 3, none⟩ = some a ∧ Ru b w u a
section
variable {b b' : Nat} {w w' : World}
theorem Ru.opened {u : U} {a : Value} (h : Ru b w u a) : ∃ (p : Option Addr) (cap : Nat), a = .slice p u.l.length cap ∧ u.l.length ≤ cap ∧ cap ≤ maxLen ∧ Fit u.n ∧ Rus b w u.l p 0 := by
  cases u; rw [Ru] at h; exact h
theorem Ru.shut {u : U} {a : Value} (h : ∃ (p : Option Addr) (cap : Nat), a = .slice p u.l.length cap ∧ u.l.length ≤ cap ∧ cap ≤ maxLen ∧ Fit u.n ∧ Rus b w u.l p 0) : Ru b w u a := by
  cases u; rw [Ru]; exact h
theorem rus_iff {p : Option Addr} : ∀ (l : List U) (j : Nat), Rus b w l p j ↔ ∀ i, i < l.length → El b w p (j + i) (l.getD i dfU)
  | [], j => by rw [Rus]; exact ⟨fun _ i hi => absurd hi (Nat.not_lt_zero _), fun _ => trivial⟩
  | u :: l, j => by
    rw [Rus, rus_iff l (j + 1)]
    constructor
    · rintro ⟨h1, h2⟩ i hi
      cases i with
      | zero => exact h1
      | succ i => have := h2 i (by simpa using hi); rw [show j + (i + 1) = j + 1 + i by omega]; simpa using this
    · intro h
      refine ⟨h 0 (by simp), fun i hi => ?_⟩
      have := h (i + 1) (by simpa using hi)
      rw [show j + (i + 1) = j + 1 + i by omega] at this
      simpa using this
mutual
theorem Ru.stay (hb : Below b w w') : ∀ {u : U} {a : Value}, Ru b w u a → Ru b w' u a
  | .mk k n s l, a, h => by
    rw [Ru] at h ⊢
    obtain ⟨p, cap, h1, h2, h3, h4, h5⟩ := h
    exact ⟨p, cap, h1, h2, h3, h4, Rus.stay hb h5⟩
theorem Rus.stay (hb : Below b w w') : ∀ {l : List U} {p : Option Addr} {i : Nat}, Rus b w l p i → Rus b w' l p i
  | [], _, _, _ => by rw [Rus]; trivial
  | u :: l, p, i, h => by
    rw [Rus] at h ⊢
    obtain ⟨⟨g, o, a, h1, h2, h3, h4, h5, h6, h7⟩, h8⟩ := h
    have hc : ∀ j, w'.cell? ⟨g, j, none⟩ = w.cell? ⟨g, j, none⟩ := fun j => by
      unfold World.cell?; rw [hb.block g h2]
    exact ⟨⟨g, o, a, h1, h2, by rw [hc]; exact h3, by rw [hc]; exact h4, by rw [hc]; exact h5, by rw [hc]; exact h6, Ru.stay hb h7⟩, Rus.stay hb h8⟩
end
mutual
theorem Ru.up (hb : b ≤ b') : ∀ {u : U} {a : Value}, Ru b w u a → Ru b' w u a
  | .mk k n s l, a, h => by
    rw [Ru] at h ⊢
    obtain ⟨p, cap, h1, h2, h3, h4, h5⟩ := h
    exact ⟨p, cap, h1, h2, h3, h4, Rus.up hb h5⟩
theorem Rus.up (hb : b ≤ b') : ∀ {l : List U} {p : Option Addr} {i : Nat}, Rus b w l p i → Rus b' w l p i
  | [], _, _, _ => by rw [Rus]; trivial
  | u :: l, p, i, h => by
    rw [Rus] at h ⊢
    obtain ⟨⟨g, o, a, h1, h2, h3, h4, h5, h6, h7⟩, h8⟩ := h
    exact ⟨⟨g, o, a, h1, Nat.lt_of_lt_of_le h2 hb, h3, h4, h5, h6, Ru.up hb h7⟩, Rus.up hb h8⟩
end
end
/-- parts behind one another at p, in a call's view -/
structure Pu (b : Nat) (w : World) (l : List U) (p : Option Addr) (cap : Nat) : Prop where
  le : l.length ≤ cap
  max : cap ≤ maxLen
  el : ∀ i, i < l.length → El b w p i (l.getD i dfU)
section
variable {b b' : Nat} {w w' : World} {l : List U} {p : Option Addr} {cap : Nat}
theorem Ru.parts {u : U} {a : Value} (h : Ru b w u a) : ∃ (p : Option Addr) (cap : Nat), a = .slice p u.l.length cap ∧ Fit u.n ∧ Pu b w u.l p cap := by
  obtain ⟨p, cap, h1, h2, h3, h4, h5⟩ := h.opened
  exact ⟨p, cap, h1, h4, h2, h3, fun i hi => by have := (rus_iff u.l 0).1 h5 i hi; rwa [Nat.zero_add] at this⟩
theorem El.stay {i : Nat} {u : U} (h : El b w p i u) (hb : Below b w w') : El b w' p i u := by
  obtain ⟨g, o, a, h1, h2, h3, h4, h5, h6, h7⟩ := h
  have hc : ∀ j, w'.cell? ⟨g, j, none⟩ = w.cell? ⟨g, j, none⟩ := fun j => by unfold World.cell?; rw [hb.block g h2]
  exact ⟨g, o, a, h1, h2, by rw [hc]; exact h3, by rw [hc]; exact h4, by rw [hc]; exact h5, by rw [hc]; exact h6, h7.stay hb⟩
theorem Pu.stay (h : Pu b w l p cap) (hb : Below b w w') : Pu b w' l p cap := ⟨h.le, h.max, fun i hi => (h.el i hi).stay hb⟩
theorem El.up {i : Nat} {u : U} (h : El b w p i u) (hb : b ≤ b') : El b' w p i u := by
  obtain ⟨g, o, a, h1, h2, h3, h4, h5, h6, h7⟩ := h
  exact ⟨g, o, a, h1, Nat.lt_of_lt_of_le h2 hb, h3, h4, h5, h6, h7.up hb⟩
theorem Pu.up (h : Pu b w l p cap) (hb : b ≤ b') : Pu b' w l p cap := ⟨h.le, h.max, fun i hi => (h.el i hi).up hb⟩
theorem Pu.take (h : Pu b w l p cap) (n : Nat) : Pu b w (l.take n) p cap := by
  refine ⟨Nat.le_trans (List.length_take_le' _ _) h.le, h.max, fun i hi => ?_⟩
  rw [List.length_take] at hi
  have := h.el i (by omega)
  rw [List.getD_eq_getElem?_getD] at this ⊢
  rwa [List.getElem?_take_of_lt (by omega)]
end
/-- a term handed over -/
abbrev uV (u : U) (a : Value) : Value := .agg #[.int .i64 u.k, .int .i64 u.n, .string (bs u.s), a]

/-! ### measures -/
theorem part_size {u : U} {i : Nat} (hi : i < u.l.length) : SizeOf.sizeOf (u.l.getD i dfU) < SizeOf.sizeOf u := by
  cases u with
  | mk k n s l =>
    have hi' : i < l.length := hi
    show SizeOf.sizeOf (l.getD i dfU) < _
    have : l.getD i dfU ∈ l := by rw [show l.getD i dfU = l[i] by simp [hi']]; exact List.getElem_mem _
    have := List.sizeOf_lt_of_mem this
    simp only [U.mk.sizeOf_spec]; omega
theorem szUL_len : ∀ (l : List U), l.length ≤ szUL l
  | [] => Nat.le_refl _
  | u :: l => by
    have := szUL_len l
    cases u; simp only [szUL, szU, List.length_cons]; omega
theorem szU_pos (u : U) : 1 ≤ szU u := by cases u; rw [szU]; omega
theorem drop_cons {l : List U} {i : Nat} (hi : i < l.length) : l.drop i = l.getD i dfU :: l.drop (i + 1) := by
  rw [List.drop_eq_getElem_cons hi]; simp [hi]
theorem okUL_at : ∀ {l : List U}, okUL l → ∀ i, i < l.length → okU (l.getD i dfU)
  | [], _, i, hi => absurd hi (Nat.not_lt_zero _)
  | u :: l, h, i, hi => by
    rw [okUL] at h
    cases i with
    | zero => exact h.1
    | succ i => have := okUL_at h.2 i (by simpa using hi); simpa using this
theorem qnUL_at : ∀ {l : List U}, qnUL l → ∀ i, i < l.length → qnU (l.getD i dfU)
  | [], _, i, hi => absurd hi (Nat.not_lt_zero _)
  | u :: l, h, i, hi => by
    rw [qnUL] at h
    cases i with
    | zero => exact h.1
    | succ i => have := qnUL_at h.2 i (by simpa using hi); simpa using this
theorem qnU.sp {u : U} (h : qnU u) : Qn u.s ∧ qnUL u.l := by cases u; rw [qnU] at h; exact h
theorem erL_len : ∀ (l : List U), (erL l).length = l.length
  | [] => rfl
  | u :: l => by rw [erL, List.length_cons, List.length_cons, erL_len l]
theorem okU_iff (u : U) : okU u ↔ (u.k = 1 ∧ 0 ≤ u.n) ∨ u.k = 2 ∨ (u.k = 3 ∧ quoteS u.s ≠ []) ∨ (u.k = 4 ∧ quoteS u.s ≠ [] ∧ u.l ≠ [] ∧ okUL u.l) := by
  cases u; rw [okU]; exact Iff.rfl
theorem szU_eq (u : U) : szU u = 1 + (if u.k = 4 then szUL u.l else 0) := by cases u; rw [szU]; rfl
theorem er_eq (u : U) : er u = if u.k = 4 then .cmp u.s (erL u.l) else .leaf u.k.toNat u.n u.s := by cases u; rw [er]; rfl

end Go.Proofs.Ytpihmockcjdafaa.wr
end
section
/- The writer: a builder that lies ahead of the names, written and read. -/
namespace Go.Proofs.Ytpihmockcjdafaa.wr
open Go.RowKit
open Go.Proofs.Ytpihmockcjdafaa.lx (cell_at bl_info u8_info owns_slice)
open Go.Proofs.Ytpihmockcjdafaa.rd (heap_set_at lt_of)

/-- all is as it was but for the writer and rows of bytes behind it -/
structure Fw (r : Nat) (w w' : World) : Prop where
  os : w'.os = w.os
  tape : w'.tape = w.tape
  output : w'.output = w.output
  size : w.heap.size ≤ w'.heap.size
  block : ∀ k, k < w.heap.size → k ≠ r → (k < r ∨ ∀ cs fr, w.heap[k]? ≠ some (.cells cs 5 fr)) → w'.heap[k]? = w.heap[k]?
section
variable {r : Nat} {w w' w'' : World}
theorem Fw.refl (r : Nat) (w : World) : Fw r w w := ⟨rfl, rfl, rfl, Nat.le_refl _, fun _ _ _ _ => rfl⟩
theorem Fw.trans (h : Fw r w w') (k : Fw r w' w'') : Fw r w w'' :=
  ⟨k.os.trans h.os, k.tape.trans h.tape, k.output.trans h.output, Nat.le_trans h.size k.size,
    fun j hj hr hn => (k.block j (Nat.lt_of_lt_of_le hj h.size) hr (hn.imp id fun hs cs fr e => hs cs fr (by rw [← h.block j hj hr hn]; exact e))).trans (h.block j hj hr hn)⟩
theorem Fw.of (h : Below w.heap.size w w') : Fw r w w' := ⟨h.os, h.tape, h.output, h.size, fun k hk _ _ => h.block k hk⟩
theorem Fw.set (h : Fw r w w') (j : Nat) (v : Value) : Fw r w (w'.setCell ⟨r, j, none⟩ v) :=
  ⟨h.os, h.tape, h.output, by simpa [World.setCell] using h.size, fun k hk hr hn => (Below.heap_setCell _ _ _ _ (by show k ≠ r; exact hr)).trans (h.block k hk hr hn)⟩
/-- whatever is no writer and no bytes lies as it lay -/
theorem Fw.keep (h : Fw r w w') {k : Nat} {cs : Array Value} {t : TypeId} {fr : Nat × Nat} (hk : w.heap[k]? = some (.cells cs t fr)) (hr : k ≠ r) (h2 : t ≠ 5) : w'.heap[k]? = some (.cells cs t fr) := by
  rw [h.block k (lt_of hk) hr (.inr fun cs' fr' e => by rw [hk] at e; cases e; exact h2 rfl)]; exact hk
theorem Fw.below (h : Fw r w w') (hr : r ≤ w.heap.size) : Below r w w' := ⟨h.os, h.tape, h.output, h.size, fun k hk => h.block k (by omega) (by omega) (.inl hk)⟩
end
/-- block r is a writer: its names nv, its bytes l -/
structure Wu (r : Nat) (q v nv : Value) (l : List UInt8) (w : World) : Prop where
  ptr : q = .pointer none ∨ q = .pointer (some ⟨r, 0, none⟩)
  head : w.heap[r]? = some (.cells #[q, v, nv] 57 (0, 0))
  row : w.ownsRowF r 5 1 v l.length (Lib.byteCells l)
  apart : v.ownBlock ≠ some r
def Wb (r : Nat) (nv : Value) (l : List UInt8) (w : World) : Prop := ∃ q v, Wu r q v nv l w
theorem wr_lies : liesAt Try.prog Try.prog.depth 57 (3 / Try.prog.cellsOf 57) 0 55 1 = true := by kernel_rfl
section
variable {r : Nat} {q v v' nv : Value} {l m : List UInt8} {w w0 W w2 : World}
theorem Wu.reads (hh : w.heap[r]? = some (.cells #[q, v, nv] 57 (0, 0))) :
    w.cell? ⟨r, 0, none⟩ = some q ∧ w.cell? ⟨r, 1, none⟩ = some v ∧ w.cell? ⟨r, 2, none⟩ = some nv ∧ w.frozen? ⟨r, 0, none⟩ = false ∧ w.frozen? ⟨r, 1, none⟩ = false ∧ w.shape? r = some (57, 3) :=
  ⟨(cell_at hh 0).trans rfl, (cell_at hh 1).trans rfl, (cell_at hh 2).trans rfl, by simp [World.frozen?, hh], by simp [World.frozen?, hh], by simp [World.shape?, hh]⟩
theorem Wu.lt (h : Wu r q v nv l w) : r < w.heap.size := lt_of h.head
theorem Wb.lt (h : Wb r nv l w) : r < w.heap.size := by obtain ⟨q, v, h⟩ := h; exact h.lt
theorem Wu.stay (h : Wu r q v nv l w) (hb : Below w.heap.size w w2) : Wu r q v nv l w2 := by
  refine ⟨h.ptr, by rw [hb.block r h.lt]; exact h.head, ⟨h.row.1, ?_⟩, h.apart⟩
  rcases h.row.2 with h1 | ⟨g, c, cur, fz, h1, h2, h3, h4⟩
  · exact .inl h1
  · exact .inr ⟨g, c, cur, fz, h1, h2, by rw [hb.block g (lt_of h3)]; exact h3, h4⟩
theorem Wb.stay (h : Wb r nv l w) (hb : Below w.heap.size w w2) : Wb r nv l w2 := by
  obtain ⟨q, v, h⟩ := h; exact ⟨q, v, h.stay hb⟩
/-- a store into a block that is neither the writer nor bytes -/
theorem Wu.kept (h : Wu r q v nv l w) (hr : w2.heap[r]? = w.heap[r]?) (hk : ∀ (k : Nat) (cs : Array Value) (fr : Nat × Nat), w.heap[k]? = some (.cells cs 5 fr) → w2.heap[k]? = some (.cells cs 5 fr)) : Wu r q v nv l w2 := by
  refine ⟨h.ptr, by rw [hr]; exact h.head, ⟨h.row.1, ?_⟩, h.apart⟩
  rcases h.row.2 with h1 | ⟨g, c, cur, fz, h1, h2, h3, h4⟩
  · exact .inl h1
  · exact .inr ⟨g, c, cur, fz, h1, h2, hk _ _ _ h3, h4⟩
theorem Wb.set (h : Wb r nv l w) {p : Addr} {cs : Array Value} {t : TypeId} {fr : Nat × Nat} (hp : w.heap[p.block]? = some (.cells cs t fr)) (hr : p.block ≠ r) (ht : 5 ≠ t) (u : Value) : Wb r nv l (w.setCell p u) := by
  obtain ⟨q, v, h⟩ := h
  exact ⟨q, v, h.kept (Below.heap_setCell _ _ _ _ (fun e => hr e.symm)) fun k cs' fr' hk => by rw [Below.heap_setCell _ _ _ _ (fun e => by subst e; rw [hp] at hk; cases hk; exact ht rfl)]; exact hk⟩
/-- the head's pointer is stored -/
theorem Wu.used (h : Wu r q v nv l w) : Wu r (.pointer (some ⟨r, 0, none⟩)) v nv l (w.setCell ⟨r, 0, none⟩ (.pointer (some ⟨r, 0, none⟩))) := by
  refine ⟨.inr rfl, by rw [heap_set_at h.head]; rfl, ?_, h.apart⟩
  exact h.row.kept (row := some r) ⟨rfl, rfl, rfl, by simp [World.setCell], fun k _ hk => Below.heap_setCell _ _ _ _ (fun e => hk (by simp [e]))⟩ (.inr h.apart)
/-- its slice was appended to: the head is as it was -/
theorem Wu.grew (h : Wu r q v nv l w) (hg : w.grownBy w2 v.ownBlock) : w2.heap[r]? = w.heap[r]? := hg.block r h.lt h.apart.symm
/-- the longer slice is stored -/
theorem Wu.stored (h : Wu r q v nv l w) (h2 : w2.heap[r]? = w.heap[r]?) (n : Nat) (cs : List Value) (hn : n = (l ++ m).length) (hcs : cs = Lib.byteCells (l ++ m)) (ho : w2.ownsRowF r 5 1 v' n cs) : Wu r q v' nv (l ++ m) (w2.setCell ⟨r, 1, none⟩ v') := by
  subst hn hcs
  have hb := h2.trans h.head
  have hne := Lib.ownBlock_neF ho hb (by decide)
  refine ⟨h.ptr, by rw [heap_set_at hb]; rfl, ?_, hne⟩
  exact ho.kept (row := some r) ⟨rfl, rfl, rfl, by simp [World.setCell], fun k _ hk => Below.heap_setCell _ _ _ _ (fun e => hk (by simp [e]))⟩ (.inr hne)
theorem Wu.frame (h : Wu r q v nv l w) (h0 : Fw r w0 w) (hg : w.grownBy w2 v.ownBlock) : Fw r w0 (w2.setCell ⟨r, 1, none⟩ v') := by
  refine (h0.trans ⟨hg.os, hg.tape, hg.output, hg.size, fun k hk hr hn => hg.block k hk fun e => ?_⟩).set 1 v'
  rcases h.row.2 with ⟨h1, _⟩ | ⟨g, c, cur, fz, h1, h2, h3, _⟩
  · rw [h1] at e; cases e
  · rw [h1] at e
    simp only [Value.ownBlock, Option.some.injEq] at e
    subst e
    rcases hn with hn | hn
    · omega
    · exact hn _ _ h3
end
set_option maxRecDepth 20000 in
theorem wcheck_used (r : Nat) (w : World) (h0 : w.cell? ⟨r, 0, none⟩ = some (.pointer (some ⟨r, 0, none⟩))) :
    Calls Try.prog 57 #[.pointer (some ⟨r, 0, none⟩)] w fun e w' => e = .returned (.tuple #[]) ∧ w = w' := lx.check_used r w h0
set_option maxRecDepth 20000 in
theorem wcheck_fresh (r : Nat) (w : World) (h0 : w.cell? ⟨r, 0, none⟩ = some (.pointer none)) (hsh : w.shape? r = some (57, 3)) (hfz : w.frozen? ⟨r, 0, none⟩ = false) :
    Calls Try.prog 57 #[.pointer (some ⟨r, 0, none⟩)] w fun e w' => e = .returned (.tuple #[]) ∧ w' = w.setCell ⟨r, 0, none⟩ (.pointer (some ⟨r, 0, none⟩)) := by
  obtain ⟨j, hj, hjs⟩ := Option.map_eq_some_iff.1 bl_info
  go_enter Try.func57, Try.ntmps57
  go_wp2
  rw [Lib.run_to_unsafe w ⟨r, 0, none⟩ Try.underlying52 Try.underlying100 hj (by rw [hjs]; decide) hsh (Nat.zero_lt_succ 2)]
  simp only [Result.andThen]
  rw [Oper.upon_value]
  go_wp2
  rw [run_callFunc_extern Try.func70 (by kernel_rfl) (by kernel_rfl) (by kernel_rfl) (e := Extern.AbiNoEscape.same) (by kernel_rfl)]
  rw [Lib.run_noEscape]
  simp only [Result.andThen]
  rw [Oper.upon_value]
  go_wp2
  rw [Lib.run_from_unsafe w ⟨r, 0, none⟩ Try.underlying100 Try.underlying52 hj hsh wr_lies]
  simp only [Result.andThen]
  rw [Oper.upon_value]
  go_wp2
  go_end0
  exact ⟨rfl, rfl⟩
theorem wcheck_c {r : Nat} {nv : Value} {l : List UInt8} {w : World} (h : Wb r nv l w) :
    Calls Try.prog 57 #[.pointer (some ⟨r, 0, none⟩)] w fun e w' => e = .returned (.tuple #[]) ∧ (∃ v, Wu r (.pointer (some ⟨r, 0, none⟩)) v nv l w') ∧ Fw r w w' := by
  obtain ⟨q, v, h⟩ := h
  obtain ⟨c0, c1, c2, f0, f1, sh⟩ := Wu.reads h.head
  rcases h.ptr with rfl | rfl
  · refine (wcheck_fresh r w c0 sh f0).mono ?_
    rintro e w' ⟨rfl, rfl⟩
    exact ⟨rfl, ⟨v, h.used⟩, (Fw.refl r w).set 0 _⟩
  · refine (wcheck_used r w c0).mono ?_
    rintro e w' ⟨rfl, rfl⟩
    exact ⟨rfl, ⟨v, h⟩, Fw.refl r w⟩
set_option maxHeartbeats 1000000 in
/-- more bytes -/
theorem wString_c {r : Nat} {nv : Value} {l : List UInt8} {w : World} (s : List UInt8) (h : Wb r nv l w) (hlen : l.length + s.length ≤ 100000000) :
    Calls Try.prog 39 #[.pointer (some ⟨r, 0, none⟩), .string (op.bs s)] w fun e w' => (∃ v, e = .returned v) ∧ Wb r nv (l ++ s) w' ∧ Fw r w w' := by
  obtain ⟨i0, hi, hz0, hz1, hz2⟩ := info_parts u8_info
  have hss : (op.bs s).size = s.length := by simp [op.bs, ByteArray.size]
  have hsd : (op.bs s).data.toList = s := rfl
  have kc := wcheck_c h
  generalize op.bs s = sx at *
  clear h
  go_enter Try.func39, Try.ntmps39
  go_wp2_with (go_at_call 57; refine kc.mono ?_)
  rintro e w1 ⟨rfl, ⟨v, hu⟩, hb1⟩
  have HU := Lib.hid hu
  obtain ⟨_, c1, _⟩ := Wu.reads hu.head
  have hz := hu.lt
  have HB1 := Lib.hid hb1
  clear hu hb1 kc
  go_wp2_with (at_builtin; refine Lib.wpList_append_own_stringF _ rfl _ _ 53 9 rfl r 5 i0 Try.underlying53 Try.underlying9 hi hz0 hz1 hz2 _ _ _ rfl HU.out.row sx rfl (by unfold maxLen; omega) (by omega) (by omega) ?_)
  intro v2 w2 ho hg _
  have hh := HU.out.grew hg
  obtain ⟨_, d1, _, _, f1, _⟩ := Wu.reads (hh.trans HU.out.head)
  obtain ⟨sa, sl, sc, rfl⟩ := owns_slice ho
  have HO := Lib.hid ho
  have HH := Lib.hid hh
  have HG := Lib.hid hg
  clear ho hh hg
  go_wp2
  go_ret2
  exact ⟨⟨_, rfl⟩, ⟨_, _, HU.out.stored HH.out _ _ (by rw [List.length_append]) (by rw [Lib.strCells_eq, hsd]; simp [Lib.byteCells]) HO.out⟩, HU.out.frame HB1.out HG.out⟩
/-- where a writer's bytes lie: ahead in one block of bytes -/
structure Wl (r : Nat) (v : Value) (l : List UInt8) (w : World) (g cap n : Nat) : Prop where
  val : v = .slice (some ⟨g, 0, none⟩) l.length cap
  low : r ≤ g
  room : cap ≠ 0
  fits : l.length ≤ n ∧ l.length ≤ maxLen
  shape : w.shape? g = some (5, n)
  bytes : ∃ cs fr, w.heap[g]? = some (.cells cs 5 fr)
  at_ : ∀ j x, l[j]? = some x → w.cell? ⟨g, 0 + j, none⟩ = some (.int .u8 (x.toNat : Nat))
theorem Wu.lies {r : Nat} {q v nv : Value} {l : List UInt8} {w : World} (h : Wu r q v nv l w) (h0 : l ≠ []) : ∃ g cap n, Wl r v l w g cap n := by
  have hp : 0 < l.length := List.length_pos_iff.2 h0
  match h.row.2 with
  | .inl e => exact absurd e.2 (by omega)
  | .inr ⟨g, cap, cs, fr, e, lo, hd, _, le, mx, sz, _⟩ =>
    refine ⟨g, cap, cs.size, e, lo, by omega, ⟨by omega, by omega⟩, ?_, ⟨cs, fr, hd⟩, fun j x hx => ?_⟩
    · show World.shape? w g = _
      unfold World.shape?
      rw [hd]
    · have := World.ownsRowF.cells h.row (g := g) (by rw [e]; rfl) j (.int .u8 (x.toNat : Nat)) (by unfold Lib.byteCells; rw [List.getElem?_map, hx]; rfl)
      unfold Addr.add at this
      split at this
      · rename_i hj; rw [hj]; exact this
      · exact this
/-- freezing bytes turns nothing else -/
theorem Fw.frozen {r g n : Nat} {w : World} (lo : r ≤ g) (hb : ∃ cs fr, w.heap[g]? = some (.cells cs 5 fr)) : Fw r w (w.drew.freeze ⟨g, 0, none⟩ n) := by
  obtain ⟨cs, fr, hd⟩ := hb
  have key : ∀ k, k ≠ g → (w.drew.freeze ⟨g, 0, none⟩ n).heap[k]? = w.heap[k]? := fun k hk => by
    unfold World.freeze
    split
    · rfl
    · exact (Array.getElem?_modify ..).trans (if_neg (fun e => hk e.symm))
  refine ⟨?_, ?_, ?_, ?_, fun k _ _ hn => key k fun e => ?_⟩
  any_goals (unfold World.freeze; split <;> rfl)
  · unfold World.freeze
    split
    · exact Nat.le_refl _
    · show _ ≤ (Array.modify ..).size
      rw [Array.size_modify]; exact Nat.le_refl _
  · subst e
    exact hn.elim (fun h => absurd h (by omega)) (fun h => h _ _ hd)
set_option maxHeartbeats 2000000 in
set_option maxRecDepth 100000 in
/-- the bytes, at least one -/
theorem wText_c {r : Nat} {nv : Value} {l : List UInt8} {w : World} (h : Wb r nv l w) (h0 : l ≠ []) :
    Calls Try.prog 23 #[.pointer (some ⟨r, 0, none⟩)] w fun e w' => e = .returned (.string (op.bs l)) ∧ Fw r w w' := by
  obtain ⟨q, v, hu⟩ := h
  obtain ⟨g, cap, n, hL⟩ := hu.lies h0
  have c1 := (Wu.reads hu.head).2.1
  rw [hL.val] at c1
  have data := Lib.run_unsafeSliceData_row (P := Try.prog) w.drew #[53] 80 ⟨g, 0, none⟩ l.length cap hL.room
  have text := Lib.run_unsafeString_row (P := Try.prog) w.drew 80 3 9 5 Try.underlying80 (by kernel_rfl) g n (show w.drew.shape? g = _ from hL.shape) l h0 hL.fits.1 hL.fits.2 (fun j x hx => by
    have := hL.at_ j x hx
    rw [Nat.zero_add] at this
    first | exact this | (unfold Addr.add; split; (rename_i hj; rw [hj] at this; exact this); (simpa using this)))
  have HF := Lib.hid (Fw.frozen (n := l.length) hL.low hL.bytes)
  have mixed : Try.prog.follows Departure.mixedOrders = true := by kernel_rfl
  clear hu hL
  go_enter Try.func23, Try.ntmps23
  go_wp2
  go_region_o
  all_goals
    go_wp2
    go_ret
    exact ⟨rfl, HF.out⟩
end Go.Proofs.Ytpihmockcjdafaa.wr
end
section
/- The text of what may be written, part by part. Plain lists. -/
namespace Go.Proofs.Ytpihmockcjdafaa.wr
open Go.Proofs.Ytpihmockcjdafaa.rd
open Go.Proofs.Ytpihmockcjdafaa.tx (text)
open Go.Proofs.Ytpihmockcjdafaa.lx (quoteS isOne toks Qn txT txP txR txL txM txQ leafX varX quote_len VarOk gdT gdL)
open Go.Proofs.Ytpihmockcjdafaa.nm (Fit)

/-- a list's element and its rest -/
def cellU (u : U) : Prop := u.k = 4 ∧ u.s = [46] ∧ u.l.length = 2
def nilU (u : U) : Prop := u.k = 3 ∧ u.s = [91, 93]
instance (u : U) : Decidable (cellU u) := by unfold cellU; infer_instance
instance (u : U) : Decidable (nilU u) := by unfold nilU; infer_instance
def fstU (u : U) : U := u.l.getD 0 dfU
def sndU (u : U) : U := u.l.getD 1 dfU
/-- terms with `,` between, and what stands ahead of the first -/
def rowX (nm : List (List UInt8)) : List UInt8 → List U → List UInt8
  | _, [] => []
  | h, u :: l => h ++ (txT nm (er u) ++ rowX nm [44] l)
section
variable {nm : List (List UInt8)}
theorem txM_row : ∀ (l : List U), txM nm (erL l) = rowX nm [44] l
  | [] => by rw [erL, txM, rowX]
  | u :: l => by rw [erL, txM, rowX, txM_row l]; rfl
theorem two_of {u : U} (h : u.l.length = 2) : u.l = [fstU u, sndU u] := by
  unfold fstU sndU
  match hl : u.l, h with
  | [a, b], _ => rfl
theorem er_cellT {u : U} (h : cellU u) : txT nm (er u) = 91 :: (txT nm (er (fstU u)) ++ txR nm (er (sndU u))) := by
  obtain ⟨h1, h2, h3⟩ := h
  rw [er_eq, if_pos h1, txT, if_pos ⟨h2, by rw [erL_len]; exact h3⟩, two_of h3, erL, erL, erL, txP, txQ]
theorem er_cellR {u : U} (h : cellU u) : txR nm (er u) = 44 :: (txT nm (er (fstU u)) ++ txR nm (er (sndU u))) := by
  obtain ⟨h1, h2, h3⟩ := h
  rw [er_eq, if_pos h1, txR, if_pos ⟨h2, by rw [erL_len]; exact h3⟩, two_of h3, erL, erL, erL, txP, txQ]
theorem er_cmp {u : U} (h : u.k = 4) (hc : ¬ cellU u) (hl : u.l ≠ []) : txT nm (er u) = quoteS u.s ++ (rowX nm [40] u.l ++ [41]) := by
  rw [er_eq, if_pos h, txT, if_neg (fun e => hc ⟨h, e.1, by rw [← erL_len]; exact e.2⟩)]
  match hh : u.l, hl with
  | x :: l, _ => rw [erL, txL, rowX, txM_row]; rfl
theorem er_var {u : U} (h : u.k = 1) : txT nm (er u) = varX nm u.n := by
  rw [er_eq, if_neg (by omega), h, txT]; unfold leafX; rw [if_pos (by decide)]
theorem er_int {u : U} (h : u.k = 2) : txT nm (er u) = text u.n := by
  rw [er_eq, if_neg (by omega), h, txT]; unfold leafX; rw [if_neg (by decide), if_pos (by decide)]
theorem er_atom {u : U} (h : u.k = 3) : txT nm (er u) = if u.s = [91, 93] ∨ u.s = [123, 125] then u.s else quoteS u.s := by
  rw [er_eq, if_neg (by omega), h, txT]; unfold leafX; rw [if_neg (by decide), if_neg (by decide)]
theorem er_end {u : U} (hc : ¬ cellU u) : txR nm (er u) = if nilU u then [93] else 124 :: (txT nm (er u) ++ [93]) := by
  by_cases h4 : u.k = 4
  · rw [if_neg (fun e => by have := e.1; omega), er_eq, if_pos h4, txR, txT, if_neg (fun e => hc ⟨h4, e.1, by rw [← erL_len]; exact e.2⟩), if_neg (fun e => hc ⟨h4, e.1, by rw [← erL_len]; exact e.2⟩)]
  · rw [er_eq, if_neg h4, txR, txT]
    have : (u.k.toNat = 3 ∧ u.s = [91, 93]) ↔ nilU u := by
      unfold nilU
      constructor
      · rintro ⟨a, b⟩; exact ⟨by omega, b⟩
      · rintro ⟨a, b⟩; exact ⟨by omega, b⟩
    by_cases hn : nilU u
    · rw [if_pos (this.2 hn), if_pos hn]
    · rw [if_neg (fun e => hn (this.1 e)), if_neg hn]
/-- the names that are put in are not long -/
def NmOk (nm : List (List UInt8)) : Prop := ∀ x ∈ nm, x.length ≤ 4096
theorem varX_len (h : NmOk nm) {n : Int} (hn : Fit n) : (varX nm n).length ≤ 4096 := by
  unfold varX
  split
  · rename_i hc
    have : nm.getD n.toNat [] ∈ nm := by rw [show nm.getD n.toNat [] = nm[n.toNat]'hc.1 by simp [hc.1]]; exact List.getElem_mem _
    exact h _ this
  · have := (tx.text_len hn).1
    simp only [List.length_cons]; omega
theorem quote_le {x : List UInt8} (h : Qn x) : (quoteS x).length ≤ 4096 := by
  rcases h with h | ⟨h, h1⟩
  · have := quote_len x; omega
  · unfold quoteS; rw [if_pos h1]; exact h
mutual
/-- its numbers are in 64 bits -/
def fxU : U → Prop
  | .mk _ n _ l => Fit n ∧ fxUL l
def fxUL : List U → Prop
  | [] => True
  | u :: l => fxU u ∧ fxUL l
end
theorem fxU.sp {u : U} (h : fxU u) : Fit u.n ∧ fxUL u.l := by cases u; rw [fxU] at h; exact h
theorem fxUL_at : ∀ {l : List U}, fxUL l → ∀ i, i < l.length → fxU (l.getD i dfU)
  | [], _, i, hi => absurd hi (Nat.not_lt_zero _)
  | u :: l, h, i, hi => by
    rw [fxUL] at h
    cases i with
    | zero => exact h.1
    | succ i => have := fxUL_at h.2 i (by simpa using hi); simpa using this
mutual
theorem Ru.fx {b : Nat} {w : World} : ∀ {u : U} {a : Value}, Ru b w u a → fxU u
  | .mk k n s l, a, h => by
    rw [Ru] at h
    obtain ⟨p, cap, h1, h2, h3, h4, h5⟩ := h
    rw [fxU]; exact ⟨h4, Rus.fx h5⟩
theorem Rus.fx {b : Nat} {w : World} : ∀ {l : List U} {p : Option Addr} {i : Nat}, Rus b w l p i → fxUL l
  | [], _, _, _ => by rw [fxUL]; trivial
  | u :: l, p, i, h => by
    rw [Rus] at h
    obtain ⟨⟨g, o, a, h1, h2, h3, h4, h5, h6, h7⟩, h8⟩ := h
    rw [fxUL]; exact ⟨Ru.fx h7, Rus.fx h8⟩
end
/-- how long texts can be -/
def Lt (nm : List (List UInt8)) (u : U) : Prop := (txT nm (er u)).length + 50 ≤ 4200 * szU u ∧ (txR nm (er u)).length + 40 ≤ 4200 * szU u
theorem row_len : ∀ (l : List U) (h : List UInt8), h.length ≤ 1 → (∀ i, i < l.length → Lt nm (l.getD i dfU)) → (rowX nm h l).length ≤ 4200 * szUL l
  | [], h, _, _ => by rw [rowX]; simp
  | u :: l, h, hh, hl => by
    have h0 := (hl 0 (by simp)).1
    have h1 := row_len l [44] (by simp) (fun i hi => by have := hl (i + 1) (by simpa using hi); simpa using this)
    rw [rowX, szUL]
    simp only [List.getD_cons_zero] at h0
    simp only [List.length_append]; omega
theorem len_step (hN : NmOk nm) (u : U) (ih : ∀ i, i < u.l.length → okU (u.l.getD i dfU) → qnU (u.l.getD i dfU) → fxU (u.l.getD i dfU) → Lt nm (u.l.getD i dfU)) (ho : okU u) (hq : qnU u) (hf : fxU u) : Lt nm u := by
  obtain ⟨q1, q2⟩ := hq.sp
  obtain ⟨f1, f2⟩ := hf.sp
  have hs := szU_eq u
  have hql := quote_le q1
  by_cases hc : cellU u
  · obtain ⟨c1, c2, c3⟩ := hc
    have hol : okUL u.l := by rw [okU_iff] at ho; rcases ho with ⟨h, _⟩ | h | ⟨h, _⟩ | ⟨_, _, _, h⟩ <;> first | omega | exact h
    have a0 := ih 0 (by omega) (okUL_at hol 0 (by omega)) (qnUL_at q2 0 (by omega)) (fxUL_at f2 0 (by omega))
    have a1 := ih 1 (by omega) (okUL_at hol 1 (by omega)) (qnUL_at q2 1 (by omega)) (fxUL_at f2 1 (by omega))
    have hsz : szUL u.l = szU (u.l.getD 0 dfU) + szU (u.l.getD 1 dfU) := by
      conv => lhs; rw [two_of c3]
      simp only [szUL, fstU, sndU, Nat.add_zero]
    rw [if_pos c1, hsz] at hs
    unfold Lt at a0 a1 ⊢
    rw [er_cellT ⟨c1, c2, c3⟩, er_cellR ⟨c1, c2, c3⟩]
    unfold fstU sndU
    simp only [List.length_cons, List.length_append]
    omega
  · have hT : (txT nm (er u)).length + 50 ≤ 4200 * szU u := by
      by_cases h4 : u.k = 4
      · have hh : okUL u.l ∧ u.l ≠ [] := by rw [okU_iff] at ho; rcases ho with ⟨h, _⟩ | h | ⟨h, _⟩ | ⟨_, _, h1, h⟩ <;> first | omega | exact ⟨h, h1⟩
        have := row_len u.l [40] (nm := nm) (by simp) (fun i hi => ih i hi (okUL_at hh.1 i hi) (qnUL_at q2 i hi) (fxUL_at f2 i hi))
        rw [er_cmp h4 hc hh.2]
        rw [if_pos h4] at hs
        simp only [List.length_append, List.length_singleton]
        omega
      · rw [if_neg h4] at hs
        rw [okU_iff] at ho
        rcases ho with ⟨h, _⟩ | h | ⟨h, _⟩ | ⟨h, _⟩
        · rw [er_var h]; have := varX_len hN f1; omega
        · rw [er_int h]; have := (tx.text_len f1).1; omega
        · rw [er_atom h]; split
          · rename_i hx; rcases hx with hx | hx <;> rw [hx] <;> simp <;> omega
          · omega
        · exact absurd h h4
    refine ⟨hT, ?_⟩
    rw [er_end hc]
    split
    · simp; omega
    · simp only [List.length_cons, List.length_append, List.length_nil]; omega
theorem tx_len (hN : NmOk nm) (u : U) (ho : okU u) (hq : qnU u) (hf : fxU u) : Lt nm u := by
  have key : ∀ n u, SizeOf.sizeOf u ≤ n → okU u → qnU u → fxU u → Lt nm u := by
    intro n
    induction n with
    | zero => intro u h; exact len_step hN u fun i hi => absurd (part_size hi) (by omega)
    | succ n ih => intro u h; exact len_step hN u fun i hi => ih _ (by have := part_size hi; omega)
  exact key _ u (Nat.le_refl _) ho hq hf
theorem tx_ne (u : U) (ho : okU u) (hn : ∀ n, 0 ≤ n → varX nm n ≠ []) : txT nm (er u) ≠ [] := by
  by_cases hc : cellU u
  · rw [er_cellT hc]; simp
  · rw [okU_iff] at ho
    rcases ho with ⟨h, h0⟩ | h | ⟨h, h0⟩ | ⟨h, h0, h1, _⟩
    · rw [er_var h]; exact hn _ h0
    · rw [er_int h]
      intro e
      by_cases hh : u.n < 0
      · rw [tx.text_neg hh] at e; cases e
      · rw [tx.text_pos hh] at e; exact tx.dec_ne _ e
    · rw [er_atom h]; split
      · rename_i hx; rcases hx with hx | hx <;> rw [hx] <;> simp
      · exact h0
    · rw [er_cmp h hc h1]; simp
theorem varX_ne (n : Int) : varX nm n ≠ [] := by
  unfold varX
  split
  · rename_i h; exact h.2.1
  · simp
end
end Go.Proofs.Ytpihmockcjdafaa.wr
end
section
/- The program's Good: whether a part may be written; the closure that counts; Good. -/
namespace Go.Proofs.Ytpihmockcjdafaa.wr
open Go.RowKit
open Go.Proofs.Ytpihmockcjdafaa.rd
open Go.Proofs.Ytpihmockcjdafaa.op (bs strC)
open Go.Proofs.Ytpihmockcjdafaa.lx (quoteS cell_at isOne toks Qn GM quote_c ieq_yes ieq_no)
open Go.Proofs.Ytpihmockcjdafaa.nm (Fit)
set_option maxRecDepth 20000

/-- may a part be written, whatever its own parts are -/
def partP (u : U) : Prop := (u.k = 1 ∧ 0 ≤ u.n) ∨ u.k = 2 ∨ (u.k = 3 ∧ quoteS u.s ≠ []) ∨ (u.k = 4 ∧ quoteS u.s ≠ [] ∧ u.l ≠ [])
instance (u : U) : Decidable (partP u) := by unfold partP; infer_instance
set_option maxHeartbeats 1000000 in
theorem isPart_c {u : U} {p : Option Addr} {cap : Nat} {w : World} (hg : GM w) (hm : u.l.length ≤ maxLen) (hq : Qn u.s) :
    Calls Try.prog 18 #[uV u (.slice p u.l.length cap)] w fun e w' => e = .returned (.bool (decide (partP u))) ∧ Below w.heap.size w w' := by
  unfold maxLen at hm
  unfold uV
  have hb0 := Lib.hid (heap_alloc_new w (.cells #[.int .i64 u.k, .int .i64 u.n, .string (bs u.s), .slice p u.l.length cap] 24))
  have hbb := Lib.hid ((Below.refl w.heap.size w).alloc (Nat.le_refl _) (.cells #[.int .i64 u.k, .int .i64 u.n, .string (bs u.s), .slice p u.l.length cap] 24))
  have hgm := hg.below hbb.out (lx.heap_pos hg)
  have kq := quote_c (bs u.s) (w.alloc (.cells #[.int .i64 u.k, .int .i64 u.n, .string (bs u.s), .slice p u.l.length cap] 24)) hgm hq
  rw [show (bs u.s).data.toList = u.s from rfl] at kq
  have hP : Hid (partP u ↔ (u.k = 1 ∧ 0 ≤ u.n) ∨ u.k = 2 ∨ (u.k = 3 ∧ quoteS u.s ≠ []) ∨ (u.k = 4 ∧ quoteS u.s ≠ [] ∧ u.l ≠ [])) := Lib.hid Iff.rfl
  have hL : Hid (u.l ≠ [] ↔ u.l.length ≠ 0) := Lib.hid (not_congr List.length_eq_zero_iff.symm)
  have hE : ∀ l : List UInt8, (l ≠ [] ↔ (!l.isEmpty) = true) := fun l => by cases l <;> simp
  generalize quoteS u.s = Q at *
  generalize u.k = kk at *
  generalize u.n = nn at *
  generalize bs u.s = ss at *
  generalize hB : decide (partP u) = B at *
  have key : ∀ C : Bool, (partP u ↔ C = true) → B = C := fun C h => by rw [← hB]; simp [h]
  generalize u.l.length = ll at *
  clear hg hgm hq hB
  by_cases h1 : kk = 1
  · subst h1
    obtain rfl : B = decide (0 ≤ nn) := key (decide (0 ≤ nn)) (by rw [hP.out]; simp)
    clear key hP hL
    go_enter Try.func18, Try.ntmps18
    go_wp2
    go_ret
    exact ⟨rfl, hbb.out⟩
  by_cases h2 : kk = 2
  · subst h2
    obtain rfl : B = true := key true (by rw [hP.out]; simp)
    clear key hP hL
    go_enter Try.func18, Try.ntmps18
    go_wp2
    go_ret
    exact ⟨rfl, hbb.out⟩
  by_cases h3 : kk = 3
  · subst h3
    obtain rfl : B = !Q.isEmpty := key (!Q.isEmpty) (by rw [hP.out, ← hE]; simp)
    clear key hP hL hE
    go_enter Try.func18, Try.ntmps18
    go_wp2_with fail
    refine kq.mono ?_
    rintro e w1 ⟨rfl, hb⟩
    have HB := Lib.hid (hbb.out.trans (hb.mono hbb.out.size))
    clear hb kq
    go_wp2
    go_ret
    exact ⟨rfl, HB.out⟩
  by_cases h4 : kk = 4
  · subst h4
    by_cases h0 : ll = 0
    · subst h0
      obtain rfl : B = false := key false (by rw [hP.out, hL.out]; simp)
      clear key hP hL hE
      go_enter Try.func18, Try.ntmps18
      go_wp2
      go_ret
      exact ⟨rfl, hbb.out⟩
    · have h0' : (0 : Int) < (ll : Int) := by omega
      obtain rfl : B = !Q.isEmpty := key (!Q.isEmpty) (by rw [hP.out, hL.out, ← hE]; simp [h0])
      clear key hP hL hE
      go_enter Try.func18, Try.ntmps18
      go_wp2_with fail
      refine kq.mono ?_
      rintro e w1 ⟨rfl, hb⟩
      have HB := Lib.hid (hbb.out.trans (hb.mono hbb.out.size))
      clear hb kq
      go_wp2
      go_ret
      exact ⟨rfl, HB.out⟩
  · obtain rfl : B = false := key false (by rw [hP.out]; simp [h1, h2, h3, h4])
    have n1 : (kk == 1) = false := by simp [h1]
    have n2 : (kk == 2) = false := by simp [h2]
    have n3 : (kk == 3) = false := by simp [h3]
    have n4 : (kk == 4) = false := by simp [h4]
    clear key hP hL hE h1 h2 h3 h4
    go_enter Try.func18, Try.ntmps18
    go_wp2
    go_ret
    exact ⟨rfl, hbb.out⟩

/-! ### the closure -/
/-- the closure, and the cells that it holds: how many parts there were, itself -/
def gdV (c : Nat) : Value := .func (.func 17) #[] #[.pointer (some ⟨c, 0, none⟩), .pointer (some ⟨c + 1, 0, none⟩)]
structure Gc (c n : Nat) (w : World) : Prop where
  cnt : w.heap[c]? = some (.cells #[.int .i64 (n : Nat)] 3 (0, 0))
  fn : w.heap[c + 1]? = some (.cells #[gdV c] 26 (0, 0))
/-- all is as it was but for the count -/
structure Fc (c : Nat) (w w' : World) : Prop where
  os : w'.os = w.os
  tape : w'.tape = w.tape
  output : w'.output = w.output
  size : w.heap.size ≤ w'.heap.size
  block : ∀ k, k < w.heap.size → k ≠ c → w'.heap[k]? = w.heap[k]?
section
variable {c n : Nat} {w w' w'' : World}
theorem Fc.refl (c : Nat) (w : World) : Fc c w w := ⟨rfl, rfl, rfl, Nat.le_refl _, fun _ _ _ => rfl⟩
theorem Fc.trans (h : Fc c w w') (k : Fc c w' w'') : Fc c w w'' :=
  ⟨k.os.trans h.os, k.tape.trans h.tape, k.output.trans h.output, Nat.le_trans h.size k.size, fun j hj hn => (k.block j (Nat.lt_of_lt_of_le hj h.size) hn).trans (h.block j hj hn)⟩
theorem Fc.of (h : Below w.heap.size w w') : Fc c w w' := ⟨h.os, h.tape, h.output, h.size, fun k hk _ => h.block k hk⟩
theorem Fc.below (h : Fc c w w') (hc : c ≤ w.heap.size) : Below c w w' := ⟨h.os, h.tape, h.output, h.size, fun k hk => h.block k (by omega) (by omega)⟩
theorem Fc.set (h : Fc c w w') (v : Value) : Fc c w (w'.setCell ⟨c, 0, none⟩ v) :=
  ⟨h.os, h.tape, h.output, by simpa [World.setCell] using h.size, fun k hk hn => (Below.heap_setCell _ _ _ _ (by show k ≠ c; exact hn)).trans (h.block k hk hn)⟩
theorem Gc.lt (h : Gc c n w) : c + 1 < w.heap.size := lt_of h.fn
theorem Gc.stay (h : Gc c n w) (hb : Below w.heap.size w w') : Gc c n w' := ⟨by rw [hb.block c (by have := h.lt; omega)]; exact h.cnt, by rw [hb.block (c + 1) h.lt]; exact h.fn⟩
theorem Gc.set (h : Gc c n w) (m : Nat) : Gc c m (w.setCell ⟨c, 0, none⟩ (.int .i64 (m : Nat))) :=
  ⟨by rw [heap_set_at h.cnt]; rfl, by rw [Below.heap_setCell _ _ _ _ (by show c + 1 ≠ c; omega)]; exact h.fn⟩
end
/-- what the closure does, n parts having been counted -/
def GQ (c n : Nat) (u : U) (w : World) (e : Ending) (w' : World) : Prop :=
  ∃ (r : Bool) (m : Nat), e = .returned (.bool r) ∧ Gc c m w' ∧ m ≤ 1001 ∧ Fc c w w' ∧ (r = true ↔ okU u ∧ n + szU u ≤ 1000) ∧ (r = true → m = n + szU u)
abbrev GdOk (u : U) : Prop := ∀ (c n : Nat) (a : Value) (w : World), n ≤ 1000 → GM w → 0 < c → Ru c w u a → qnU u → Gc c n w →
  Calls Try.prog 17 #[uV u a, .pointer (some ⟨c, 0, none⟩), .pointer (some ⟨c + 1, 0, none⟩)] w (GQ c n u w)
theorem ok_part {u : U} : okU u ↔ partP u ∧ (u.k = 4 → okUL u.l) := by
  rw [okU_iff]; unfold partP
  constructor
  · rintro (h | h | h | ⟨h, h1, h2, h3⟩)
    · exact ⟨.inl h, fun e => by omega⟩
    · exact ⟨.inr (.inl h), fun e => by omega⟩
    · exact ⟨.inr (.inr (.inl h)), fun e => by omega⟩
    · exact ⟨.inr (.inr (.inr ⟨h, h1, h2⟩)), fun _ => h3⟩
  · rintro ⟨h | h | h | ⟨h, h1, h2⟩, k⟩
    · exact .inl h
    · exact .inr (.inl h)
    · exact .inr (.inr (.inl h))
    · exact .inr (.inr (.inr ⟨h, h1, h2, k h⟩))
set_option maxHeartbeats 4000000 in
theorem good_step (u : U) (ih : ∀ i, i < u.l.length → GdOk (u.l.getD i dfU)) : GdOk u := by
  intro c n a w hn hg hgc ha hq hC
  have hlt := hC.lt
  obtain ⟨p, cap, rfl, hf, hP⟩ := ha.parts
  have hm := hP.max
  have hle := hP.le
  obtain ⟨q1, q2⟩ := hq.sp
  have hb0 := heap_alloc_new w (.cells #[.int .i64 u.k, .int .i64 u.n, .string (bs u.s), .slice p u.l.length cap] 24)
  have hbb := (Below.refl w.heap.size w).alloc (Nat.le_refl _) (.cells #[.int .i64 u.k, .int .i64 u.n, .string (bs u.s), .slice p u.l.length cap] 24)
  have hC0 := Lib.hid (hC.stay hbb)
  have hC1 : Hid (Gc c (n + 1) ((w.alloc (.cells #[.int .i64 u.k, .int .i64 u.n, .string (bs u.s), .slice p u.l.length cap] 24)).setCell ⟨c, 0, none⟩ (.int .i64 ((n : Int) + 1)))) := Lib.hid (hC0.out.set (n + 1))
  have hF1 : Hid (Fc c w ((w.alloc (.cells #[.int .i64 u.k, .int .i64 u.n, .string (bs u.s), .slice p u.l.length cap] 24)).setCell ⟨c, 0, none⟩ (.int .i64 ((n : Int) + 1)))) := Lib.hid ((Fc.of hbb).set _)
  have hb1 : Hid (((w.alloc (.cells #[.int .i64 u.k, .int .i64 u.n, .string (bs u.s), .slice p u.l.length cap] 24)).setCell ⟨c, 0, none⟩ (.int .i64 ((n : Int) + 1))).heap[w.heap.size]? = _) := Lib.hid ((Below.heap_setCell _ _ _ _ (by show w.heap.size ≠ c; omega)).trans hb0)
  have c0 : (w.alloc (.cells #[.int .i64 u.k, .int .i64 u.n, .string (bs u.s), .slice p u.l.length cap] 24)).cell? ⟨c, 0, none⟩ = some (.int .i64 (n : Nat)) := by rw [cell_at hC0.out.cnt]; rfl
  have f0 : (w.alloc (.cells #[.int .i64 u.k, .int .i64 u.n, .string (bs u.s), .slice p u.l.length cap] 24)).frozen? ⟨c, 0, none⟩ = false := by simp [World.frozen?, hC0.out.cnt]
  have hg1 := hg.below (hF1.out.below (by omega)) hgc
  have kp := isPart_c (u := u) (p := p) (cap := cap) hg1 (by omega) q1
  have hOk := Lib.hid (ok_part (u := u))
  have hSz := Lib.hid (szU_eq u)
  have hPos := szU_pos u
  have IH := Lib.hid ih
  have HP := Lib.hid hP
  have Hg := Lib.hid hg1
  have Q2 := Lib.hid q2
  unfold uV at kp ⊢
  unfold maxLen at hm
  clear ih ha hC hb0 hbb hP hg hg1 hq q1 q2 hf
  by_cases h1000 : n = 1000
  · have h10 : (1000 : Int) < (n : Int) + 1 := by omega
    have H1000 := Lib.hid h1000
    clear kp h1000
    go_enter Try.func17, Try.ntmps17
    go_wp2
    go_ret
    exact ⟨false, n + 1, rfl, hC1.out, by have := H1000.out; omega, hF1.out, ⟨fun h => (by cases h), fun h => by have := H1000.out; omega⟩, fun h => by cases h⟩
  have h10 : ¬ (1000 : Int) < (n : Int) + 1 := by omega
  by_cases hpt : partP u
  · have hd : decide (partP u) = true := by simp [hpt]
    rw [hd] at kp
    clear hd
    by_cases h4 : u.k = 4
    · have Hr : Hid ((okU u ↔ okUL u.l) ∧ szU u = 1 + szUL u.l) := Lib.hid ⟨by rw [hOk.out]; exact ⟨fun h => h.2 h4, fun h => ⟨hpt, fun _ => h⟩⟩, by rw [hSz.out, if_pos h4]⟩
      clear hOk hSz hpt hPos
      generalize u.k = kk at *
      subst h4
      go_enter Try.func17, Try.ntmps17
      go_wp2_with fail
      refine kp.mono ?_
      rintro e w2 ⟨rfl, hb⟩
      have HB := Lib.hid hb
      have hbx := (hb.block w.heap.size (lt_of hb1.out)).trans hb1.out
      obtain ⟨x0, x1, x2, x3, _⟩ := cells4 hbx
      have hC2 := Lib.hid (hC1.out.stay hb)
      have hF2 := Lib.hid (hF1.out.trans (Fc.of hb))
      have hg2 := Lib.hid (Hg.out.below hb (lx.heap_pos Hg.out))
      clear hb hbx kp hC1 hF1 hb1 Hg
      go_wp2
      clear x0 x1 x2 x3 c0 f0
      go_loopg [22] u.l.length (fun k v wr => ∃ i m : Nat, k = u.l.length - i ∧ i ≤ u.l.length ∧ v = .int .i64 i ∧ m ≤ 1000 ∧ Hid (Gc c m wr) ∧ Hid (Fc c w2 wr) ∧ Hid (okUL u.l ↔ okUL (u.l.drop i)) ∧ Hid (m + szUL (u.l.drop i) = n + 1 + szUL u.l))
      case atStart => exact ⟨0, n + 1, by omega, by omega, rfl, by omega, hC2, Lib.hid (Fc.refl _ _), Lib.hid Iff.rfl, Lib.hid rfl⟩
      case round =>
        obtain ⟨i, m, hgk, hi, rfl, hm1, HC, HF, HO, HS⟩ := hrel
        by_cases hlt : i < u.l.length
        · have hlt2 : (i : Int) < u.l.length := by omega
          have i4 : (0 : Int) ≤ (i : Int) := by omega
          have hww : Below c w wr := (hF2.out.trans HF.out).below (by omega)
          obtain ⟨g, o, a, hpe, hgl, d0, d1, d2, d3, hR⟩ := (HP.out.stay hww).el i hlt
          subst hpe
          obtain ⟨p', cap', rfl, _, _⟩ := hR.parts
          have hd := drop_cons hlt
          generalize hx : u.l.getD i dfU = x at *
          have hsz : szUL (u.l.drop i) = szU x + szUL (u.l.drop (i + 1)) := by rw [hd, szUL]
          have hob : okUL (u.l.drop i) ↔ okU x ∧ okUL (u.l.drop (i + 1)) := by rw [hd, okUL]
          have hHC := HC.out.lt
          have hb3 := (Below.refl wr.heap.size wr).alloc (Nat.le_refl _) (.cells #[.int .i64 x.k, .int .i64 x.n, .string (bs x.s), .slice p' x.l.length cap'] 24)
          have kx := IH.out i hlt c m (.slice p' x.l.length cap') (wr.alloc (.cells #[.int .i64 x.k, .int .i64 x.n, .string (bs x.s), .slice p' x.l.length cap'] 24)) hm1 (hg2.out.below ((HF.out.below (by have := hC2.out.lt; omega)).trans (hb3.mono (by omega))) hgc) hgc
            (by rw [hx]; exact hR.stay (hb3.mono (by omega))) (qnUL_at Q2.out i hlt) (HC.out.stay hb3)
          rw [hx] at kx
          have e2 : (wr.alloc (.cells #[.int .i64 x.k, .int .i64 x.n, .string (bs x.s), .slice p' x.l.length cap'] 24)).cell? ⟨c + 1, 0, none⟩ = some (gdV c) := by rw [cell_at (HC.out.stay hb3).fn]; rfl
          have HF3 := Lib.hid (HF.out.trans (Fc.of hb3))
          unfold gdV at e2
          unfold uV at kx
          clear hR hb3 hww hd hx IH HP Q2 hHC
          go_wp2_with fail
          refine kx.mono ?_
          rintro e w3 ⟨r, m3, rfl, hC3, hm3, hF3, hiff, heq⟩
          have HC3 := Lib.hid hC3
          have HF4 := Lib.hid (HF3.out.trans hF3)
          cases r with
          | true =>
            obtain ⟨ho, hs⟩ := hiff.1 rfl
            have hm3' := heq rfl
            have HO3 : Hid (okUL u.l ↔ okUL (u.l.drop (i + 1))) := Lib.hid (by rw [HO.out, hob]; exact ⟨fun h => h.2, fun h => ⟨ho, h⟩⟩)
            have HS3 : Hid (m3 + szUL (u.l.drop (i + 1)) = n + 1 + szUL u.l) := Lib.hid (by have := HS.out; omega)
            have hm4 : m3 ≤ 1000 := by omega
            clear kx hC3 hF3 hiff heq ho hs hm3' hob hsz HO HS HC HF HF3 hm1 hm3
            go_wp2
            go_roundg (u.l.length - (i + 1))
            case measure => omega
            case rel => exact ⟨i + 1, m3, rfl, by omega, by go_num, hm4, HC3, HF4, HO3, HS3⟩
          | false =>
            have HX : Hid (¬ (okU u ∧ n + szU u ≤ 1000)) := Lib.hid (by
              rintro ⟨h1, h2⟩
              have h3 := HS.out
              have h4 := Hr.out.2
              have h5 := hob.1 (HO.out.1 (Hr.out.1.1 h1))
              have := hiff.2 ⟨h5.1, by omega⟩
              cases this)
            clear kx hC3 hF3 hiff heq hob hsz HO HS HC HF HF3 hm1
            go_wp2
            go_ret
            exact ⟨false, m3, rfl, HC3.out, hm3, hF2.out.trans HF4.out, ⟨fun h => (by cases h), fun h => absurd h HX.out⟩, fun h => by cases h⟩
        · have hlt2 : ¬ ((i : Int) < u.l.length) := by omega
          have hnil : u.l.drop i = [] := List.drop_eq_nil_of_le (by omega)
          have HO2 : Hid (okUL u.l) := Lib.hid (HO.out.2 (by rw [hnil, okUL]; trivial))
          have HS2 : Hid (m = n + 1 + szUL u.l) := Lib.hid (by have := HS.out; rw [hnil, szUL] at this; omega)
          clear HO HS hnil
          go_wp2
          go_ret
          exact ⟨true, m, rfl, HC.out, by omega, hF2.out.trans HF.out, ⟨fun _ => ⟨Hr.out.1.2 HO2.out, by have := Hr.out.2; have := HS2.out; omega⟩, fun _ => rfl⟩, fun _ => by have := Hr.out.2; have := HS2.out; omega⟩
    · have e4 : (u.k == 4) = false := by simp [h4]
      have Hr : Hid (okU u ∧ szU u = 1) := Lib.hid ⟨hOk.out.2 ⟨hpt, fun e => absurd e h4⟩, by rw [hSz.out, if_neg h4]⟩
      clear hOk hSz hpt h4
      generalize u.k = kk at *
      go_enter Try.func17, Try.ntmps17
      go_wp2_with fail
      refine kp.mono ?_
      rintro e w2 ⟨rfl, hb⟩
      have HB := Lib.hid hb
      have hbx := (hb.block w.heap.size (lt_of hb1.out)).trans hb1.out
      obtain ⟨x0, x1, x2, x3, _⟩ := cells4 hbx
      have hC2 := Lib.hid (hC1.out.stay hb)
      have hF2 := Lib.hid (hF1.out.trans (Fc.of hb))
      clear hb hbx kp hC1 hF1 hb1
      go_wp2
      go_ret
      exact ⟨true, n + 1, rfl, hC2.out, by omega, hF2.out, ⟨fun _ => ⟨Hr.out.1, by have := Hr.out.2; omega⟩, fun _ => rfl⟩, fun _ => by rw [Hr.out.2]⟩
  · have hd : decide (partP u) = false := by simp [hpt]
    rw [hd] at kp
    clear hd
    have Hno : Hid (¬ okU u) := Lib.hid fun h => hpt (hOk.out.1 h).1
    clear hOk hpt
    go_enter Try.func17, Try.ntmps17
    go_wp2_with fail
    refine kp.mono ?_
    rintro e w2 ⟨rfl, hb⟩
    have hC2 := Lib.hid (hC1.out.stay hb)
    have hF2 := Lib.hid (hF1.out.trans (Fc.of hb))
    clear hb kp hC1 hF1 hb1
    go_wp2
    go_ret
    exact ⟨false, n + 1, rfl, hC2.out, by omega, hF2.out, ⟨fun h => (by cases h), fun h => absurd h.1 Hno.out⟩, fun h => by cases h⟩
theorem good_all (u : U) : GdOk u := by
  have key : ∀ n u, SizeOf.sizeOf u ≤ n → GdOk u := by
    intro n
    induction n with
    | zero => intro u h; exact good_step u fun i hi => absurd (part_size hi) (by omega)
    | succ n ih => intro u h; exact good_step u fun i hi => ih _ (by have := part_size hi; omega)
  exact key _ u (Nat.le_refl _)
/-- may it be written -/
def goodU (u : U) : Prop := okU u ∧ szU u ≤ 1000
noncomputable instance (u : U) : Decidable (goodU u) := Classical.propDecidable _
theorem store_fn (a : Addr) (m : Mode) (f : Fn) (x y : Array Value) (W : World) : (store a (.func f x y) m).run Try.prog W = stored Try.prog W a (.func f x y) m := run_store Try.prog W a _ m rfl
theorem size_al (w : World) (o : Obj) : (w.alloc o).heap.size = w.heap.size + 1 := by simp
/-- the program's Good -/
theorem good_c {u : U} {a : Value} {w : World} (hg : GM w) (ha : Ru w.heap.size w u a) (hq : qnU u) :
    Calls Try.prog 10 #[uV u a] w fun e w' => e = .returned (.bool (decide (goodU u))) ∧ Below w.heap.size w w' := by
  obtain ⟨p, cap, rfl, hf, hP⟩ := ha.parts
  unfold uV
  have hst := store_fn
  have hmf : ∀ (fn : Fn) (first cap : Array Value) (w : World), (Instr.makeFunc fn first cap).run Try.prog w = .ok (.func fn first cap) w := fun _ _ _ _ => rfl
  have kx : ∀ W2, W2 = (((w.alloc (.cells #[.int .i64 u.k, .int .i64 u.n, .string (bs u.s), .slice p u.l.length cap] 24)).alloc (.cells #[.int .i64 0] 3)).alloc (.cells #[gdV (w.heap.size + 1)] 26)) →
      Below w.heap.size w W2 ∧ Calls Try.prog 17 #[uV u (.slice p u.l.length cap), .pointer (some ⟨w.heap.size + 1, 0, none⟩), .pointer (some ⟨w.heap.size + 1 + 1, 0, none⟩)] W2 (GQ (w.heap.size + 1) 0 u W2) := by
    rintro W2 rfl
    have hb : Below w.heap.size w _ := (((Below.refl w.heap.size w).alloc (Nat.le_refl _) (.cells #[.int .i64 u.k, .int .i64 u.n, .string (bs u.s), .slice p u.l.length cap] 24)).alloc (by simp) (.cells #[.int .i64 0] 3)).alloc (by simp; omega) (.cells #[gdV (w.heap.size + 1)] 26)
    refine ⟨hb, good_all u (w.heap.size + 1) 0 _ _ (by omega) (hg.below hb (lx.heap_pos hg)) (by have := lx.heap_pos hg; omega) ((ha.stay hb).up (by omega)) hq ⟨?_, ?_⟩⟩
    · rw [Lib.alloc_old _ _ _ (by simp)]
      have := heap_alloc_new (w.alloc (.cells #[.int .i64 u.k, .int .i64 u.n, .string (bs u.s), .slice p u.l.length cap] 24)) (.cells #[.int .i64 0] 3)
      rwa [size_al] at this
    · have := heap_alloc_new ((w.alloc (.cells #[.int .i64 u.k, .int .i64 u.n, .string (bs u.s), .slice p u.l.length cap] 24)).alloc (.cells #[.int .i64 0] 3)) (.cells #[gdV (w.heap.size + 1)] 26)
      rwa [size_al, size_al] at this
  obtain ⟨hb, kx⟩ := kx _ rfl
  have HB := Lib.hid hb
  unfold uV gdV at kx
  clear hg ha hq hP hf hb
  go_enter Try.func10, Try.ntmps10
  go_wp2_with fail
  refine kx.mono ?_
  rintro e w2 ⟨r, m, rfl, hC, hm, hF, hiff, heq⟩
  have hr : r = decide (goodU u) := by
    rw [Nat.zero_add] at hiff
    rw [Bool.eq_iff_iff, decide_eq_true_iff]
    exact hiff
  have HB2 := Lib.hid (HB.out.trans ((hF.below (by rw [size_al, size_al, size_al]; omega)).mono (by omega)))
  subst hr
  clear kx hC hm hF hiff heq
  go_wp2
  go_ret
  exact ⟨rfl, HB2.out⟩
end Go.Proofs.Ytpihmockcjdafaa.wr
end
