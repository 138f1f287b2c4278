/- Terms that lie in some blocks; rows of them that grow.; The law's own some: the terms of a text's sentences.; The law TermTotal. -/
import Derived.Test.YtjccohcigopdfaaQ22
import Derived.Deep.AppendLies
import Derived.Deep.Onto
import Derived.Test.YtjccohcigopdfaaQ3
import Derived.Test.YtjccohcigopdfaaQ24
set_option linter.unusedVariables false
set_option linter.unusedSimpArgs false
section
/- Terms that lie in some blocks; rows of them that grow. -/
namespace Go.Proofs.Ytjccohcigopdfaa.tm
open Go.RowKit
open Go.Proofs.Ytjccohcigopdfaa.wr
open Go.Proofs.Ytjccohcigopdfaa.rd
open Go.Proofs.Ytjccohcigopdfaa.op (bs strC)
open Go.Proofs.Ytjccohcigopdfaa.lx (cell_at)
open Go.Proofs.Ytjccohcigopdfaa.nm (Fit)
set_option maxRecDepth 20000

mutual
/-- a is the slice of the parts; all lies in blocks of D -/
def RuD (D : Nat → Prop) (w : World) : U → Value → Prop
  | .mk _ n _ l, a => ∃ (p : Option Addr) (cap : Nat), a = .slice p l.length cap ∧ l.length ≤ cap ∧ cap ≤ maxLen ∧ Fit n ∧ RusD D w l p 0
def RusD (D : Nat → Prop) (w : World) : List U → Option Addr → Nat → Prop
  | [], _, _ => True
  | u :: l, p, i => (∃ (g o : Nat) (a : Value), p = some ⟨g, o, none⟩ ∧ D g ∧ w.cell? ⟨g, o + i * 4, none⟩ = some (.int .i64 u.k) ∧ w.cell? ⟨g, o + i * 4 + 1, none⟩ = some (.int .i64 u.n) ∧
      w.cell? ⟨g, o + i * 4 + 2, none⟩ = some (.string (bs u.s)) ∧ w.cell? ⟨g, o + i * 4 + 3, none⟩ = some a ∧ RuD D w u a) ∧ RusD D w l p (i + 1)
end
theorem lt_cell {w : World} {g j : Nat} {v : Value} (h : w.cell? ⟨g, j, none⟩ = some v) : g < w.heap.size := by
  rcases Nat.lt_or_ge g w.heap.size with h1 | h1
  · exact h1
  · unfold World.cell? at h; simp [Array.getElem?_eq_none h1] at h
section
variable {D D' : Nat → Prop} {w w' : World}
mutual
theorem RuD.ru (b : Nat) (hb : ∀ k, k < w.heap.size → D k → k < b) : ∀ {u : U} {a : Value}, RuD D w u a → Ru b w u a
  | .mk k n s l, a, h => by
    rw [RuD] at h; rw [Ru]
    obtain ⟨p, cap, h1, h2, h3, h4, h5⟩ := h
    exact ⟨p, cap, h1, h2, h3, h4, RusD.ru b hb h5⟩
theorem RusD.ru (b : Nat) (hb : ∀ k, k < w.heap.size → D k → k < b) : ∀ {l : List U} {p : Option Addr} {i : Nat}, RusD D w l p i → Rus b w l p i
  | [], _, _, _ => by rw [Rus]; trivial
  | u :: l, p, i, h => by
    rw [RusD] at h; rw [Rus]
    obtain ⟨⟨g, o, a, h1, h2, h3, h4, h5, h6, h7⟩, h8⟩ := h
    exact ⟨⟨g, o, a, h1, hb g (lt_cell h3) h2, h3, h4, h5, h6, RuD.ru b hb h7⟩, RusD.ru b hb h8⟩
end
theorem RuD.any {u : U} {a : Value} (h : RuD D w u a) : Ru w.heap.size w u a := h.ru _ fun _ hk _ => hk
mutual
theorem RuD.of {b : Nat} (hd : ∀ k, k < b → D k) : ∀ {u : U} {a : Value}, Ru b w u a → RuD D w u a
  | .mk k n s l, a, h => by
    rw [Ru] at h; rw [RuD]
    obtain ⟨p, cap, h1, h2, h3, h4, h5⟩ := h
    exact ⟨p, cap, h1, h2, h3, h4, RusD.of hd h5⟩
theorem RusD.of {b : Nat} (hd : ∀ k, k < b → D k) : ∀ {l : List U} {p : Option Addr} {i : Nat}, Rus b w l p i → RusD D w l p i
  | [], _, _, _ => by rw [RusD]; trivial
  | u :: l, p, i, h => by
    rw [Rus] at h; rw [RusD]
    obtain ⟨⟨g, o, a, h1, h2, h3, h4, h5, h6, h7⟩, h8⟩ := h
    exact ⟨⟨g, o, a, h1, hd g h2, h3, h4, h5, h6, RuD.of hd h7⟩, RusD.of hd h8⟩
end
mutual
theorem RuD.keep (hk : ∀ k, k < w.heap.size → D k → w'.heap[k]? = w.heap[k]?) (hd : ∀ k, k < w.heap.size → D k → D' k) : ∀ {u : U} {a : Value}, RuD D w u a → RuD D' w' u a
  | .mk k n s l, a, h => by
    rw [RuD] at h ⊢
    obtain ⟨p, cap, h1, h2, h3, h4, h5⟩ := h
    exact ⟨p, cap, h1, h2, h3, h4, RusD.keep hk hd h5⟩
theorem RusD.keep (hk : ∀ k, k < w.heap.size → D k → w'.heap[k]? = w.heap[k]?) (hd : ∀ k, k < w.heap.size → D k → D' k) : ∀ {l : List U} {p : Option Addr} {i : Nat}, RusD D w l p i → RusD D' w' l p i
  | [], _, _, _ => by rw [RusD]; trivial
  | u :: l, p, i, h => by
    rw [RusD] at h ⊢
    obtain ⟨⟨g, o, a, h1, h2, h3, h4, h5, h6, h7⟩, h8⟩ := h
    have hc : ∀ j, w'.cell? ⟨g, j, none⟩ = w.cell? ⟨g, j, none⟩ := fun j => World.cell?_of_block (hk g (lt_cell h3) h2)
    exact ⟨⟨g, o, a, h1, hd g (lt_cell h3) h2, by rw [hc]; exact h3, by rw [hc]; exact h4, by rw [hc]; exact h5, by rw [hc]; exact h6, RuD.keep hk hd h7⟩, RusD.keep hk hd h8⟩
end
theorem RuD.imp {u : U} {a : Value} (h : RuD D w u a) (hd : ∀ k, k < w.heap.size → D k → D' k) : RuD D' w u a := h.keep (fun _ _ _ => rfl) hd
theorem RuD.stay {u : U} {a : Value} (h : RuD D w u a) (hb : Below w.heap.size w w') : RuD D w' u a := h.keep (fun k hk _ => hb.block k hk) fun _ _ hd => hd
theorem RuD.one {u : U} {a : Value} (h : RuD D w u a) : ∃ p cap, a = .slice p u.l.length cap ∧ Fit u.n := by
  cases u
  rw [RuD] at h
  obtain ⟨p, cap, h1, h2, h3, h4, h5⟩ := h
  exact ⟨p, cap, h1, h4⟩
theorem RuD.cell {u : U} {a : Value} (h : RuD D w u a) : a.oneCell' = true := by obtain ⟨p, cap, rfl, _⟩ := h.one; rfl
end

/-! ### rows -/
abbrev ucell (x : U × Value) : List Value := [.int .i64 x.1.k, .int .i64 x.1.n, .string (bs x.1.s), x.2]
def ucs (l : List (U × Value)) : List Value := l.flatMap ucell
theorem ucs_app (l m : List (U × Value)) : ucs (l ++ m) = ucs l ++ ucs m := by simp [ucs]
theorem ucs_len (l : List (U × Value)) : (ucs l).length = l.length * 4 := by
  induction l with
  | nil => rfl
  | cons x l ih => rw [ucs, List.flatMap_cons, List.length_append, List.length_cons]; rw [ucs] at ih; rw [ih]; simp; omega
theorem ucs_get (l : List (U × Value)) (i j : Nat) (hi : i < l.length) (hj : j < 4) : (ucs l)[i * 4 + j]? = (ucell l[i])[j]? := by
  induction l generalizing i with
  | nil => exact absurd hi (Nat.not_lt_zero _)
  | cons t l ih =>
    rw [ucs, List.flatMap_cons]
    cases i with
    | zero => rw [List.getElem?_append_left (by simp; omega)]; simp
    | succ i =>
      rw [List.getElem?_append_right (by simp; omega)]
      rw [show (i + 1) * 4 + j - (ucell t).length = i * 4 + j from by simp; omega]
      rw [ucs] at ih
      rw [ih i (by simpa using hi)]; rfl
/-- the slice v, in a block from B on, holds these terms, whose parts lie in other blocks, of D -/
structure Uw (D : Nat → Prop) (B : Nat) (w : World) (v : Value) (l : List (U × Value)) : Prop where
  row : w.ownsRow B 25 4 v l.length (ucs l)
  els : ∀ x ∈ l, RuD (fun k => D k ∧ v.ownBlock ≠ some k) w x.1 x.2
section
variable {D D' : Nat → Prop} {B : Nat} {w w' : World} {v : Value} {l : List (U × Value)}
theorem Uw.lt (h : Uw D B w v l) (g : Nat) (hv : v.ownBlock = some g) : B ≤ g ∧ g < w.heap.size := World.ownsRow.lt h.row g hv
theorem Uw.shape (h : Uw D B w v l) : ∃ p cap, v = .slice p l.length cap ∧ l.length ≤ cap ∧ cap ≤ maxLen ∧ (l ≠ [] → ∃ g, p = some ⟨g, 0, none⟩ ∧ g < w.heap.size ∧ ∀ i (hi : i < l.length), w.cell? ⟨g, i * 4, none⟩ = some (.int .i64 l[i].1.k) ∧ w.cell? ⟨g, i * 4 + 1, none⟩ = some (.int .i64 l[i].1.n) ∧
    w.cell? ⟨g, i * 4 + 2, none⟩ = some (.string (bs l[i].1.s)) ∧ w.cell? ⟨g, i * 4 + 3, none⟩ = some l[i].2) := by
  rcases h.row.2 with ⟨e1, e2⟩ | ⟨g, cap, cur, e1, _, e3, e4, e5, _⟩
  · have : l = [] := List.length_eq_zero_iff.1 e2
    subst this
    exact ⟨none, 0, e1, Nat.le_refl _, Nat.zero_le _, fun h => absurd rfl h⟩
  · refine ⟨_, cap, e1, e4, e5, fun _ => ⟨g, rfl, lt_of e3, fun i hi => ?_⟩⟩
    have hc := World.ownsRow.cells h.row (g := g) (by rw [e1]; rfl)
    have key : ∀ m u, m < 4 → (ucell l[i])[m]? = some u → w.cell? ⟨g, i * 4 + m, none⟩ = some u := fun m u hm hu => by
      have := hc (i * 4 + m) u (by rw [ucs_get l i m hi hm]; exact hu)
      rwa [op.addr_add] at this
    exact ⟨key 0 _ (by omega) rfl, key 1 _ (by omega) rfl, key 2 _ (by omega) rfl, key 3 _ (by omega) rfl⟩
theorem Uw.pu (h : Uw D B w v l) : ∃ p cap, v = .slice p l.length cap ∧ Pu w.heap.size w (l.map Prod.fst) p cap := by
  obtain ⟨p, cap, h1, h2, h3, h4⟩ := h.shape
  refine ⟨p, cap, h1, by simpa using h2, h3, fun i hi => ?_⟩
  have hi' : i < l.length := by simpa using hi
  obtain ⟨g, hg, hgl, hc⟩ := h4 (by intro e; subst e; exact absurd hi' (Nat.not_lt_zero _))
  obtain ⟨c0, c1, c2, c3⟩ := hc i hi'
  have e : (l.map Prod.fst).getD i dfU = l[i].1 := by simp [hi']
  rw [El, e]
  exact ⟨g, 0, l[i].2, hg, hgl, by rw [Nat.zero_add]; exact c0, by rw [Nat.zero_add]; exact c1, by rw [Nat.zero_add]; exact c2, by rw [Nat.zero_add]; exact c3, (h.els l[i] (List.getElem_mem hi')).any⟩
theorem Uw.stay (h : Uw D B w v l) (hb : Below w.heap.size w w') : Uw D B w' v l := ⟨own_kept h.row (Kt.below hb), fun x hx => (h.els x hx).stay hb⟩
theorem Uw.grown (h : Uw D B w v l) (hg : w.grownBy w' v.ownBlock) (hB : B ≤ w.heap.size) : Below B w w' :=
  ⟨hg.os, hg.tape, hg.output, hg.size, fun k hk => hg.block k (by omega) (fun e => by have := (h.lt k e.symm).1; omega)⟩
theorem Uw.new : Uw D w.heap.size (w.alloc (.cells #[] 25)) (.slice (some ⟨w.heap.size, 0, none⟩) 0 0) [] :=
  ⟨⟨rfl, .inr ⟨w.heap.size, 0, #[], rfl, Nat.le_refl _, heap_alloc_new w _, Nat.le_refl _, Nat.zero_le _, rfl, rfl⟩⟩, fun x hx => by simp at hx⟩
theorem Uw.none' : Uw D B w (.slice none 0 0) [] := ⟨World.ownsRow_nil _ _ _ _, fun x hx => by simp at hx⟩
end
/-- append of one term to a row of one's own -/
theorem wpList_u1 {ops : Array Oper} {rest : List Oper} {o : Oper} {A : Act} {Q : Exit → Act → World → Prop} (hgd : o.guard = none) (s x : Operand)
    (ho : o.op = .call { callee := .builtin .append, args := #[s, x], argTypes := #[23, 23] })
    (D : Nat → Prop) (B : Nat) (W : World) (v0 : Value) (l : List (U × Value)) (hs : A.eval s = v0) (hown : Uw D B W v0 l) (g cap : Nat) (u : U) (a : Value) (hx : A.eval x = .slice (some ⟨g, 0, none⟩) 1 cap)
    (hc : W.heap[g]? = some (.cells #[.int .i64 u.k, .int .i64 u.n, .string (bs u.s), a] 25 (0, 0))) (hT : RuD (fun k => D k ∧ v0.ownBlock ≠ some k) W u a) (hl : l.length ≤ 2000000) (hB : B ≤ W.heap.size)
    (h : ∀ g' cap' w', Uw D B w' (.slice (some ⟨g', 0, none⟩) (l.length + 1) cap') (l ++ [(u, a)]) → W.grownBy w' v0.ownBlock → (v0.ownBlock = some g' ∨ g' = W.heap.size) → wpList Try.prog ops Q rest (A.put o.dst (.slice (some ⟨g', 0, none⟩) (l.length + 1) cap')) w') : wpList Try.prog ops Q (o :: rest) A W := by
  obtain ⟨i0, hi, hz0, hz1, hz2⟩ := info_parts term_info3
  refine wpList_append_lies _ hgd s x 23 ho B 25 i0 _ 4 56 Try.underlying23 hi hz0 hz1 hz2 rfl (by decide) v0 l.length (ucs l) hs hown.row ⟨g, 0, none⟩ 1 cap (ucell (u, a)) hx rfl ?_ ?_ (by omega) (by unfold maxLen; omega) (by omega) hB _ rfl ?_
  · intro j y hj
    rw [op.addr_add, cell_at hc, ← Array.getElem?_toList]; exact hj
  · intro y hy
    simp at hy
    rcases hy with rfl | rfl | rfl | rfl <;> first | rfl | exact hT.cell
  · intro g' cap' w' hown' hgr hat hlt
    have hkp : ∀ {y : U} {b : Value}, RuD (fun k => D k ∧ v0.ownBlock ≠ some k) W y b → RuD (fun k => D k ∧ (Value.slice (some ⟨g', 0, none⟩) (l.length + 1) cap').ownBlock ≠ some k) w' y b := fun hy =>
      hy.keep (fun k hk hd => hgr.block k hk (fun e => hd.2 e.symm)) fun k hk hd => ⟨hd.1, fun e => by
        have e2 : g' = k := by injection e
        subst e2
        rcases hat with h1 | h1
        · exact hd.2 h1
        · omega⟩
    refine h g' cap' w' ⟨by rw [List.length_append, ucs_app]; simpa [ucs] using hown', fun y hy => ?_⟩ hgr hat
    rcases List.mem_append.1 hy with hy | hy
    · exact hkp (hown.els y hy)
    · rw [List.mem_singleton.1 hy]; exact hkp hT
end Go.Proofs.Ytjccohcigopdfaa.tm
end
section
/- The law's own some: the terms of a text's sentences. -/
namespace Go.Proofs.Ytjccohcigopdfaa.tm
open Go.RowKit
open Go.Proofs.Ytjccohcigopdfaa.wr
open Go.Proofs.Ytjccohcigopdfaa.rd
open Go.Proofs.Ytjccohcigopdfaa.rr
open Go.Proofs.Ytjccohcigopdfaa.ls
open Go.Proofs.Ytjccohcigopdfaa.op (bs strC Both bs_data)
open Go.Proofs.Ytjccohcigopdfaa.lx (cell_at toksD)
open Go.Proofs.Ytjccohcigopdfaa.nm (Fit)
set_option maxRecDepth 20000

mutual
theorem rp_ruD {D : Nat → Prop} {w : World} : ∀ {t : T} {a : Value}, Rp D w t a → fxT t → RuD D w (emb t) a
  | .leaf k n s, a, h, hf => by
    rw [Rp] at h
    rw [fxT] at hf
    rw [emb, RuD]
    exact ⟨none, 0, h, Nat.le_refl _, Nat.zero_le _, hf, by rw [RusD]; trivial⟩
  | .cmp s l, a, h, hf => by
    rw [fxT] at hf
    rw [emb, RuD]
    have hN := lenL h
    obtain ⟨p, c, rfl⟩ := shapeL h
    rw [Rp] at h
    obtain ⟨az, h1, h2, h3⟩ := h
    rcases h1.2 with ⟨e1, e2⟩ | ⟨g, cap, cur, e1, e2, e3, e4, e5, e6⟩
    · injection e1 with x1 x2 x3
      have : l = [] := List.length_eq_zero_iff.1 x2
      subst this
      exact ⟨p, c, rfl, Nat.zero_le _, by rw [x3]; exact Nat.zero_le _, fit0, by rw [embL, RusD]; trivial⟩
    · injection e1 with x1 x2 x3
      subst x1 x3
      refine ⟨_, c, by rw [embL_len], by rw [embL_len]; exact e4, e5, fit0, ?_⟩
      have hc := World.ownsRow.cells h1 (g := g) rfl
      refine rps_ruD h3 hf g (h2 g rfl) 0 fun i j u hj hu => ?_
      have := hc (i * 4 + j) u hu
      rw [op.addr_add] at this
      rw [Nat.zero_add]; exact this
theorem rps_ruD {D : Nat → Prop} {w : World} : ∀ {l : List T} {az : List Value}, Rps D w l az → fxL l → ∀ (g : Nat), D g → ∀ m, (∀ i j u, j < 4 → (tvs (l.zip az))[i * 4 + j]? = some u → w.cell? ⟨g, (m + i) * 4 + j, none⟩ = some u) → RusD D w (embL l) (some ⟨g, 0, none⟩) m
  | [], az, _, _, _, _, _, _ => by rw [embL, RusD]; trivial
  | t :: l, az, h, hf, g, hg, m, hc => by
    rw [Rps] at h
    obtain ⟨a, az', rfl, h1, h2⟩ := h
    rw [fxL] at hf
    rw [embL, RusD, emb_k, emb_n, emb_s]
    have c : ∀ j u, j < 4 → (tv t a)[j]? = some u → w.cell? ⟨g, m * 4 + j, none⟩ = some u := fun j u hj hu => by
      have := hc 0 j u hj (by rw [tvs_get _ 0 j (by simp) hj]; simpa using hu)
      rwa [Nat.add_zero] at this
    refine ⟨⟨g, 0, a, rfl, hg, ?_, ?_, ?_, ?_, rp_ruD h1 hf.1⟩, rps_ruD h2 hf.2 g hg (m + 1) fun i j u hj hu => ?_⟩
    · rw [Nat.zero_add]; exact c 0 _ (by omega) rfl
    · rw [Nat.zero_add]; exact c 1 _ (by omega) rfl
    · rw [Nat.zero_add]; exact c 2 _ (by omega) rfl
    · rw [Nat.zero_add]; exact c 3 _ (by omega) rfl
    · have := hc (i + 1) j u hj (by
        rw [List.zip_cons_cons, tvs, List.flatMap_cons, List.getElem?_append_right (by simp [tv]; omega), show (i + 1) * 4 + j - (tv (t, a).1 (t, a).2).length = i * 4 + j from by simp [tv]; omega]
        exact hu)
      rw [show m + 1 + i = m + (i + 1) by omega]; exact this
end
/-- a sentence's term, where it lies -/
theorem ss_at {B i : Nat} {w : World} {v : Value} {l : List Sn} (h : Ss B w v l) (hi : i < l.length) : ∃ (g cap : Nat) (a : Value), v = .slice (some ⟨g, 0, none⟩) l.length cap ∧ l.length ≤ cap ∧ B ≤ g ∧ g < w.heap.size ∧ Rp (fun k => B ≤ k) w l[i].1 a ∧
    w.cell? ⟨g, i * 5, none⟩ = some (.int .i64 (l[i].1.k : Nat)) ∧ w.cell? ⟨g, i * 5 + 1, none⟩ = some (.int .i64 l[i].1.n) ∧ w.cell? ⟨g, i * 5 + 2, none⟩ = some (.string (bs l[i].1.s)) ∧ w.cell? ⟨g, i * 5 + 3, none⟩ = some a := by
  obtain ⟨zs, hz, h1, h2⟩ := h
  rcases h1.2 with ⟨_, e2⟩ | ⟨g, cap, cur, e1, e2, e3, e4, _⟩
  · omega
  have hc := World.ownsRow.cells h1 (g := g) (by rw [e1]; rfl)
  have key : ∀ m u, m < 5 → (scell l[i] (zs[i]'(by omega)))[m]? = some u → w.cell? ⟨g, i * 5 + m, none⟩ = some u := fun m u hm hu => by
    have h4 := scells_get (l.zip zs) i m (by simp; omega) hm
    rw [List.getElem_zip] at h4
    have := hc (i * 5 + m) u (by rw [h4]; exact hu)
    rwa [op.addr_add] at this
  exact ⟨g, cap, (zs[i]'(by omega)).1, e1, e4, e2, lt_of e3, (h2 i hi (by omega)).1, key 0 _ (by omega) rfl, key 1 _ (by omega) rfl, key 2 _ (by omega) rfl, key 3 _ (by omega) rfl⟩
theorem ss_sl {B : Nat} {w : World} {v : Value} {l : List Sn} (h : Ss B w v l) : ∃ p cap, v = .slice p l.length cap ∧ l.length ≤ cap ∧ cap ≤ maxLen := by
  obtain ⟨zs, hz, h1, h2⟩ := h
  rcases h1.2 with ⟨e1, e2⟩ | ⟨g, cap, cur, e1, e2, e3, e4, e5, _⟩
  · exact ⟨none, 0, by rw [e1, e2], by omega, Nat.zero_le _⟩
  · exact ⟨_, cap, e1, e4, e5⟩
def SomeQ (w : World) (e : Ending) (w' : World) : Prop :=
  ∃ (p : Option Addr) (cap : Nat) (l : List U), e = .returned (.slice p l.length cap) ∧ Pu w'.heap.size w' l p cap ∧ l.length ≤ 40 ∧ (∀ u ∈ l, Rd1 u) ∧ Below w.heap.size w w'
set_option maxHeartbeats 4000000 in
theorem some_c (s : ByteArray) (w : World) (hz : s.size ≤ 9223372036854775807) : Calls Try.prog 24 #[.string s] w (SomeQ w) := by
  have hB := allocB w (.cells #[] 25)
  have hU := Uw.new (D := fun _ => True) (w := w)
  by_cases hl : s.size ≤ 2048
  · have h1 : ¬ (2048 : Int) < (s.size : Int) := by omega
    have k1 := rread_c s (w.alloc (.cells #[] 25)) trivial (Nat.zero_le _) hz
    have hOk := Lib.hid (fun xs => read_z (l := s.data.toList) (xs := xs))
    generalize readP (toksD s.data.toList) = X at *
    have HB := Lib.hid hB
    have HU := Lib.hid hU
    clear hB hU hz
    go_enter Try.func24, Try.ntmps24
    go_wp2_with fail
    refine k1.mono ?_
    clear k1
    rcases X with k | xs
    · rintro e w1 ⟨z, rfl, hb⟩
      have HB1 := Lib.hid (HB.out.trans (hb.mono HB.out.size))
      have HU1 := Lib.hid (HU.out.stay hb)
      clear hb hOk
      go_wp2
      go_loopg [3, 7] 0 (fun k v3 v7 wr => v3 = .slice (some ⟨w.heap.size, 0, none⟩) 0 0 ∧ v7 = .int .i64 0 ∧ wr = w1)
      case atStart => exact ⟨rfl, rfl, rfl⟩
      case round =>
        obtain ⟨rfl, rfl, rfl⟩ := hrel
        obtain ⟨p, cap, he, hp⟩ := HU1.out.pu
        have HP := Lib.hid hp
        have he2 : p = some ⟨w.heap.size, 0, none⟩ ∧ cap = 0 := by injection he with x1 _ x2; exact ⟨x1.symm, x2.symm⟩
        obtain ⟨rfl, rfl⟩ := he2
        clear hp he
        go_wp2
        go_ret
        exact ⟨_, _, [], rfl, HP.out, by simp, fun u hu => by simp at hu, HB1.out⟩
    · rintro e w1 ⟨v, rfl, hS, hb⟩
      have hrd := hOk.out xs rfl
      obtain ⟨pv, cv, rfl, hcv, hmv⟩ := ss_sl hS
      unfold maxLen at hmv
      have HB1 := Lib.hid (HB.out.trans (hb.mono HB.out.size))
      have HU1 := Lib.hid (HU.out.stay hb)
      have HS := Lib.hid hS
      have Hrd := Lib.hid hrd
      have hsz1 := Lib.hid hb.size
      clear hb hOk hS hrd
      go_wp2
      go_loopg [3, 7] (min xs.length 40) (fun k v3 v7 wr => ∃ (v : Value) (l : List (U × Value)), k = min xs.length 40 - l.length ∧ l.length ≤ xs.length ∧ l.length ≤ 40 ∧ v = v3 ∧ v7 = .int .i64 l.length ∧ Hid (Uw (fun _ => True) w.heap.size wr v l) ∧ Hid (∀ x ∈ l, Rd1 x.1) ∧ Hid (Below w.heap.size w1 wr) ∧ Hid (∀ q, w.heap.size + 1 ≤ q → q < w1.heap.size → wr.heap[q]? = w1.heap[q]?) ∧ Hid (∀ q, v.ownBlock = some q → q = w.heap.size ∨ w1.heap.size ≤ q))
      case atStart => exact ⟨_, [], by simp, by simp, by simp, rfl, rfl, HU1, Lib.hid (fun x hx => by simp at hx), Lib.hid (Below.refl _ _), Lib.hid (fun _ _ _ => rfl), Lib.hid (fun q hq => .inl (by injection hq with h; exact h.symm))⟩
      case round =>
        obtain ⟨v, l, hgk, hi, hi4, rfl, rfl, HUr, HRd, HW, HQ, HO⟩ := hrel
        obtain ⟨pl, cl, rfl⟩ : ∃ p cap, v = .slice p l.length cap := by obtain ⟨p, cap, h, _⟩ := HUr.out.shape; exact ⟨p, cap, h⟩
        by_cases hlt : l.length < xs.length
        · have hlt2 : (l.length : Int) < xs.length := by omega
          by_cases h40 : l.length < 40
          · have h40' : (l.length : Int) < 40 := by omega
            have i4 : (0 : Int) ≤ (l.length : Int) := by omega
            obtain ⟨g, cap, a, hpe, hcap, hBg, hgl, hRp, c0, c1, c2, c3⟩ := ss_at HS.out hlt
            obtain ⟨rfl, rfl⟩ : pv = some ⟨g, 0, none⟩ ∧ cv = cap := by simpa using hpe
            rw [sizeA] at hBg
            have hx := Hrd.out xs[l.length] (List.getElem_mem _)
            have hruD := rp_ruD hRp hx.2
            obtain ⟨p', m', c', rfl⟩ := hRp.shape
            have hgb : wr.heap[g]? = w1.heap[g]? := HQ.out g hBg hgl
            have d0 := (World.cell?_of_block (a := ⟨g, l.length * 5, none⟩) hgb).trans c0
            have d1 := (World.cell?_of_block (a := ⟨g, l.length * 5 + 1, none⟩) hgb).trans c1
            have d2 := (World.cell?_of_block (a := ⟨g, l.length * 5 + 2, none⟩) hgb).trans c2
            have d3 := (World.cell?_of_block (a := ⟨g, l.length * 5 + 3, none⟩) hgb).trans c3
            rw [← emb_k] at d0
            rw [← emb_n] at d1
            rw [← emb_s] at d2
            have HXr := Lib.hid hx.1
            have hT0 : RuD (fun k => True ∧ (Value.slice pl l.length cl).ownBlock ≠ some k) wr (emb xs[l.length].1) (.slice p' m' c') :=
              hruD.keep (fun k hk hd => HQ.out k (by rw [sizeA] at hd; exact hd) hk) fun k hk hd => ⟨trivial, fun e => by rw [sizeA] at hd; rcases HO.out k e with h | h <;> omega⟩
            generalize emb xs[l.length].1 = u at *
            have hT1 := Lib.hid (hT0.stay (allocB wr (.cells #[.int .i64 u.k, .int .i64 u.n, .string (bs u.s), .slice p' m' c'] 25)))
            have hc1 := Lib.hid (heap_alloc_new wr (.cells #[.int .i64 u.k, .int .i64 u.n, .string (bs u.s), .slice p' m' c'] 25))
            have hU1 := Lib.hid (HUr.out.stay (allocB wr (.cells #[.int .i64 u.k, .int .i64 u.n, .string (bs u.s), .slice p' m' c'] 25)))
            have hl2 := Lib.hid (show l.length ≤ 2000000 by omega)
            have hszr := Lib.hid (show w.heap.size ≤ wr.heap.size from Nat.le_trans (Nat.le_of_lt (Nat.lt_of_lt_of_le (Nat.lt_succ_self _) (by have := hsz1.out; rw [sizeA] at this; exact this))) HW.out.size)
            have hB2 := Lib.hid (show w.heap.size ≤ (wr.alloc (.cells #[.int .i64 u.k, .int .i64 u.n, .string (bs u.s), .slice p' m' c'] 25)).heap.size by rw [sizeA]; have := hszr.out; omega)
            clear hRp hruD hx hgb c0 c1 c2 c3 hT0 hpe
            go_wp2_with (at_builtin; refine wpList_u1 rfl _ _ rfl (fun _ => True) w.heap.size _ (.slice pl l.length cl) l rfl hU1.out wr.heap.size 1 u (.slice p' m' c') rfl hc1.out hT1.out hl2.out hB2.out ?_; intro g9 c9 w9 hv9 hb9 ha9; have HV9 := Lib.hid hv9; have HG9 := Lib.hid hb9; have HA9 := Lib.hid ha9; clear hv9 hb9 ha9)
            go_roundg (min xs.length 40 - (l.length + 1))
            case measure => omega
            case rel =>
              refine ⟨_, l ++ [(u, .slice p' m' c')], by simp, by simp; omega, by simp; omega, rfl, by simp, HV9, Lib.hid ?_, Lib.hid ?_, Lib.hid ?_, Lib.hid ?_⟩
              · intro x hx
                rcases List.mem_append.1 hx with h | h
                · exact HRd.out x h
                · rw [List.mem_singleton.1 h]; exact HXr.out
              · exact HW.out.trans (((allocB wr _).mono hszr.out).trans (hU1.out.grown HG9.out hB2.out))
              · intro q h1 h2
                have h3 := HW.out.size
                rw [HG9.out.block q (by rw [sizeA]; omega) (fun e => by rcases HO.out q e.symm with h | h <;> omega), Lib.alloc_old _ _ _ (by omega)]
                exact HQ.out q h1 h2
              · intro q hq
                have h3 := HW.out.size
                rcases HA9.out with h | h
                · exact HO.out q (by rw [h]; exact hq)
                · rw [sizeA] at h
                  have : g9 = q := by injection hq
                  right; omega
          · have h40' : ¬ (l.length : Int) < 40 := by omega
            obtain ⟨p, cap, he, hp⟩ := HUr.out.pu
            have he2 : p = pl ∧ cap = cl := by injection he with x1 _ x2; exact ⟨x1.symm, x2.symm⟩
            obtain ⟨rfl, rfl⟩ := he2
            have HP := Lib.hid hp
            clear hp he
            go_wp2
            go_ret
            exact ⟨_, _, l.map Prod.fst, by rw [List.length_map]; rfl, HP.out, by simp; omega, fun u hu => by obtain ⟨x, hx, rfl⟩ := List.mem_map.1 hu; exact HRd.out x hx, HB1.out.trans HW.out⟩
        · have hlt2 : ¬ (l.length : Int) < xs.length := by omega
          obtain ⟨p, cap, he, hp⟩ := HUr.out.pu
          have he2 : p = pl ∧ cap = cl := by injection he with x1 _ x2; exact ⟨x1.symm, x2.symm⟩
          obtain ⟨rfl, rfl⟩ := he2
          have HP := Lib.hid hp
          clear hp he
          go_wp2
          go_ret
          exact ⟨_, _, l.map Prod.fst, by rw [List.length_map]; rfl, HP.out, by simp; omega, fun u hu => by obtain ⟨x, hx, rfl⟩ := List.mem_map.1 hu; exact HRd.out x hx, HB1.out.trans HW.out⟩
  · have h1 : (2048 : Int) < (s.size : Int) := by omega
    have HB := Lib.hid hB
    obtain ⟨p, cap, he, hp⟩ := hU.pu
    have he2 : p = some ⟨w.heap.size, 0, none⟩ ∧ cap = 0 := by injection he with x1 _ x2; exact ⟨x1.symm, x2.symm⟩
    obtain ⟨rfl, rfl⟩ := he2
    have HP := Lib.hid hp
    clear hp he hB hU hz
    go_enter Try.func24, Try.ntmps24
    go_wp2
    go_ret
    exact ⟨_, _, [], rfl, HP.out, by simp, fun u hu => by simp at hu, HB.out⟩
end Go.Proofs.Ytjccohcigopdfaa.tm
end
section
/- The law TermTotal. -/
namespace Go.Proofs.Ytjccohcigopdfaa.tm
open Go.RowKit
open Go.Proofs.Ytjccohcigopdfaa.wr
open Go.Proofs.Ytjccohcigopdfaa.rd
open Go.Proofs.Ytjccohcigopdfaa.op (bs strC)
open Go.Proofs.Ytjccohcigopdfaa.lx (cell_at)
open Go.Proofs.Ytjccohcigopdfaa.nm (Fit)
set_option maxRecDepth 20000

/-- the atom of the law's other answer -/
def uA : U := .mk 3 0 [97] []
theorem ruA (W : World) : Ru W.heap.size W uA (.slice none 0 0) := by unfold uA; rw [Ru]; exact ⟨none, 0, rfl, Nat.le_refl _, Nat.zero_le _, fit0, by rw [Rus]; trivial⟩
theorem cmpIA : cmpU uI uA = -1 := by rw [cmp_k (by decide)]; rfl
theorem clI : clU uI := by unfold uI; rw [clU]; exact .inr (.inl ⟨rfl, rfl, rfl⟩)
set_option maxHeartbeats 4000000 in
theorem total_w (s : ByteArray) (w : World) (hz : s.size ≤ 9223372036854775807) :
    Calls Try.prog 6 #[.string s] w fun e w' => e = .returned (.bool true) ∧ Below w.heap.size w w' := by
  have k1 := some_c s w hz
  clear hz
  go_enter Try.func6, Try.ntmps6
  go_wp2_with fail
  refine k1.mono ?_
  clear k1
  rintro e w1 ⟨p, cap, l, rfl, hP, hl, hR, hb⟩
  have HB1 := Lib.hid hb
  have hle := hP.le
  by_cases h3 : l.length < 3
  · have h3' : (l.length : Int) < 3 := by omega
    have kc := compare_c (u := uI) (v := uA) clI (by rw [szI]; omega) (ruI w1) (ruA w1)
    rw [cmpIA] at kc
    unfold uI uA uV at kc
    have ebs : bs [97] = { data := #[97] } := rfl
    have e0 : bs [] = { data := #[] } := rfl
    simp only [U.k, U.n, U.s, ebs, e0] at kc
    clear hb hP hR
    go_wp2_with fail
    refine kc.mono ?_
    rintro e w2 ⟨rfl, hb⟩
    have HB3 := Lib.hid (HB1.out.trans (hb.mono HB1.out.size))
    clear hb kc
    go_wp2
    go_ret
    exact ⟨rfl, HB3.out⟩
  · have h3' : ¬ (l.length : Int) < 3 := by omega
    have i0 : (0 : Int) < (l.length : Int) := by omega
    have i1 : (1 : Int) < (l.length : Int) := by omega
    have i2 : (2 : Int) < (l.length : Int) := by omega
    obtain ⟨g, o, q0, c0, hpe, hgl, a0, a1, a2, a3, hA⟩ := at_pu hP (i := 0) (by omega)
    obtain ⟨g', o', q1, c1, hpe', hgl', b0, b1, b2, b3, hBt⟩ := at_pu hP (i := 1) (by omega)
    obtain ⟨g'', o'', q2, c2, hpe'', hgl'', d0, d1, d2, d3, hC⟩ := at_pu hP (i := 2) (by omega)
    subst hpe
    obtain ⟨rfl, rfl⟩ : g = g' ∧ o = o' := by simpa using hpe'
    obtain ⟨rfl, rfl⟩ : g = g'' ∧ o = o'' := by simpa using hpe''
    have rA := hR (l.getD 0 dfU) (by rw [show l.getD 0 dfU = l[0] by simp [show 0 < l.length by omega]]; exact List.getElem_mem _)
    have rB := hR (l.getD 1 dfU) (by rw [show l.getD 1 dfU = l[1] by simp [show 1 < l.length by omega]]; exact List.getElem_mem _)
    have rC := hR (l.getD 2 dfU) (by rw [show l.getD 2 dfU = l[2] by simp [show 2 < l.length by omega]]; exact List.getElem_mem _)
    generalize l.getD 0 dfU = x at *
    generalize l.getD 1 dfU = y at *
    generalize l.getD 2 dfU = z at *
    simp only [Nat.zero_mul, Nat.add_zero, Nat.one_mul] at a0 a1 a2 a3 b0 b1 b2 b3 d0 d1 d2 d3
    have f0 := alloc_cell (o := .cells #[.int .i64 x.k, .int .i64 x.n, .string (bs x.s), .slice q0 x.l.length c0] 25) b0 hgl
    have f1 := alloc_cell (o := .cells #[.int .i64 x.k, .int .i64 x.n, .string (bs x.s), .slice q0 x.l.length c0] 25) b1 hgl
    have f2 := alloc_cell (o := .cells #[.int .i64 x.k, .int .i64 x.n, .string (bs x.s), .slice q0 x.l.length c0] 25) b2 hgl
    have f3 := alloc_cell (o := .cells #[.int .i64 x.k, .int .i64 x.n, .string (bs x.s), .slice q0 x.l.length c0] 25) b3 hgl
    have hgl2 : g < (w1.alloc (.cells #[.int .i64 x.k, .int .i64 x.n, .string (bs x.s), .slice q0 x.l.length c0] 25)).heap.size := by rw [sizeA]; omega
    have e0 := alloc_cell (o := .cells #[.int .i64 y.k, .int .i64 y.n, .string (bs y.s), .slice q1 y.l.length c1] 25) (alloc_cell (o := .cells #[.int .i64 x.k, .int .i64 x.n, .string (bs x.s), .slice q0 x.l.length c0] 25) d0 hgl) hgl2
    have e1 := alloc_cell (o := .cells #[.int .i64 y.k, .int .i64 y.n, .string (bs y.s), .slice q1 y.l.length c1] 25) (alloc_cell (o := .cells #[.int .i64 x.k, .int .i64 x.n, .string (bs x.s), .slice q0 x.l.length c0] 25) d1 hgl) hgl2
    have e2 := alloc_cell (o := .cells #[.int .i64 y.k, .int .i64 y.n, .string (bs y.s), .slice q1 y.l.length c1] 25) (alloc_cell (o := .cells #[.int .i64 x.k, .int .i64 x.n, .string (bs x.s), .slice q0 x.l.length c0] 25) d2 hgl) hgl2
    have e3 := alloc_cell (o := .cells #[.int .i64 y.k, .int .i64 y.n, .string (bs y.s), .slice q1 y.l.length c1] 25) (alloc_cell (o := .cells #[.int .i64 x.k, .int .i64 x.n, .string (bs x.s), .slice q0 x.l.length c0] 25) d3 hgl) hgl2
    obtain ⟨hx0, hx1, hxz, hxb⟩ := box2 w1 (.cells #[.int .i64 x.k, .int .i64 x.n, .string (bs x.s), .slice q0 x.l.length c0] 25) (.cells #[.int .i64 y.k, .int .i64 y.n, .string (bs y.s), .slice q1 y.l.length c1] 25)
    have hx2 := heap_alloc_new ((w1.alloc (.cells #[.int .i64 x.k, .int .i64 x.n, .string (bs x.s), .slice q0 x.l.length c0] 25)).alloc (.cells #[.int .i64 y.k, .int .i64 y.n, .string (bs y.s), .slice q1 y.l.length c1] 25)) (.cells #[.int .i64 z.k, .int .i64 z.n, .string (bs z.s), .slice q2 z.l.length c2] 25)
    have hb3 := allocB ((w1.alloc (.cells #[.int .i64 x.k, .int .i64 x.n, .string (bs x.s), .slice q0 x.l.length c0] 25)).alloc (.cells #[.int .i64 y.k, .int .i64 y.n, .string (bs y.s), .slice q1 y.l.length c1] 25)) (.cells #[.int .i64 z.k, .int .i64 z.n, .string (bs z.s), .slice q2 z.l.length c2] 25)
    rw [hxz] at hx2
    have hX0 := Lib.hid ((hb3.block w1.heap.size (by omega)).trans hx0)
    have hX1 := Lib.hid ((hb3.block (w1.heap.size + 1) (by omega)).trans hx1)
    have hX2 := Lib.hid hx2
    have hbb := hxb.trans (hb3.mono hxb.size)
    have HB2 := Lib.hid (HB1.out.trans (hbb.mono HB1.out.size))
    have HA := Lib.hid ((hA.stay hbb).up hbb.size)
    have HBt := Lib.hid ((hBt.stay hbb).up hbb.size)
    have HC := Lib.hid ((hC.stay hbb).up hbb.size)
    have cA := rA.cl
    have zA := rA.sz
    have cB := rB.cl
    have zB := rB.sz
    have HT := Lib.hid (cmp_tr x y z)
    have Hin := Lib.hid (cmp_in x y)
    clear hb hP hR hA hBt hC hx0 hx1 hx2 hxz hxb hb3 hbb rA rB rC b0 b1 b2 b3 d0 d1 d2 d3
    go_wp2_with fail
    clear a0 a1 a2 a3 f0 f1 f2 f3 e0 e1 e2 e3
    generalize World.alloc (World.alloc (World.alloc w1 _) _) _ = W at *
    have hW : Hid (Below W.heap.size W W) := Lib.hid (Below.refl _ _)
    have k1 : ∀ (wc : World), Hid (Below W.heap.size W wc) → Calls Try.prog 21 #[uV x (.slice q0 x.l.length c0), uV y (.slice q1 y.l.length c1)] wc fun e w' => e = .returned (.int .i64 (cmpU x y)) ∧ Hid (Below W.heap.size W w') := fun wc h =>
      (compare_c cA (by omega) ((HA.out.stay h.out).up h.out.size) ((HBt.out.stay h.out).up h.out.size)).mono fun e w' ⟨he, hb⟩ => ⟨he, HBd h h.out.size hb⟩
    have k2 : ∀ (wc : World), Hid (Below W.heap.size W wc) → Calls Try.prog 21 #[uV y (.slice q1 y.l.length c1), uV z (.slice q2 z.l.length c2)] wc fun e w' => e = .returned (.int .i64 (cmpU y z)) ∧ Hid (Below W.heap.size W w') := fun wc h =>
      (compare_c cB (by omega) ((HBt.out.stay h.out).up h.out.size) ((HC.out.stay h.out).up h.out.size)).mono fun e w' ⟨he, hb⟩ => ⟨he, HBd h h.out.size hb⟩
    have k3 : ∀ (wc : World), Hid (Below W.heap.size W wc) → Calls Try.prog 21 #[uV x (.slice q0 x.l.length c0), uV z (.slice q2 z.l.length c2)] wc fun e w' => e = .returned (.int .i64 (cmpU x z)) ∧ Hid (Below W.heap.size W w') := fun wc h =>
      (compare_c cA (by omega) ((HA.out.stay h.out).up h.out.size) ((HC.out.stay h.out).up h.out.size)).mono fun e w' ⟨he, hb⟩ => ⟨he, HBd h h.out.size hb⟩
    have k4 : ∀ (wc : World), Hid (Below W.heap.size W wc) → Calls Try.prog 22 #[uV x (.slice q0 x.l.length c0), uV y (.slice q1 y.l.length c1)] wc fun e w' => e = .returned (.int .i64 (cmpU x y)) ∧ Hid (Below W.heap.size W w') := fun wc h =>
      (rcmp_c x y _ _ wc ((HA.out.stay h.out).up h.out.size) ((HBt.out.stay h.out).up h.out.size)).mono fun e w' ⟨he, hb⟩ => ⟨he, HBd h h.out.size hb⟩
    unfold uV at k1 k2 k3 k4
    have hXY : Hid (∀ wc, Hid (Below W.heap.size W wc) → (wc.cell? ⟨w1.heap.size, 0, none⟩ = some (.int .i64 x.k) ∧ wc.cell? ⟨w1.heap.size, 1, none⟩ = some (.int .i64 x.n) ∧ wc.cell? ⟨w1.heap.size, 2, none⟩ = some (.string (bs x.s)) ∧ wc.cell? ⟨w1.heap.size, 3, none⟩ = some (.slice q0 x.l.length c0)) ∧ (wc.cell? ⟨w1.heap.size + 1, 0, none⟩ = some (.int .i64 y.k) ∧ wc.cell? ⟨w1.heap.size + 1, 1, none⟩ = some (.int .i64 y.n) ∧ wc.cell? ⟨w1.heap.size + 1, 2, none⟩ = some (.string (bs y.s)) ∧ wc.cell? ⟨w1.heap.size + 1, 3, none⟩ = some (.slice q1 y.l.length c1)) ∧
      (wc.cell? ⟨w1.heap.size + 1 + 1, 0, none⟩ = some (.int .i64 z.k) ∧ wc.cell? ⟨w1.heap.size + 1 + 1, 1, none⟩ = some (.int .i64 z.n) ∧ wc.cell? ⟨w1.heap.size + 1 + 1, 2, none⟩ = some (.string (bs z.s)) ∧ wc.cell? ⟨w1.heap.size + 1 + 1, 3, none⟩ = some (.slice q2 z.l.length c2))) := Lib.hid fun wc h => ⟨box_at hX0.out h, box_at hX1.out h, box_at hX2.out h⟩
    have hT : Hid (0 < cmpU x y ∨ 0 < cmpU y z ∨ (cmpU x z ≤ 0 ∧ decide (cmpU x z < 0) = (decide (cmpU x y < 0) || decide (cmpU y z < 0)))) := Lib.hid (by
      by_cases h1 : 0 < cmpU x y
      · exact .inl h1
      by_cases h2 : 0 < cmpU y z
      · exact .inr (.inl h2)
      obtain ⟨h4, h5⟩ := HT.out (by omega) (by omega)
      refine .inr (.inr ⟨h4, ?_⟩)
      rw [Bool.eq_iff_iff]
      simp [h5])
    clear cA zA cB zB HA HBt HC HT hX0 hX1 hX2
    generalize cmpU x y = r1 at *
    generalize cmpU y z = r2 at *
    generalize cmpU x z = r3 at *
    generalize w1.heap.size = B at *
    refine (k1 _ hW).mono ?_
    rintro e w2 ⟨rfl, HB3⟩
    obtain ⟨⟨x0, x1, x2, x3⟩, ⟨y0, y1, y2, y3⟩, ⟨z0, z1, z2, z3⟩⟩ := hXY.out _ HB3
    go_wp2_with fail
    refine (k2 _ HB3).mono ?_
    rintro e w3 ⟨rfl, HB4⟩
    clear x0 x1 x2 x3 y0 y1 y2 y3 z0 z1 z2 z3
    obtain ⟨⟨x0, x1, x2, x3⟩, ⟨y0, y1, y2, y3⟩, ⟨z0, z1, z2, z3⟩⟩ := hXY.out _ HB4
    go_wp2_with fail
    refine (k3 _ HB4).mono ?_
    rintro e w4 ⟨rfl, HB5⟩
    clear x0 x1 x2 x3 y0 y1 y2 y3 z0 z1 z2 z3
    obtain ⟨⟨x0, x1, x2, x3⟩, ⟨y0, y1, y2, y3⟩, ⟨z0, z1, z2, z3⟩⟩ := hXY.out _ HB5
    go_wp2_with fail
    refine (k4 _ HB5).mono ?_
    rintro e w5 ⟨rfl, HB6⟩
    clear x0 x1 x2 x3 y0 y1 y2 y3 z0 z1 z2 z3 k1 k2 k3 k4
    have HBf := Lib.hid (HB2.out.trans (HB6.out.mono HB2.out.size))
    have e1 : (r1 != r1) = false := by simp
    by_cases h1 : 0 < r1
    · go_wp2
      go_ret
      exact ⟨by simp, HBf.out⟩
    by_cases h2 : 0 < r2
    · go_wp2
      go_ret
      exact ⟨by simp, HBf.out⟩
    obtain ⟨h4, h5⟩ : r3 ≤ 0 ∧ decide (r3 < 0) = (decide (r1 < 0) || decide (r2 < 0)) := by
      rcases hT.out with h | h | h
      · exact absurd h h1
      · exact absurd h h2
      · exact h
    by_cases h6 : r1 < 0
    · have h7 : r3 < 0 := by simpa [h6] using h5
      go_wp2
      go_ret
      exact ⟨by simp [h7], HBf.out⟩
    · by_cases h8 : r2 < 0
      · have h7 : r3 < 0 := by simpa [h8] using h5
        go_wp2
        go_ret
        exact ⟨by simp [h7], HBf.out⟩
      · have h7 : ¬ r3 < 0 := by simpa [h6, h8] using h5
        go_wp2
        go_ret
        exact ⟨by simp [h7], HBf.out⟩
end Go.Proofs.Ytjccohcigopdfaa.tm
end
