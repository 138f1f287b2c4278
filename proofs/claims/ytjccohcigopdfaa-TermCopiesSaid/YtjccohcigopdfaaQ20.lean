/- How the variables of terms that are read are numbered.; A term that was read, written by its names, and read back: the same numbers, the same names. Plain lists.; The names that are read are variables' words. Plain lists.; What the statements on writing ask of lists: names, atoms, lists. Plain lists.; What terms that are read are made of: kinds, numbers in 64 bits, names of tokens. Plain lists. -/
import Derived.Test.YtjccohcigopdfaaQ16
import Derived.Test.YtjccohcigopdfaaQ19
import Derived.Test.YtjccohcigopdfaaQ12
set_option linter.unusedVariables false
set_option linter.unusedSimpArgs false
section
/- How the variables of terms that are read are numbered. -/
namespace Go.Proofs.Ytjccohcigopdfaa.rd
open Go.Proofs.Ytjccohcigopdfaa.op (progI progP)
open Go.Proofs.Ytjccohcigopdfaa.ls (topT topL)

theorem topT_neg {n : Int} (h : n < 0) (t : T) : topT t n = n := by cases t <;> rw [topT, if_pos h]
theorem topL_neg {n : Int} (h : n < 0) (l : List T) : topL l n = n := by
  induction l with
  | nil => rw [topL]
  | cons t l ih => rw [topL, topT_neg h, ih]
theorem topT_cmp (s : List UInt8) (l : List T) (n : Int) : topT (.cmp s l) n = topL l n := by
  rw [topT]; split
  · rename_i h; rw [topL_neg h]
  · rfl
theorem topL_app (l m : List T) (n : Int) : topL (l ++ m) n = topL m (topL l n) := by
  induction l generalizing n with
  | nil => rw [List.nil_append, topL]
  | cons t l ih => rw [List.cons_append, topL, ih, topL]
theorem topL_one (t : T) (n : Int) : topL [t] n = topT t n := by rw [topL, topL]
theorem topL_two (t u : T) (n : Int) : topL [t, u] n = topT u (topT t n) := by rw [topL, topL_one]
theorem top_cons (l : List T) (r : T) (n : Int) : topT (consAll l r) n = topT r (topL l n) := by
  induction l generalizing n with
  | nil => rw [topL]; rfl
  | cons t l ih => show topT (.cmp [46] [t, consAll l r]) n = _; rw [topT_cmp, topL_two, ih, topL]
theorem top_leaf {k : Nat} (hk : k ≠ 1) (N : Int) (s : List UInt8) (n : Int) : topT (.leaf k N s) n = n := by rw [topT]; simp [hk]
/-- names but _ are of one place -/
def Uq (nm : List (List UInt8)) : Prop := ∀ i j, j < i → i < nm.length → nm.getD j [] = nm.getD i [] → nm.getD i [] = [95]
/-- from s to s1, f being what is read there -/
structure Nb (f : Int → Int) (s s1 : St) : Prop where
  top : f s.2.length = s1.2.length
  sum : s1.2.length + s1.1.length ≤ s.2.length + s.1.length
  up : s.2.length ≤ s1.2.length
  uq : Uq s.2 → Uq s1.2
abbrev Small (s : St) : Prop := s.2.length + s.1.length ≤ 100000
def Nq {α : Type} (g : α → Int → Int) (x : Res α) (s : St) : Prop := ∀ v s1, x = .ok (v, s1) → Small s → Nb (g v) s s1
abbrev Nw (w : W) : Prop := ∀ most s, Nq topT (w most s) s
theorem Nb.refl (s : St) : Nb id s s := ⟨rfl, Nat.le_refl _, Nat.le_refl _, id⟩
theorem Nb.comp {f g : Int → Int} {s s1 s2 : St} (h : Nb f s s1) (k : Nb g s1 s2) : Nb (fun n => g (f n)) s s2 :=
  ⟨by show g (f _) = _; rw [h.top, k.top], Nat.le_trans k.sum h.sum, Nat.le_trans h.up k.up, fun u => k.uq (h.uq u)⟩
theorem Nb.as {f g : Int → Int} {s s1 : St} (h : Nb f s s1) (e : ∀ n, f n = g n) : Nb g s s1 := ⟨by rw [← e]; exact h.top, h.sum, h.up, h.uq⟩
theorem Nb.small {f : Int → Int} {s s1 : St} (h : Nb f s s1) (hs : Small s) : Small s1 := Nat.le_trans h.sum hs
theorem tail_len' (l : List K) : l.tail.length ≤ l.length := by simp
theorem Nb.tail (s : St) : Nb id s (s.1.tail, s.2) := ⟨rfl, by have := tail_len' s.1; show s.2.length + s.1.tail.length ≤ _; omega, Nat.le_refl _, id⟩
theorem expect_nb {m : List UInt8} {s s1 : St} (h : expectP m s = .ok s1) : Nb id s s1 := by
  unfold expectP at h
  split at h
  · cases h; exact Nb.tail s
  · cases h
section
variable {w : W}
theorem loop_nb (hw : Nw w) (most : Int) : ∀ (f : Nat) (t : T) (q : Int) (s0 s s1 : St) (v : T), Small s0 → Nb (topT t) s0 s → loopP w most f t q s = .ok (v, s1) → Nb (topT v) s0 s1 := by
  intro f
  induction f with
  | zero => intro t q s0 s s1 v _ hn h; rw [loopP] at h; cases h; exact hn
  | succ f ih =>
    intro t q s0 s s1 v hs hn h
    rw [loopP] at h
    split at h
    · cases h; exact hn
    · cases hx : w (infixK (nx s.1)).2.2.1 (s.1.tail, s.2) with
      | error k => rw [hx] at h; cases h
      | ok us =>
        obtain ⟨u, s2⟩ := us
        rw [hx] at h
        have h2 := hn.comp (Nb.tail s)
        exact ih _ _ s0 s2 s1 v hs ((h2.comp (hw _ _ u s2 hx (h2.small hs))).as fun n => by rw [topT_cmp, topL_two]; rfl) h
theorem rowGo_nb (hw : Nw w) : ∀ (f : Nat) (l : List T) (s0 s s1 : St) (v : List T), Small s0 → Nb (topL l) s0 s → rowGo w f l s = .ok (v, s1) → Nb (topL v) s0 s1 := by
  intro f
  induction f with
  | zero => intro l s0 s s1 v _ hn h; rw [rowGo] at h; cases h; exact hn
  | succ f ih =>
    intro l s0 s s1 v hs hn h
    rw [rowGo] at h
    split at h
    · cases hx : w 999 (s.1.tail, s.2) with
      | error k => rw [hx] at h; cases h
      | ok us =>
        obtain ⟨u, s2⟩ := us
        rw [hx] at h
        have h2 := hn.comp (Nb.tail s)
        exact ih _ s0 s2 s1 v hs ((h2.comp (hw _ _ u s2 hx (h2.small hs))).as fun n => by rw [topL_app, topL_one]; rfl) h
    · cases h; exact hn
theorem row_nb (hw : Nw w) (s : St) : Nq topL (rowP w s) s := by
  intro v s1 h hs
  unfold rowP at h
  cases hx : w 999 s with
  | error k => rw [hx] at h; cases h
  | ok us =>
    obtain ⟨u, s2⟩ := us
    rw [hx] at h
    exact rowGo_nb hw _ _ s s2 s1 v hs ((hw _ _ u s2 hx hs).as fun n => by rw [topL_one]) h
theorem bracket_nb (hw : Nw w) (m : List UInt8) (s : St) : Nq topT (bracketP w m s) s := by
  intro v s1 h hs
  unfold bracketP at h
  cases hx : w 1200 s with
  | error k => rw [hx] at h; cases h
  | ok us =>
    obtain ⟨u, s2⟩ := us
    rw [hx] at h
    dsimp only at h
    cases he : expectP m s2 with
    | error k => rw [he] at h; cases h
    | ok s3 =>
      rw [he] at h
      cases h
      exact ((hw _ _ _ s2 hx hs).comp (expect_nb he)).as fun n => rfl
theorem atom_nb {s : St} (x : List UInt8) : Nb (topT (.leaf 3 0 x)) s (s.1.tail, s.2) := (Nb.tail s).as fun n => (top_leaf (by decide) 0 x n).symm
theorem list_nb (hw : Nw w) (s : St) : Nq topT (listP w s) s := by
  intro v s1 h hs
  unfold listP at h
  split at h
  · cases h; exact atom_nb _
  · cases hr : rowP w s with
    | error k => rw [hr] at h; cases h
    | ok ls =>
      obtain ⟨l, s2⟩ := ls
      rw [hr] at h
      dsimp only at h
      have h2 := row_nb hw s l s2 hr hs
      cases hr2 : (if isM (nx s2.1) [124] = true then w 999 (s2.1.tail, s2.2) else .ok (nilT, s2) : Res T) with
      | error k => rw [hr2] at h; cases h
      | ok rs =>
        obtain ⟨r, s3⟩ := rs
        rw [hr2] at h
        dsimp only at h
        have h3 : Nb (topT r) s2 s3 := by
          split at hr2
          · have := (Nb.tail s2).comp (hw _ _ r s3 hr2 ((Nb.tail s2).small (h2.small hs)))
            exact this.as fun n => rfl
          · cases hr2; exact (Nb.refl s2).as fun n => (top_leaf (by decide) 0 _ n).symm
        cases he : expectP [93] s3 with
        | error k => rw [he] at h; cases h
        | ok s4 =>
          rw [he] at h
          cases h
          exact ((h2.comp h3).comp (expect_nb he)).as fun n => by rw [top_cons]; rfl
theorem marked_nb (hw : Nw w) (s : St) : Nq topT (markedP w s) s := by
  intro v s1 h hs
  have ht := Nb.tail s
  unfold markedP at h
  split at h
  · exact (ht.comp (bracket_nb hw _ _ v s1 h (ht.small hs))).as fun n => rfl
  split at h
  · exact (ht.comp (list_nb hw _ v s1 h (ht.small hs))).as fun n => rfl
  split at h
  · split at h
    · cases h; exact (ht.comp (atom_nb (s := (s.1.tail, s.2)) _)).as fun n => rfl
    · cases hb : bracketP w [125] (s.1.tail, s.2) with
      | error k => rw [hb] at h; cases h
      | ok us =>
        obtain ⟨u, s2⟩ := us
        rw [hb] at h
        have := ht.comp (bracket_nb hw _ _ u s2 hb (ht.small hs))
        cases h
        exact this.as fun n => by rw [topT_cmp, topL_one]; rfl
  · cases h
theorem zero_nb {x : Res T} {s : St} (h : Nq topT x s) : Nq (fun v => topT v.1) (zeroP x) s := by
  intro v s1 hx hs
  unfold zeroP at hx
  cases x with
  | error k => cases hx
  | ok us => obtain ⟨u, s2⟩ := us; have := h u s2 rfl hs; cases hx; exact this
theorem int_nb (g : List UInt8) (s : St) : Nq topT (intP g s) s := by
  intro v s1 h hs
  unfold intP at h
  dsimp only at h
  split at h
  · cases h; exact (Nb.tail s).as fun n => (top_leaf (by decide) _ _ n).symm
  split at h
  · cases h; exact (Nb.tail s).as fun n => (top_leaf (by decide) _ _ n).symm
  · cases h
theorem named_nb (hw : Nw w) (most : Int) (s : St) : Nq (fun v => topT v.1) (namedP w most s) s := by
  intro v s1 h hs
  have ht := Nb.tail s
  have htt := Nb.tail (s.1.tail, s.2)
  unfold namedP at h
  dsimp only at h
  split at h
  · cases hr : rowP w (s.1.tail.tail, s.2) with
    | error k => rw [hr] at h; cases h
    | ok ls =>
      obtain ⟨l, s2⟩ := ls
      rw [hr] at h
      dsimp only at h
      have h2 := ht.comp (htt.comp (row_nb hw (s.1.tail.tail, s.2) l s2 hr (htt.small (ht.small hs))))
      cases he : expectP [41] s2 with
      | error k => rw [he] at h; cases h
      | ok s3 =>
        rw [he] at h
        cases h
        exact (h2.comp (expect_nb he)).as fun n => by show topL l n = topT (.cmp _ l) n; rw [topT_cmp]
  split at h
  · exact (ht.comp (zero_nb (int_nb [45] _) v s1 h (ht.small hs))).as fun n => rfl
  split at h
  · cases hr : w (progP (nx s.1).text).2.1 (s.1.tail, s.2) with
    | error k => rw [hr] at h; cases h
    | ok ls =>
      obtain ⟨l, s2⟩ := ls
      rw [hr] at h
      have := ht.comp (hw _ _ l s2 hr (ht.small hs))
      cases h
      exact this.as fun n => by show topT l n = topT (.cmp _ [l]) n; rw [topT_cmp, topL_one]
  · cases h; exact atom_nb _
theorem varP_nb (s : St) (hs : Small s) (hne : s.1 ≠ []) : Nb (topT (varP s).1) s (varP s).2 := by
  have l1 : s.1.tail.length + 1 = s.1.length := by cases hc : s.1 with | nil => exact absurd hc hne | cons => simp
  unfold varP
  dsimp only
  generalize hnm : (nx s.1).text = name
  split
  · rename_i hc
    refine ⟨?_, ?_, ?_, fun hu => ?_⟩
    · rw [topT]
      have hw : IntKind.i64.wrap ((s.2.length : Int) + 1) = (s.2.length : Int) + 1 := IntWalk.i64_in _ (by omega)
      rw [if_neg (by omega), if_pos rfl, if_neg (by omega), hw]
      simp; omega
    · simp; omega
    · simp
    · intro i j hji hi he
      rw [List.length_append, List.length_singleton] at hi
      have hj : (s.2 ++ [name]).getD j [] = s.2.getD j [] := by
        simp only [List.getD_eq_getElem?_getD]; rw [List.getElem?_append_left (by omega)]
      rw [hj] at he
      by_cases hil : i < s.2.length
      · have hi2 : (s.2 ++ [name]).getD i [] = s.2.getD i [] := by
          simp only [List.getD_eq_getElem?_getD]; rw [List.getElem?_append_left hil]
        rw [hi2] at he ⊢
        exact hu i j hji hil he
      · have hie : i = s.2.length := by omega
        subst hie
        have hi2 : (s.2 ++ [name]).getD s.2.length [] = name := by simp
        rw [hi2] at he ⊢
        rcases hc with hc | hc
        · exfalso
          have hm : name ∈ s.2 := by rw [← he]; rw [show s.2.getD j [] = s.2[j] by simp [hji]]; exact List.getElem_mem hji
          have := List.idxOf_lt_length_of_mem hm
          omega
        · exact hc
  · rename_i hc
    simp only [not_or] at hc
    have hle := List.idxOf_le_length (a := name) (l := s.2)
    refine ⟨?_, by show s.2.length + s.1.tail.length ≤ _; omega, Nat.le_refl _, id⟩
    rw [topT]
    have hw : IntKind.i64.wrap (((s.2.idxOf name : Nat) : Int) + 1) = ((s.2.idxOf name : Nat) : Int) + 1 := IntWalk.i64_in _ (by omega)
    rw [if_neg (by omega), if_pos rfl, if_neg (by omega), hw]
    have := hc.1
    show max _ _ = ((s.2.length : Nat) : Int)
    omega
theorem operand_nb (hw : Nw w) (most : Int) (s : St) : Nq (fun v => topT v.1) (operandP w most s) s := by
  intro v s1 h hs
  unfold operandP at h
  dsimp only at h
  split at h
  · exact named_nb hw most s v s1 h hs
  split at h
  · rename_i hk
    cases h
    exact varP_nb s hs fun e => by rw [e] at hk; exact absurd hk (by decide)
  split at h
  · exact zero_nb (int_nb [] s) v s1 h hs
  split at h
  · have ht := Nb.tail s
    exact (ht.comp (zero_nb (bracket_nb hw [41] _) v s1 h (ht.small hs))).as fun n => rfl
  · exact zero_nb (marked_nb hw s) v s1 h hs
end
theorem term_nb : ∀ d, Nw (termP d) := by
  intro d
  induction d with
  | zero => intro most s v s1 h; cases h
  | succ d ih =>
    intro most s v s1 h hs
    have e1 : termP (d + 1) most s = match operandP (termP d) most s with | .error e => .error e | .ok ((t, prio), s') => loopP (termP d) most s'.1.length t prio s' := rfl
    rw [e1] at h
    cases ho : operandP (termP d) most s with
    | error k => rw [ho] at h; cases h
    | ok us =>
      obtain ⟨⟨u, q⟩, s2⟩ := us
      rw [ho] at h
      exact loop_nb ih most _ u q s s2 s1 v hs (operand_nb ih most s _ s2 ho hs) h
/-- a sentence's variables -/
theorem sent_nb {l r : List K} {x : T × List (List UInt8)} (hl : l.length ≤ 100000) (h : sentP l = .ok (x, r)) : topT x.1 0 = x.2.length ∧ Uq x.2 ∧ x.2.length ≤ 100000 ∧ r.length ≤ l.length := by
  unfold sentP at h
  cases hx : termP 65 1200 (l, []) with
  | error k => rw [hx] at h; cases h
  | ok ts =>
    obtain ⟨t, s⟩ := ts
    rw [hx] at h
    dsimp only at h
    split at h
    · have hn := term_nb 65 1200 (l, []) t s hx (by show ([] : List (List UInt8)).length + l.length ≤ 100000; simpa using hl)
      have hsum := hn.sum
      simp at hsum
      cases h
      exact ⟨hn.top, hn.uq (fun i j _ hi => absurd hi (by simp)), by dsimp only; omega, by have := tail_len' s.1; omega⟩
    · cases h
theorem sents_nb : ∀ (f : Nat) (l : List K) (v : List (T × List (List UInt8))), l.length ≤ 100000 → sentsP f l = .ok v → ∀ x ∈ v, topT x.1 0 = x.2.length ∧ Uq x.2 ∧ x.2.length ≤ 100000 := by
  intro f
  induction f with
  | zero => intro l v _ h; rw [sentsP] at h; cases h; intro x hx; cases hx
  | succ f ih =>
    intro l v hl h
    rw [sentsP] at h
    split at h
    · cases h; intro x hx; cases hx
    · cases hs : sentP l with
      | error k => rw [hs] at h; cases h
      | ok xr =>
        obtain ⟨x, r⟩ := xr
        rw [hs] at h
        dsimp only at h
        obtain ⟨h1, h2, h3, h4⟩ := sent_nb hl hs
        cases hr : sentsP f r with
        | error k => rw [hr] at h; cases h
        | ok xs =>
          rw [hr] at h
          cases h
          intro y hy
          rcases List.mem_cons.1 hy with rfl | hy
          · exact ⟨h1, h2, h3⟩
          · exact ih r xs (by omega) hr y hy
end Go.Proofs.Ytjccohcigopdfaa.rd
end
section
/- A term that was read, written by its names, and read back: the same numbers, the same names. Plain lists. -/
namespace Go.Proofs.Ytjccohcigopdfaa.rd
open Go.Proofs.Ytjccohcigopdfaa.tx (text dec)
open Go.Proofs.Ytjccohcigopdfaa.nm (Fit)
open Go.Proofs.Ytjccohcigopdfaa.ls (topT topL)
open Go.Proofs.Ytjccohcigopdfaa.lx (varX gdT gdL VarOk cl joinB)

mutual
theorem vs_up {D E : Int → Prop} (h : ∀ a, D a → E a) : ∀ t, vsT D t → vsT E t
  | .leaf k n s, hv => by rw [vsT] at hv ⊢; exact fun hk => h _ (hv hk)
  | .cmp s l, hv => by rw [vsT] at hv ⊢; exact vs_upL h l hv
theorem vs_upL {D E : Int → Prop} (h : ∀ a, D a → E a) : ∀ l, vsL D l → vsL E l
  | [], _ => by rw [vsL]; trivial
  | t :: l, hv => by rw [vsL] at hv ⊢; exact ⟨vs_up h t hv.1, vs_upL h l hv.2⟩
end
mutual
theorem top_up : ∀ (t : T) (n : Int), 0 ≤ topT t n → n ≤ topT t n
  | .leaf k N s, n, h => by
    rw [topT] at h ⊢
    split
    · exact Int.le_refl _
    · rename_i hn
      rw [if_neg hn] at h
      split
      · rename_i hk
        rw [if_pos hk] at h
        split
        · rename_i hb; rw [if_pos hb] at h; omega
        · omega
      · exact Int.le_refl _
  | .cmp s l, n, h => by
    rw [topT] at h ⊢
    split
    · exact Int.le_refl _
    · rename_i hn
      rw [if_neg hn] at h
      exact top_upL l n h
theorem top_upL : ∀ (l : List T) (n : Int), 0 ≤ topL l n → n ≤ topL l n
  | [], n, _ => by rw [topL]; exact Int.le_refl _
  | t :: l, n, h => by
    rw [topL] at h ⊢
    have h2 := top_upL l _ h
    have h1 : 0 ≤ topT t n := by
      by_cases hn : topT t n < 0
      · rw [topL_neg hn] at h; omega
      · omega
    have := top_up t n h1
    omega
end
theorem topL_pos {t : T} {l : List T} {n : Int} (h : 0 ≤ topL l (topT t n)) : 0 ≤ topT t n := by
  by_cases hn : topT t n < 0
  · rw [topL_neg hn] at h; omega
  · omega
/-- names that tell variables apart -/
structure Nms (nm : List (List UInt8)) : Prop where
  sm : nm.length ≤ 100000
  ne : ∀ i, i < nm.length → nm.getD i [] ≠ [] ∧ nm.getD i [] ≠ [95]
  inj : ∀ i j, i < nm.length → j < nm.length → nm.getD i [] = nm.getD j [] → i = j
theorem Nms.x {nm : List (List UInt8)} (h : Nms nm) {a : Int} (h0 : 0 ≤ a) (h1 : a < nm.length) : varX nm a = nm.getD a.toNat [] := by
  have := h.ne a.toNat (by omega)
  unfold varX
  rw [if_pos ⟨by omega, this.1, this.2⟩]
theorem Nms.injX {nm : List (List UInt8)} (h : Nms nm) (a b : Int) (ha : 0 ≤ a ∧ a < nm.length) (hb : 0 ≤ b ∧ b < nm.length) (he : varX nm a = varX nm b) : a = b := by
  rw [h.x ha.1 ha.2, h.x hb.1 hb.2] at he
  have := h.inj _ _ (by omega) (by omega) he
  omega
theorem idx_at {nm : List (List UInt8)} {x : List UInt8} {j : Nat} (hj : j < nm.length) (h : nm[j] = x) (hn : ∀ m, (hm : m < j) → nm[m]'(by omega) ≠ x) : nm.idxOf x = j := by
  rw [List.idxOf, List.findIdx_eq hj]
  exact ⟨by simp [h], fun m hm => by simpa using hn m hm⟩
theorem idx_no {nm : List (List UInt8)} {x : List UInt8} (hn : ∀ m, (hm : m < nm.length) → nm[m] ≠ x) : nm.idxOf x = nm.length := by
  apply List.idxOf_eq_length
  intro h
  obtain ⟨m, hm, e⟩ := List.mem_iff_getElem.1 h
  exact hn m hm e
theorem Nms.tk {nm : List (List UInt8)} (h : Nms nm) {i m n : Nat} (hi : i < (nm.take n).length) (hm : m < nm.length) (hne : i ≠ m) : (nm.take n)[i] ≠ nm.getD m [] := fun e => by
  have hl : i < nm.length := by rw [List.length_take] at hi; omega
  rw [List.getElem_take, ← getD_at _ _ [] hl] at e
  exact hne (h.inj _ _ hl hm e)
theorem Nms.idx {nm : List (List UInt8)} (h : Nms nm) {m n : Nat} (hm : m ≤ n) (hml : m < nm.length) : (nm.take n).idxOf (nm.getD m []) = m := by
  by_cases hmn : m < n
  · have hl : m < (nm.take n).length := by rw [List.length_take]; omega
    exact idx_at hl (by rw [List.getElem_take, getD_at _ _ _ hml]) (fun i hi => h.tk _ hml (by omega))
  · have : (nm.take n).length = m := by rw [List.length_take]; omega
    rw [idx_no (fun i hi => h.tk hi hml (by omega)), this]
mutual
theorem nmT {nm : List (List UInt8)} (h : Nms nm) : ∀ (t : T) (n : Nat), 0 ≤ topT t n → topT t n ≤ nm.length →
    vsT (fun a => 0 ≤ a ∧ a < topT t n) t ∧ (rnT nm t (nm.take n)).2 = nm.take (topT t n).toNat
  | .leaf k N s, n, h0, h1 => by
    have hn : ¬ ((n : Nat) : Int) < 0 := by omega
    have hsm := h.sm
    rw [topT, if_neg hn] at h0 h1 ⊢
    rw [vsT, rnT]
    by_cases hk : k = 1
    · rw [if_pos hk] at h0 h1 ⊢
      rw [if_pos hk]
      by_cases hb : N < 0 ∨ N > n
      · rw [if_pos hb] at h0; omega
      rw [if_neg hb] at h0 h1 ⊢
      have hnl : (n : Int) ≤ nm.length := by omega
      have hw : IntKind.i64.wrap (N + 1) = N + 1 := IntWalk.i64_in _ (by omega)
      rw [hw] at h0 h1 ⊢
      refine ⟨fun _ => by omega, ?_⟩
      have hx := h.x (a := N) (by omega) (by omega)
      have hi := h.idx (m := N.toNat) (n := n) (by omega) (by omega)
      rw [hx, hi]
      have hl : (nm.take n).length = n := by rw [List.length_take]; omega
      rw [hl]
      by_cases hN : N.toNat = n
      · rw [if_pos hN]
        have e : (max (n : Int) (N + 1)).toNat = n + 1 := by omega
        rw [e, hN, getD_at _ _ _ (by omega), List.take_append_getElem]
      · rw [if_neg hN]
        have e : (max (n : Int) (N + 1)).toNat = n := by omega
        rw [e]
    · rw [if_neg hk] at h0 h1 ⊢
      rw [if_neg hk]
      refine ⟨fun h => absurd h hk, ?_⟩
      split <;> simp
  | .cmp s l, n, h0, h1 => by
    have hn : ¬ ((n : Nat) : Int) < 0 := by omega
    rw [topT, if_neg hn] at h0 h1 ⊢
    rw [vsT, rnT]
    exact nmL h l n h0 h1
theorem nmL {nm : List (List UInt8)} (h : Nms nm) : ∀ (l : List T) (n : Nat), 0 ≤ topL l n → topL l n ≤ nm.length →
    vsL (fun a => 0 ≤ a ∧ a < topL l n) l ∧ (rnL nm l (nm.take n)).2 = nm.take (topL l n).toNat
  | [], n, h0, h1 => by rw [vsL, rnL, topL]; exact ⟨trivial, by simp⟩
  | t :: l, n, h0, h1 => by
    rw [topL] at h0 h1 ⊢
    have p1 := topL_pos h0
    have p2 := top_upL l _ h0
    obtain ⟨a1, a2⟩ := nmT h t n p1 (by omega)
    obtain ⟨m, hm⟩ : ∃ m : Nat, topT t n = m := ⟨(topT t n).toNat, by omega⟩
    rw [hm] at h0 h1 p2 a1 a2 ⊢
    obtain ⟨b1, b2⟩ := nmL h l m h0 h1
    rw [vsL, rnL]
    refine ⟨⟨vs_up (fun a ha => ⟨ha.1, by omega⟩) t a1, b1⟩, ?_⟩
    rw [a2]
    exact b2
end
/-- no two of them alike: read back, it is itself -/
theorem back_names {nm : List (List UInt8)} (h : Nms nm) {t : T} (ht : topT t 0 = nm.length) (hg : gdT nm t) :
    (rnT nm t []).2 = nm ∧ ∃ p, alT t (rnT nm t []).1 [] = (p, true) ∧ ∀ x ∈ p, x.1 = x.2 := by
  obtain ⟨a1, a2⟩ := nmT h t 0 (by show 0 ≤ topT t 0; omega) (by show topT t 0 ≤ _; omega)
  change vsT (fun a => 0 ≤ a ∧ a < topT t 0) t at a1
  change (rnT nm t (nm.take 0)).2 = nm.take (topT t 0).toNat at a2
  rw [ht] at a1 a2
  rw [List.take_zero, show ((nm.length : Nat) : Int).toNat = nm.length from by omega, List.take_length] at a2
  refine ⟨a2, ?_⟩
  obtain ⟨p, h1, h2⟩ := alk (D := fun a => 0 ≤ a ∧ a < nm.length) (fun a b ha hb he => h.injX a b ha hb he) t hg a1 [] [] (pr_nil _ _)
  refine ⟨p, h1, fun x hx => ?_⟩
  obtain ⟨j, hj, rfl⟩ := List.getElem_of_mem hx
  obtain ⟨b1, b2, b3⟩ := h2.at_ j hj
  have hl := h2.len
  rw [a2] at hl b3
  have := h.x b2.1 b2.2
  rw [this] at b3
  have := h.inj _ _ (by omega) (by omega) b3
  rw [b1]; omega
theorem text_inj {a b : Int} (ha : Fit a) (hb : Fit b) (h : text a = text b) : a = b := by
  have h1 := (tx.parse_yes ha rfl).1
  have h2 := (tx.parse_yes hb rfl).1
  rw [← h1, ← h2, h]
/-- with no names: alike -/
theorem back_alike {t : T} (hg : gdT [] t) (hv : vsT Fit t) : ∃ p, alT t (rnT [] t []).1 [] = (p, true) := by
  obtain ⟨p, h1, _⟩ := alk (D := Fit) (fun a b ha hb he => by
    rw [varX_nil, varX_nil] at he
    injection he with _ he
    exact text_inj ha hb he) t hg hv [] [] (pr_nil _ _)
  exact ⟨p, h1⟩
theorem var_ok {n : Int} (h : 0 ≤ n) : VarOk (varX [] n) := by
  rw [varX_nil]
  refine ⟨95, text n, rfl, by decide, fun b hb => ?_⟩
  rw [tx.text_pos (by omega)] at hb
  have := tx.digs_dec n.natAbs b hb
  rw [lx.cl_dig this]; decide
end Go.Proofs.Ytjccohcigopdfaa.rd
end
section
/- The names that are read are variables' words. Plain lists. -/
namespace Go.Proofs.Ytjccohcigopdfaa.lx

def KV (t : Tok) : Prop := t.kind = 2 → VarOk t.text
def MV : Mode → Prop
  | .word c _ acc => c = 3 → VarOk acc
  | _ => True
theorem kv_snoc {ts : List Tok} {t : Tok} (h : ∀ x ∈ ts, KV x) (ht : KV t) : ∀ x ∈ ts ++ [t], KV x := fun x hx => by
  rcases List.mem_append.1 hx with h1 | h1
  · exact h x h1
  · rw [List.mem_singleton] at h1; subst h1; exact ht
theorem kv_no {k : Nat} {x : List UInt8} {f n : Nat} (h : k ≠ 2) : KV ⟨k, x, f, n⟩ := fun e => absurd e h
theorem kind_kv {c : Nat} {acc : List UInt8} (f n : Nat) (h : c = 3 → VarOk acc) : KV ⟨kindOf c, acc, f, n⟩ := fun e => by
  have e : kindOf c = 2 := e
  refine h ?_
  unfold kindOf at e
  split at e
  · assumption
  · split at e <;> exact absurd e (by decide)
theorem opening_kv {ts ts' : List Tok} {n : Nat} {b : UInt8} {m' : Mode} (h : opening ts n b = .go ts' m') (hg : ∀ x ∈ ts, KV x) : (∀ x ∈ ts', KV x) ∧ MV m' := by
  unfold opening at h
  split at h
  · cases h; exact ⟨hg, trivial⟩
  split at h
  · cases h; exact ⟨kv_snoc hg (kv_no (by decide)), trivial⟩
  split at h
  · cases h; exact ⟨kv_snoc hg (kv_no (by split <;> decide)), trivial⟩
  split at h
  · cases h; exact ⟨hg, trivial⟩
  · cases h; exact ⟨hg, fun h3 => ⟨b, [], rfl, h3, fun _ h => nomatch h⟩⟩
theorem start_kv {M : Nat} {ts ts' : List Tok} {n : Nat} {b : UInt8} {m' : Mode} (h : start M ts n b = .go ts' m') (hg : ∀ x ∈ ts, KV x) : (∀ x ∈ ts', KV x) ∧ MV m' := by
  unfold start at h
  split at h
  · cases h; exact ⟨hg, trivial⟩
  split at h
  · cases h; exact ⟨hg, trivial⟩
  split at h
  · cases h; exact ⟨hg, trivial⟩
  split at h
  · cases h
  split at h
  · cases h
  · exact opening_kv h hg
theorem step_kv {M : Nat} {ts ts' : List Tok} {n : Nat} {b : UInt8} {m m' : Mode} (h : step M ts n b m = .go ts' m') (hg : ∀ x ∈ ts, KV x) (hm : MV m) : (∀ x ∈ ts', KV x) ∧ MV m' := by
  cases m with
  | btw => exact start_kv h hg
  | line => simp only [step] at h; split at h <;> cases h <;> exact ⟨hg, trivial⟩
  | slash f =>
    simp only [step] at h
    split at h
    · cases h; exact ⟨hg, trivial⟩
    split at h
    · cases h
    split at h
    · cases h; exact ⟨hg, fun e => absurd e (by decide)⟩
    · exact start_kv h (kv_snoc hg (kv_no (by decide)))
  | dot f =>
    simp only [step] at h
    split at h
    · cases h; exact ⟨hg, fun e => absurd e (by decide)⟩
    · refine start_kv h (kv_snoc hg (kv_no ?_))
      split <;> decide
  | rem f => simp only [step] at h; split at h <;> cases h <;> exact ⟨hg, trivial⟩
  | star f => simp only [step] at h; (repeat' split at h) <;> cases h <;> exact ⟨hg, trivial⟩
  | word c f acc =>
    simp only [step] at h
    split at h
    · rename_i hj
      cases h
      refine ⟨hg, fun e => ?_⟩
      obtain ⟨a, l, rfl, h1, h2⟩ := hm e
      subst e
      refine ⟨a, l ++ [b], rfl, h1, fun x hx => ?_⟩
      rcases List.mem_append.1 hx with hx | hx
      · exact h2 x hx
      · rw [List.mem_singleton] at hx; subst hx; exact hj
    · exact start_kv h (kv_snoc hg (kind_kv _ _ hm))
  | quo f acc => simp only [step] at h; (repeat' split at h) <;> cases h <;> exact ⟨hg, trivial⟩
  | quoq f acc =>
    simp only [step] at h
    split at h
    · cases h; exact ⟨hg, trivial⟩
    · exact start_kv h (kv_snoc hg (kv_no (by decide)))
  | esc f acc => simp only [step] at h; (repeat' split at h) <;> cases h <;> exact ⟨hg, trivial⟩
theorem ans_kv {M : Nat} {out : List Tok} : ∀ (l : List UInt8) (ts : List Tok) (n : Nat) (m : Mode), (∀ x ∈ ts, KV x) → MV m → ans M l ts n m = .ok out → ∀ x ∈ out, KV x := by
  intro l
  induction l with
  | nil =>
    intro ts n m hg hm h
    cases m <;> simp only [ans_nil, fin] at h
    case slash f =>
      split at h <;> cases h
      exact kv_snoc hg (kv_no (by decide))
    case dot f => cases h; exact kv_snoc hg (kv_no (by decide))
    case word c f acc => cases h; exact kv_snoc hg (kind_kv _ _ hm)
    case quoq f acc => cases h; exact kv_snoc hg (kv_no (by decide))
    all_goals first | (cases h; done) | (cases h; exact hg)
  | cons b l ih =>
    intro ts n m hg hm h
    rw [ans_cons] at h
    cases hs : step M ts n b m with
    | go ts' m' => rw [hs] at h; obtain ⟨h1, h2⟩ := step_kv hs hg hm; exact ih _ _ _ h1 h2 h
    | bad p e => rw [hs] at h; cases h
theorem var_toks {l : List UInt8} {ts : List Tok} (h : toksD l = .ok ts) : ∀ x ∈ ts, x.kind = 2 → VarOk x.text := by
  unfold toksD at h
  split at h
  · cases h
  · exact ans_kv l [] 0 .btw (by simp) trivial h
end Go.Proofs.Ytjccohcigopdfaa.lx
namespace Go.Proofs.Ytjccohcigopdfaa.rd
open Go.Proofs.Ytjccohcigopdfaa.lx (Tok toksD VarOk var_toks)

/-- what is read of words that are variables -/
def Rv (s s' : St) : Prop := s = s' ∧ (∀ k ∈ s.1, k.kind = 2 → VarOk k.text) ∧ ∀ x ∈ s.2, VarOk x
theorem sim_rv : Sim Rv where
  nm := fun h => by rw [h.1]
  put := by
    rintro s s' ⟨rfl, h1, h2⟩ hk ⟨_, h3, _⟩
    refine ⟨rfl, h3, fun x hx => ?_⟩
    rcases List.mem_append.1 hx with hx | hx
    · exact h2 x hx
    · rw [List.mem_singleton] at hx
      rw [hx]
      have key : ∀ l : List K, (∀ k ∈ l, k.kind = 2 → VarOk k.text) → (nx l).kind = 2 → VarOk (nx l).text := fun l h hk => by
        cases l with
        | nil => exact absurd hk (by decide)
        | cons k l => exact h k (by simp) hk
      exact key s.1 h1 hk
  hd := by
    rintro s s' ⟨rfl, h1, h2⟩
    exact .inl ⟨rfl, rfl, fun k hk => h1 k (List.mem_of_mem_tail hk), h2⟩
theorem term_vars {d : Nat} {most : Int} {l : List K} {t : T} {s1 : St} (h : termP d most (l, []) = .ok (t, s1)) (hl : ∀ k ∈ l, k.kind = 2 → VarOk k.text) : ∀ x ∈ s1.2, VarOk x := by
  obtain ⟨s2, _, ⟨_, _, h3⟩, _⟩ := term_sim sim_rv d d (Nat.le_refl _) most (l, []) (l, []) ⟨rfl, hl, fun _ h => nomatch h⟩ t s1 h
  exact h3
theorem ab_mem (ts : List Tok) {k : K} (h : k ∈ ab ts) : ∃ t ∈ ts, t.kind = k.kind ∧ t.text = k.text := by
  have h1 : kt k ∈ (ab ts).map kt := List.mem_map_of_mem h
  rw [ab_kt] at h1
  obtain ⟨t, ht, e⟩ := List.mem_map.1 h1
  injection e with e1 e2
  exact ⟨t, ht, e1, e2⟩
/-- a sentence's names are variables' words -/
theorem one_vars {l : List UInt8} {x : Sn} (h : oneP l = .ok x) : ∀ y ∈ x.2, VarOk y := by
  obtain ⟨ts, ht, hs⟩ := oneP_ok h
  unfold sentP at hs
  cases hx : termP 65 1200 (ab ts, []) with
  | error k => rw [hx] at hs; cases hs
  | ok v =>
    obtain ⟨t, s⟩ := v
    rw [hx] at hs
    dsimp only at hs
    split at hs
    · have e := (Prod.mk.inj (Except.ok.inj hs)).1
      rw [← e]
      exact term_vars hx (fun k hk h2 => by
        obtain ⟨a, ha, e1, e2⟩ := ab_mem ts hk
        rw [← e2]; exact var_toks ht a ha (by rw [e1]; exact h2))
    · cases hs
end Go.Proofs.Ytjccohcigopdfaa.rd
end
section
/- What the statements on writing ask of lists: names, atoms, lists. Plain lists. -/
namespace Go.Proofs.Ytjccohcigopdfaa.rd
open Go.Proofs.Ytjccohcigopdfaa.tx (text dec)
open Go.Proofs.Ytjccohcigopdfaa.nm (Fit)
open Go.Proofs.Ytjccohcigopdfaa.ls (topT topL)
open Go.Proofs.Ytjccohcigopdfaa.lx (toksD varX gdT gdL VarOk txT txL txM txP txQ txR psT psL psM psP psQ psR leafX leafP atomX quoteS quote_len outToks)

/-- the names of a sentence, none of them '_', tell its variables apart -/
theorem one_names {s : List UInt8} {x : Sn} (h : oneP s = .ok x) (hn : ∀ y ∈ x.2, y ≠ [95]) : Nms x.2 ∧ topT x.1 0 = x.2.length := by
  have hv := one_vars h
  obtain ⟨ts, ht, hs⟩ := oneP_ok h
  have hg := lx.good_toks (endP s)
  rw [ht] at hg
  have hl : ts.length ≤ 1000 := hg.len
  obtain ⟨h1, h2, h3, _⟩ := sent_nb (by rw [ab_len]; omega) hs
  have hm : ∀ i, i < x.2.length → x.2.getD i [] ∈ x.2 := fun i hi => by rw [getD_at _ _ _ hi]; exact List.getElem_mem _
  refine ⟨⟨h3, fun i hi => ⟨fun e => ?_, hn _ (hm i hi)⟩, fun i j hi hj e => ?_⟩, h1⟩
  · obtain ⟨c, l, hc, _⟩ := hv _ (hm i hi)
    rw [e] at hc; cases hc
  · rcases Nat.lt_trichotomy i j with hij | hij | hij
    · exact absurd (h2 j i hij hj e) (hn _ (hm j hj))
    · exact hij
    · exact absurd (h2 i j hij hi e.symm) (hn _ (hm i hi))
/-- P6.1, P6.3: an atom, and a term of its name -/
theorem atoms_back {name : List UInt8} (hq : quoteS name ≠ []) (hl : name.length ≤ 512) {n : Int} (hn : Fit n) :
    oneP (txT [] (.cmp name [.leaf 2 n [], .leaf 3 0 name])) = .ok (rnT [] (.cmp name [.leaf 2 n [], .leaf 3 0 name]) []) ∧
    ∃ p, alT (.cmp name [.leaf 2 n [], .leaf 3 0 name]) (rnT [] (.cmp name [.leaf 2 n [], .leaf 3 0 name]) []).1 [] = (p, true) := by
  have hg : gdT [] (.cmp name [.leaf 2 n [], .leaf 3 0 name]) := by
    simp only [gdT, gdL]
    exact ⟨hq, by simp, .inr (.inl trivial), .inr (.inr ⟨trivial, .inr (.inr hq)⟩), trivial⟩
  have hf : ftT (.cmp name [.leaf 2 n [], .leaf 3 0 name]) := by
    simp only [ftT, ftL]
    exact ⟨fun _ => hn, fun h => absurd h (by decide), trivial⟩
  have hv : vsT Fit (.cmp name [.leaf 2 n [], .leaf 3 0 name]) := by
    simp only [vsT, vsL]
    exact ⟨fun h => absurd h (by decide), fun h => absurd h (by decide), trivial⟩
  refine ⟨?_, back_alike hg hv⟩
  have hql := quote_len name
  have htl := (tx.text_len hn).1
  rcases backP hg hf with h | ⟨e, _, h⟩
  · exact h
  · exfalso
    have hx : (leafX [] 3 0 name).length ≤ 2 * name.length + 2 := by
      unfold leafX
      rw [if_neg (by decide), if_neg (by decide)]
      split <;> omega
    have hps : (leafP [] 3 0 name).length ≤ 2 := by
      unfold leafP atomX
      rw [if_neg (by decide), if_neg (by decide)]
      repeat' split
      all_goals simp
    have hpi : (leafP [] 2 n []).length ≤ 2 := by
      unfold leafP
      rw [if_neg (by decide), if_pos rfl]
      split <;> simp
    have hxi : leafX [] 2 n [] = text n := by unfold leafX; rw [if_neg (by decide), if_pos rfl]
    rcases h with ⟨_, h⟩ | ⟨_, h⟩ | ⟨_, h⟩
    · rw [dpT] at h
      split at h
      · simp only [dpP, dpT, dpQ, dpR] at h
        split at h <;> omega
      · simp only [dpL, dpT] at h; omega
    · rw [txT] at h
      split at h
      · simp only [txP, txT, txQ, txR, hxi] at h
        split at h <;> simp only [List.length_cons, List.length_append, List.length_nil] at h <;> omega
      · simp only [txL, txT, txM, hxi, List.length_cons, List.length_append, List.length_nil] at h
        omega
    · rw [psT] at h
      split at h
      · simp only [psP, psT, psQ, psR] at h
        split at h <;> simp only [List.length_cons, List.length_append, List.length_nil] at h <;> omega
      · simp only [psL, psT, psM, List.length_cons, List.length_append, List.length_nil] at h
        omega
/-- a list of integers and its rest -/
def numsT (l : List Int) (r : T) : T := l.foldr (fun n r => .cmp [46] [.leaf 2 n [], r]) r
/-- what a list may end with -/
def EndT (r : T) : Prop := r = nilT ∨ r = .leaf 1 7 []
theorem q46 : quoteS [46] ≠ [] := by decide +kernel
theorem nums_ok {r : T} (hr : EndT r) : ∀ (l : List Int), (∀ n ∈ l, Fit n) → gdT [] (numsT l r) ∧ ftT (numsT l r) ∧ vsT Fit (numsT l r)
  | [], _ => by
    show gdT [] r ∧ ftT r ∧ vsT Fit r
    rcases hr with rfl | rfl
    · unfold nilT; rw [gdT, ftT, vsT]; exact ⟨.inr (.inr ⟨rfl, .inl rfl⟩), fun h => absurd h (by decide), fun h => absurd h (by decide)⟩
    · rw [gdT, ftT, vsT]; exact ⟨.inl ⟨rfl, var_ok (by decide)⟩, fun h => absurd h (by decide), fun _ => ⟨by decide, by decide⟩⟩
  | n :: l, h => by
    obtain ⟨h1, h2, h3⟩ := nums_ok hr l (fun x hx => h x (by simp [hx]))
    show gdT [] (.cmp [46] [.leaf 2 n [], numsT l r]) ∧ ftT (.cmp [46] [.leaf 2 n [], numsT l r]) ∧ vsT Fit (.cmp [46] [.leaf 2 n [], numsT l r])
    simp only [gdT, gdL, ftT, ftL, vsT, vsL]
    exact ⟨⟨q46, by simp, .inr (.inl trivial), h1, trivial⟩, ⟨fun _ => h n (by simp), h2, trivial⟩, ⟨fun h => absurd h (by decide), h3, trivial⟩⟩
theorem leaf2_len (n : Int) : (leafP [] 2 n []).length ≤ 2 := by
  unfold leafP
  rw [if_neg (by decide), if_pos rfl]
  split <;> simp
theorem pair46 (a b : T) : ([46] : List UInt8) = [46] ∧ [a, b].length = 2 := ⟨rfl, rfl⟩
/-- behind a list's first element -/
theorem nums_rest {r : T} (hr : EndT r) : ∀ (l : List Int), (psR [] (numsT l r)).length ≤ 3 * l.length + 3 ∧ dpR (numsT l r) ≤ 1 ∧ ∃ q, txR [] (numsT l r) = q ++ [93]
  | [] => by
    show (psR [] r).length ≤ 3 ∧ dpR r ≤ 1 ∧ ∃ q, txR [] r = q ++ [93]
    rcases hr with rfl | rfl
    · unfold nilT; rw [psR, dpR, txR, if_pos ⟨rfl, rfl⟩, if_pos ⟨rfl, rfl⟩, if_pos ⟨rfl, rfl⟩]; exact ⟨by simp, by omega, [], rfl⟩
    · rw [psR, dpR, txR, if_neg (by decide), if_neg (by decide), if_neg (by decide)]; exact ⟨by unfold leafP; simp, by omega, 124 :: leafX [] 1 7 [], by simp⟩
  | n :: l => by
    obtain ⟨h1, h2, q, h3⟩ := nums_rest hr l
    show (psR [] (.cmp [46] [.leaf 2 n [], numsT l r])).length ≤ _ ∧ dpR (.cmp [46] [.leaf 2 n [], numsT l r]) ≤ 1 ∧ ∃ q, txR [] (.cmp [46] [.leaf 2 n [], numsT l r]) = q ++ [93]
    have hl := leaf2_len n
    rw [psR, dpR, txR, if_pos (pair46 _ _), if_pos (pair46 _ _), if_pos (pair46 _ _)]
    simp only [psP, psQ, psT, dpP, dpQ, dpT, txP, txQ, txT]
    refine ⟨by simp only [List.length_cons, List.length_append]; omega, by omega, 44 :: (leafX [] 2 n [] ++ q), by rw [h3]; simp⟩
/-- P6.2, P6.3: a list is written, and read back, or it is too long -/
theorem lists_back {r : T} {l : List Int} (hr : EndT r) (hl : l.length ≤ 200) (hi : ∀ n ∈ l, Fit n) (h0 : l = [] → r = nilT) :
    (∃ q, txT [] (numsT l r) = 91 :: (q ++ [93])) ∧
    (oneP (txT [] (numsT l r)) = .ok (rnT [] (numsT l r) []) ∨ oneP (txT [] (numsT l r)) = .error 33) ∧
    ∃ p, alT (numsT l r) (rnT [] (numsT l r) []).1 [] = (p, true) := by
  obtain ⟨hg, hf, hv⟩ := nums_ok hr l hi
  have key : (∃ q, txT [] (numsT l r) = 91 :: (q ++ [93])) ∧ dpT (numsT l r) ≤ 2 ∧ (psT [] (numsT l r)).length ≤ 3 * l.length + 3 := by
    cases l with
    | nil =>
      rw [h0 rfl]
      show (∃ q, txT [] nilT = _) ∧ dpT nilT ≤ 2 ∧ (psT [] nilT).length ≤ _
      unfold nilT
      rw [txT, dpT, psT]
      exact ⟨⟨[], rfl⟩, by omega, by unfold leafP atomX; simp⟩
    | cons n l =>
      obtain ⟨h1, h2, q, h3⟩ := nums_rest hr l
      have hln := leaf2_len n
      show (∃ q, txT [] (.cmp [46] [.leaf 2 n [], numsT l r]) = _) ∧ dpT (.cmp [46] [.leaf 2 n [], numsT l r]) ≤ 2 ∧ (psT [] (.cmp [46] [.leaf 2 n [], numsT l r])).length ≤ _
      rw [txT, dpT, psT, if_pos (pair46 _ _), if_pos (pair46 _ _), if_pos (pair46 _ _)]
      simp only [psP, psQ, psT, dpP, dpQ, dpT, txP, txQ, txT]
      refine ⟨⟨leafX [] 2 n [] ++ q, by rw [h3]; simp⟩, by omega, by simp only [List.length_cons, List.length_append]; omega⟩
  obtain ⟨k1, k2, k3⟩ := key
  refine ⟨k1, ?_, back_alike hg hv⟩
  rcases backP hg hf with h | ⟨e, h, hw⟩
  · exact .inl h
  · rcases hw with ⟨_, hw⟩ | ⟨rfl, _⟩ | ⟨_, hw⟩
    · omega
    · exact .inr h
    · omega
end Go.Proofs.Ytjccohcigopdfaa.rd
end
section
/- What terms that are read are made of: kinds, numbers in 64 bits, names of tokens. Plain lists. -/
namespace Go.Proofs.Ytjccohcigopdfaa.rd
open Go.Proofs.Ytjccohcigopdfaa.nm (Fit)
open Go.Proofs.Ytjccohcigopdfaa.op (progI progP)
open Go.Proofs.Ytjccohcigopdfaa.tx (parseV parseE)

mutual
/-- made of names of P -/
def gtT (P : List UInt8 → Prop) : T → Prop
  | .leaf k n s => (k = 1 ∨ k = 2 ∨ k = 3) ∧ (k ≠ 1 → Fit n) ∧ (k = 3 → P s) ∧ (k ≠ 3 → s = [])
  | .cmp s l => P s ∧ gtL P l
def gtL (P : List UInt8 → Prop) : List T → Prop
  | [] => True
  | t :: l => gtT P t ∧ gtL P l
end
theorem parse_fit (s : List UInt8) : Fit (parseV s) := by
  unfold tx.parseV
  split
  · rename_i h; exact (Classical.choose_spec h).1
  · unfold Fit; omega
/-- the names that a reader puts in by itself -/
structure Kn (P : List UInt8 → Prop) : Prop where
  nil : P [91, 93]
  cur : P [123, 125]
  dot : P [46]
  com : P [44]
def Sg (P : List UInt8 → Prop) (s : St) : Prop := ∀ k ∈ s.1, k.kind = 1 → P k.text
def Gk {α : Type} (P : List UInt8 → Prop) (Q : α → Prop) (x : Res α) : Prop := ∀ v s1, x = .ok (v, s1) → Q v ∧ Sg P s1
def Gw (P : List UInt8 → Prop) (w : W) : Prop := ∀ most s, Sg P s → Gk P (gtT P) (w most s)
section
variable {P : List UInt8 → Prop} {w : W}
theorem Sg.tail {s : St} (h : Sg P s) : Sg P (s.1.tail, s.2) := fun k hk => h k (List.mem_of_mem_tail hk)
theorem Sg.nm {l : List K} {n m : List (List UInt8)} (h : Sg P (l, n)) : Sg P (l, m) := h
theorem Sg.hd {s : St} (h : Sg P s) (hk : (nx s.1).kind = 1) : P (nx s.1).text := by
  have key : ∀ l : List K, (∀ k ∈ l, k.kind = 1 → P k.text) → (nx l).kind = 1 → P (nx l).text := fun l h hk => by
    cases l with
    | nil => exact absurd hk (by decide)
    | cons k l => exact h k (by simp) hk
  exact key s.1 h hk
theorem gtL_app {l m : List T} (h : gtL P l) (k : gtL P m) : gtL P (l ++ m) := by
  induction l with
  | nil => exact k
  | cons t l ih => rw [gtL] at h; rw [List.cons_append, gtL]; exact ⟨h.1, ih h.2⟩
theorem gtL_one {t : T} (h : gtT P t) : gtL P [t] := by rw [gtL, gtL]; exact ⟨h, trivial⟩
theorem gtL_two {t u : T} (h : gtT P t) (k : gtT P u) : gtL P [t, u] := by rw [gtL]; exact ⟨h, gtL_one k⟩
theorem fitz : Fit 0 := by unfold Fit; omega
theorem gt_atom {s : List UInt8} (h : P s) : gtT P (.leaf 3 0 s) := by rw [gtT]; exact ⟨.inr (.inr rfl), fun _ => fitz, fun _ => h, fun h => absurd rfl h⟩
theorem gt_cons (hK : Kn P) {l : List T} {r : T} (hl : gtL P l) (hr : gtT P r) : gtT P (consAll l r) := by
  induction l with
  | nil => exact hr
  | cons t l ih =>
    rw [gtL] at hl
    show gtT P (.cmp [46] [t, consAll l r])
    rw [gtT]
    exact ⟨hK.dot, gtL_two hl.1 (ih hl.2)⟩
theorem expect_g {m : List UInt8} {s s1 : St} (h : expectP m s = .ok s1) (hs : Sg P s) : Sg P s1 := by
  unfold expectP at h
  split at h
  · cases h; exact hs.tail
  · cases h
theorem loop_g (hK : Kn P) (hw : Gw P w) (most : Int) : ∀ (f : Nat) (t : T) (q : Int) (s : St), gtT P t → Sg P s → Gk P (gtT P) (loopP w most f t q s) := by
  intro f
  induction f with
  | zero => intro t q s ht hs v s1 h; rw [loopP] at h; cases h; exact ⟨ht, hs⟩
  | succ f ih =>
    intro t q s ht hs v s1 h
    rw [loopP] at h
    split at h
    · cases h; exact ⟨ht, hs⟩
    · rename_i hst
      cases hx : w (infixK (nx s.1)).2.2.1 (s.1.tail, s.2) with
      | error k => rw [hx] at h; cases h
      | ok us =>
        obtain ⟨u, s2⟩ := us
        rw [hx] at h
        obtain ⟨h1, h2⟩ := hw _ _ hs.tail u s2 hx
        have hk : P (nx s.1).text := by
          have : ¬ (infixK (nx s.1)).2.2.2 = false := fun e => hst (.inl e)
          unfold infixK at this
          split at this
          · rename_i hc
            rcases hc with hc | hc
            · exact hs.hd hc
            · unfold isM at hc; simp at hc; rw [hc.2]; exact hK.com
          · exact absurd rfl this
        exact ih _ _ s2 (by rw [gtT]; exact ⟨hk, gtL_two ht h1⟩) h2 v s1 h
theorem rowGo_g (hw : Gw P w) : ∀ (f : Nat) (l : List T) (s : St), gtL P l → Sg P s → Gk P (gtL P) (rowGo w f l s) := by
  intro f
  induction f with
  | zero => intro l s hl hs v s1 h; rw [rowGo] at h; cases h; exact ⟨hl, hs⟩
  | succ f ih =>
    intro l s hl hs v s1 h
    rw [rowGo] at h
    split at h
    · cases hx : w 999 (s.1.tail, s.2) with
      | error k => rw [hx] at h; cases h
      | ok us =>
        obtain ⟨u, s2⟩ := us
        rw [hx] at h
        obtain ⟨h1, h2⟩ := hw _ _ hs.tail u s2 hx
        exact ih _ s2 (gtL_app hl (gtL_one h1)) h2 v s1 h
    · cases h; exact ⟨hl, hs⟩
theorem row_g (hw : Gw P w) {s : St} (hs : Sg P s) : Gk P (gtL P) (rowP w s) := by
  intro v s1 h
  unfold rowP at h
  cases hx : w 999 s with
  | error k => rw [hx] at h; cases h
  | ok us =>
    obtain ⟨u, s2⟩ := us
    rw [hx] at h
    obtain ⟨h1, h2⟩ := hw _ _ hs u s2 hx
    exact rowGo_g hw _ _ s2 (gtL_one h1) h2 v s1 h
theorem bracket_g (hw : Gw P w) (m : List UInt8) {s : St} (hs : Sg P s) : Gk P (gtT P) (bracketP w m s) := by
  intro v s1 h
  unfold bracketP at h
  cases hx : w 1200 s with
  | error k => rw [hx] at h; cases h
  | ok us =>
    obtain ⟨u, s2⟩ := us
    rw [hx] at h
    dsimp only at h
    obtain ⟨h1, h2⟩ := hw _ _ hs u s2 hx
    cases he : expectP m s2 with
    | error k => rw [he] at h; cases h
    | ok s3 => rw [he] at h; cases h; exact ⟨h1, expect_g he h2⟩
theorem list_g (hK : Kn P) (hw : Gw P w) {s : St} (hs : Sg P s) : Gk P (gtT P) (listP w s) := by
  intro v s1 h
  unfold listP at h
  split at h
  · cases h; exact ⟨gt_atom hK.nil, hs.tail⟩
  · cases hr : rowP w s with
    | error k => rw [hr] at h; cases h
    | ok ls =>
      obtain ⟨l, s2⟩ := ls
      rw [hr] at h
      dsimp only at h
      obtain ⟨h1, h2⟩ := row_g hw hs l s2 hr
      cases hr2 : (if isM (nx s2.1) [124] = true then w 999 (s2.1.tail, s2.2) else .ok (nilT, s2) : Res T) with
      | error k => rw [hr2] at h; cases h
      | ok rs =>
        obtain ⟨r, s3⟩ := rs
        rw [hr2] at h
        dsimp only at h
        have h3 : gtT P r ∧ Sg P s3 := by
          split at hr2
          · exact hw _ _ h2.tail r s3 hr2
          · cases hr2; exact ⟨gt_atom hK.nil, h2⟩
        cases he : expectP [93] s3 with
        | error k => rw [he] at h; cases h
        | ok s4 => rw [he] at h; cases h; exact ⟨gt_cons hK h1 h3.1, expect_g he h3.2⟩
theorem marked_g (hK : Kn P) (hw : Gw P w) {s : St} (hs : Sg P s) : Gk P (gtT P) (markedP w s) := by
  intro v s1 h
  unfold markedP at h
  split at h
  · exact bracket_g hw _ hs.tail v s1 h
  split at h
  · exact list_g hK hw hs.tail v s1 h
  split at h
  · split at h
    · cases h; exact ⟨gt_atom hK.cur, hs.tail.tail⟩
    · cases hb : bracketP w [125] (s.1.tail, s.2) with
      | error k => rw [hb] at h; cases h
      | ok us =>
        obtain ⟨u, s2⟩ := us
        rw [hb] at h
        obtain ⟨h1, h2⟩ := bracket_g hw _ hs.tail u s2 hb
        cases h
        exact ⟨by rw [gtT]; exact ⟨hK.cur, gtL_one h1⟩, h2⟩
  · cases h
theorem zero_g {x : Res T} (h : Gk P (gtT P) x) : Gk P (fun v : T × Int => gtT P v.1) (zeroP x) := by
  intro v s1 hx
  unfold zeroP at hx
  cases x with
  | error k => cases hx
  | ok us => obtain ⟨u, s2⟩ := us; have := h u s2 rfl; cases hx; exact this
theorem gt_int {n : Int} (h : Fit n) : gtT P (.leaf 2 n []) := by rw [gtT]; exact ⟨.inr (.inl rfl), fun _ => h, fun h => absurd h (by decide), fun _ => rfl⟩
theorem int_g (g : List UInt8) {s : St} (hs : Sg P s) : Gk P (gtT P) (intP g s) := by
  intro v s1 h
  unfold intP at h
  dsimp only at h
  split at h
  · cases h; exact ⟨gt_int fitz, hs.tail⟩
  split at h
  · cases h; exact ⟨gt_int (parse_fit _), hs.tail⟩
  · cases h
theorem named_g (hw : Gw P w) (most : Int) {s : St} (hk : (nx s.1).kind = 1) (hs : Sg P s) : Gk P (fun v : T × Int => gtT P v.1) (namedP w most s) := by
  intro v s1 h
  have hn := hs.hd hk
  unfold namedP at h
  dsimp only at h
  split at h
  · cases hr : rowP w (s.1.tail.tail, s.2) with
    | error k => rw [hr] at h; cases h
    | ok ls =>
      obtain ⟨l, s2⟩ := ls
      rw [hr] at h
      dsimp only at h
      obtain ⟨h1, h2⟩ := row_g hw (s := (s.1.tail.tail, s.2)) hs.tail.tail l s2 hr
      cases he : expectP [41] s2 with
      | error k => rw [he] at h; cases h
      | ok s3 =>
        rw [he] at h
        cases h
        exact ⟨by show gtT P (.cmp _ l); rw [gtT]; exact ⟨hn, h1⟩, expect_g he h2⟩
  split at h
  · exact zero_g (int_g [45] (s := (s.1.tail, s.2)) hs.tail) v s1 h
  split at h
  · cases hr : w (progP (nx s.1).text).2.1 (s.1.tail, s.2) with
    | error k => rw [hr] at h; cases h
    | ok ls =>
      obtain ⟨l, s2⟩ := ls
      rw [hr] at h
      obtain ⟨h1, h2⟩ := hw _ _ hs.tail l s2 hr
      cases h
      exact ⟨by show gtT P (.cmp _ [l]); rw [gtT]; exact ⟨hn, gtL_one h1⟩, h2⟩
  · cases h; exact ⟨gt_atom hn, hs.tail⟩
theorem gt_var (n : Int) : gtT P (.leaf 1 n []) := by rw [gtT]; exact ⟨.inl rfl, fun h => absurd rfl h, fun h => absurd h (by decide), fun _ => rfl⟩
theorem operand_g (hK : Kn P) (hw : Gw P w) (most : Int) {s : St} (hs : Sg P s) : Gk P (fun v : T × Int => gtT P v.1) (operandP w most s) := by
  intro v s1 h
  unfold operandP at h
  dsimp only at h
  split at h
  · rename_i hk; exact named_g hw most hk hs v s1 h
  split at h
  · cases h
    unfold varP
    dsimp only
    split
    · exact ⟨gt_var _, hs.tail⟩
    · exact ⟨gt_var _, hs.tail⟩
  split at h
  · exact zero_g (int_g [] hs) v s1 h
  split at h
  · exact zero_g (bracket_g hw [41] hs.tail) v s1 h
  · exact zero_g (marked_g hK hw hs) v s1 h
end
theorem term_g {P : List UInt8 → Prop} (hK : Kn P) : ∀ d, Gw P (termP d) := by
  intro d
  induction d with
  | zero => intro most s _ v s1 h; cases h
  | succ d ih =>
    intro most s hs v s1 h
    have e1 : termP (d + 1) most s = match operandP (termP d) most s with | .error e => .error e | .ok ((t, prio), s') => loopP (termP d) most s'.1.length t prio s' := rfl
    rw [e1] at h
    cases ho : operandP (termP d) most s with
    | error k => rw [ho] at h; cases h
    | ok us =>
      obtain ⟨⟨u, q⟩, s2⟩ := us
      rw [ho] at h
      obtain ⟨h1, h2⟩ := operand_g hK ih most hs _ s2 ho
      exact loop_g hK ih most _ u q s2 h1 h2 v s1 h
/-- a sentence's term, of names that its tokens have -/
theorem one_g {P : List UInt8 → Prop} (hK : Kn P) {l : List UInt8} {x : Sn} (h : oneP l = .ok x) (hP : ∀ ts, lx.toksD (endP l) = .ok ts → ∀ t ∈ ts, t.kind = 1 → P t.text) : gtT P x.1 := by
  obtain ⟨ts, ht, hs⟩ := oneP_ok h
  unfold sentP at hs
  cases hx : termP 65 1200 (ab ts, []) with
  | error k => rw [hx] at hs; cases hs
  | ok v =>
    obtain ⟨t, s⟩ := v
    rw [hx] at hs
    dsimp only at hs
    split at hs
    · have e := (Prod.mk.inj (Except.ok.inj hs)).1
      rw [← e]
      exact (term_g hK 65 1200 (ab ts, []) (fun k hk hkk => by
        obtain ⟨a, ha, e1, e2⟩ := ab_mem ts hk
        rw [← e2]; exact hP ts ht a ha (by rw [e1]; exact hkk)) t s hx).1
    · cases hs
end Go.Proofs.Ytjccohcigopdfaa.rd
namespace Go.Proofs.Ytjccohcigopdfaa.lx
open Go.Proofs.Ytjccohcigopdfaa.rd (endP)

/-- the tokens that a text has are those that it has with its end -/
theorem end_toks {l : List UInt8} {ts : List Tok} (h : toksD (endP l) = .ok ts) (hl : l.length ≤ 4000) : ∃ ts0, toks l = .ok ts0 ∧ ∀ t ∈ ts, t.kind ≠ 6 → t ∈ ts0 := by
  have hD : toksD l = toks l := by unfold toksD; rw [if_neg (by omega)]
  unfold endP at h
  cases h0 : toksD l with
  | bad p e => rw [h0] at h; dsimp only at h; rw [h0] at h; cases h
  | ok ts0 =>
    rw [h0] at h
    dsimp only at h
    by_cases he : rd.endsB ts0 = true
    · rw [if_pos he, h0] at h
      cases h
      exact ⟨_, by rw [← hD, h0], fun t ht _ => ht⟩
    · rw [if_neg he] at h
      refine ⟨ts0, by rw [← hD, h0], fun t ht hk => ?_⟩
      have h2 : toks l = .ok ts0 := by rw [← hD, h0]
      unfold toksD at h
      rw [if_neg (by rw [List.length_append]; simp; omega)] at h
      unfold toks at h h2
      obtain ⟨rs, m, hr, hf⟩ := run_of h2
      rw [ans_append, hr] at h
      dsimp only at h
      rw [Nat.zero_add] at h
      by_cases hm : m = .line
      · subst hm
        have e1 : ans 1000 [32, 46] rs l.length .line = .ok rs := rfl
        rw [e1] at h
        have e2 : fin 1000 rs l.length .line = .ok rs := rfl
        rw [e2] at hf
        cases h; cases hf; exact ht
      · rw [ans_cons, fin_blank hf hm] at h
        dsimp only at h
        rw [ans_cons, step] at h
        have hst : start 1000 ts0 (l.length + 1) 46 = if ts0.length = 1000 then .bad (l.length + 1) 34 else .go ts0 (.dot (l.length + 1)) := by
          unfold start opening
          rw [if_neg (by decide), if_neg (by decide), if_neg (by decide), if_neg (by decide)]
          split
          · rfl
          · rfl
        rw [hst] at h
        by_cases ha : ts0.length = 1000
        · rw [if_pos ha] at h; cases h
        · rw [if_neg ha] at h
          have e3 : ans 1000 [] ts0 (l.length + 2) (.dot (l.length + 1)) = .ok (ts0 ++ [⟨6, [46], l.length + 1, l.length + 2⟩]) := rfl
          have h' : (Out.ok (ts0 ++ [⟨6, [46], l.length + 1, l.length + 2⟩])) = .ok ts := h
          cases h'
          rcases List.mem_append.1 ht with ht | ht
          · exact ht
          · rw [List.mem_singleton] at ht; rw [ht] at hk; exact absurd rfl hk
/-- the names of a text's tokens are such as both Quotes answer alike -/
theorem atom_qn {l : List UInt8} {ts : List Tok} (h : toks l = .ok ts) (hl : l.length ≤ 2048) {t : Tok} (ht : t ∈ ts) (hk : t.kind = 1) : Qn t.text := by
  have hp := places h
  obtain ⟨i, hi, rfl⟩ := List.getElem_of_mem ht
  obtain ⟨p1, p2, p3, p4, p5⟩ := hp i hi
  by_cases hx : ts[i].text.length ≤ 2047
  · exact .inl hx
  · by_cases hq : l.getD ts[i].frm 0 = 39
    · have := p5 hq; omega
    · have h4 := p4 hq
      have hlen := congrArg List.length h4
      rw [List.length_drop, List.length_take] at hlen
      have hf : ts[i].frm = 0 := by omega
      have hto : ts[i].to = l.length := by omega
      have htx : ts[i].text = l := by rw [← h4, hf, hto]; simp
      have h0 : i = 0 := by
        rcases Nat.eq_zero_or_pos i with h0 | h0
        · exact h0
        · exfalso
          obtain ⟨r1, r2, r3, _, _⟩ := hp (i - 1) (by omega)
          have hlast : lastTo (ts.take i) = (ts[i - 1]'(by omega)).to := by
            have : ts.take i = ts.take (i - 1) ++ [ts[i - 1]'(by omega)] := by
              have := List.take_succ_eq_append_getElem (l := ts) (i := i - 1) (by omega)
              rwa [show i - 1 + 1 = i by omega] at this
            rw [this, lastTo_snoc]
          rw [hlast] at p1
          omega
      subst h0
      have h1 : ts.length = 1 := by
        rcases Nat.lt_or_ge 1 ts.length with h1 | h1
        · exfalso
          obtain ⟨r1, r2, r3, _, _⟩ := hp 1 h1
          have hlast : lastTo (ts.take 1) = ts[0].to := by
            have : ts.take 1 = [] ++ [ts[0]] := by
              have := List.take_succ_eq_append_getElem (l := ts) (i := 0) hi
              simpa using this
            rw [this, lastTo_snoc]
          rw [hlast] at r1
          omega
        · omega
      obtain ⟨t0, rfl⟩ : ∃ t0, ts = [t0] := by
        match ts, h1 with
        | [t0], _ => exact ⟨t0, rfl⟩
      refine .inr ⟨by rw [htx]; omega, ?_⟩
      simp only [List.getElem_cons_zero] at htx hk ⊢
      rw [htx, h]
      simp [isOne, hk, htx]
theorem qn_kn : rd.Kn Qn := ⟨.inl (by simp), .inl (by simp), .inl (by simp), .inl (by simp)⟩
end Go.Proofs.Ytjccohcigopdfaa.lx
namespace Go.Proofs.Ytjccohcigopdfaa.rd
open Go.Proofs.Ytjccohcigopdfaa.lx (Qn)
/-- what is read of a text that is not long -/
theorem one_gt {l : List UInt8} {x : Sn} (h : oneP l = .ok x) (hl : l.length ≤ 2048) : gtT Qn x.1 :=
  one_g lx.qn_kn h fun ts ht t hm hk => by
    obtain ⟨ts0, h0, hs⟩ := lx.end_toks ht (by omega)
    exact lx.atom_qn h0 hl (hs t hm (by omega)) hk
end Go.Proofs.Ytjccohcigopdfaa.rd
end
