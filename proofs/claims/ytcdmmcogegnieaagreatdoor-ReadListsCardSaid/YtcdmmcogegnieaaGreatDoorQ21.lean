/- Terms read of two rows of tokens that are alike as far as they are read.; How the variables of terms that are read are numbered.; ReadNames: its walk.; Texts behind tokens that open nothing: shifts. Plain lists.; Tokens as the reader sees them: one row behind another; a text's one sentence. Plain lists. -/
import Derived.Test.YtcdmmcogegnieaaGreatDoorQ2
import Derived.Test.YtcdmmcogegnieaaGreatDoorQ20
import Derived.Test.YtcdmmcogegnieaaGreatDoorQ16
set_option linter.unusedVariables false
set_option linter.unusedSimpArgs false
section
/- Terms read of two rows of tokens that are alike as far as they are read. -/
namespace Go.Proofs.YtcdmmcogegnieaaGreatDoor.rd
open Go.Proofs.YtcdmmcogegnieaaGreatDoor.op (progI progP)

/-- a token that begins and goes on with nothing -/
def dull (k : K) : Prop := k.kind = 6 ∨ (k.kind = 5 ∧ k.text = [41])
/-- two places from which the same is read -/
structure Sim (R : St → St → Prop) : Prop where
  nm : ∀ {s s'}, R s s' → s.2 = s'.2
  put : ∀ {s s'}, R s s' → ∀ n, R (s.1, n) (s'.1, n)
  hd : ∀ {s s'}, R s s' → (nx s.1 = nx s'.1 ∧ R (s.1.tail, s.2) (s'.1.tail, s'.2)) ∨ ((nx s.1).kind = 6 ∧ dull (nx s'.1))
section
variable {R : St → St → Prop} {w w' : W} {s s' : St}
def Ok3 {α : Type} (R : St → St → Prop) (x x' : Res α) (s s' : St) : Prop := ∀ v s1, x = .ok (v, s1) → ∃ s1', x' = .ok (v, s1') ∧ R s1 s1' ∧ s1.1.length ≤ s.1.length ∧ s1'.1.length ≤ s'.1.length
def Sm (R : St → St → Prop) (w w' : W) : Prop := ∀ most s s', R s s' → Ok3 R (w most s) (w' most s') s s'
theorem isM_end {k : K} (h : k.kind = 6) (m : List UInt8) : isM k m = false := by unfold isM; rw [h]; rfl
theorem isM_dull {k : K} (h : dull k) {m : List UInt8} (hm : m ≠ [41]) : isM k m = false := by
  rcases h with h | ⟨h1, h2⟩
  · exact isM_end h m
  · unfold isM; rw [h1, h2]; simp; exact fun e => hm e.symm
theorem infix_dull {k : K} (h : dull k) : infixK k = (0, 0, 0, false) := by
  unfold infixK
  rw [if_neg]
  rintro (h1 | h1)
  · rcases h with h | ⟨h, _⟩ <;> rw [h] at h1 <;> exact absurd h1 (by decide)
  · rw [isM_dull h (by decide)] at h1; exact absurd h1 (by decide)
theorem mayB_dull {k : K} (h : dull k) : mayB k = false := by
  unfold mayB
  rcases h with h | ⟨h1, h2⟩
  · rw [h]; rfl
  · rw [h1, h2]; rfl
theorem infix_nil : infixK (nx []) = (0, 0, 0, false) := rfl
theorem Ok3.mk' {α : Type} {x x' : Res α} {t t' : St} (h : Ok3 R x x' t t') (h1 : t.1.length ≤ s.1.length) (h2 : t'.1.length ≤ s'.1.length) : Ok3 R x x' s s' := fun v s1 hx => by
  obtain ⟨s1', a, b, c, d⟩ := h v s1 hx
  exact ⟨s1', a, b, by omega, by omega⟩
theorem expect_sim (hS : Sim R) (h : R s s') (m : List UInt8) {s1 : St} (hx : expectP m s = .ok s1) : ∃ s1', expectP m s' = .ok s1' ∧ R s1 s1' ∧ s1.1.length ≤ s.1.length ∧ s1'.1.length ≤ s'.1.length := by
  unfold expectP at hx ⊢
  split at hx
  · rename_i hm
    cases hx
    rcases hS.hd h with ⟨h1, h2⟩ | ⟨h1, _⟩
    · rw [← h1, if_pos hm]; exact ⟨_, rfl, h2, by simp, by simp⟩
    · rw [isM_end h1] at hm; exact absurd hm (by decide)
  · cases hx
theorem loop_sim (hS : Sim R) (hW : Sm R w w') (most : Int) : ∀ (f f' : Nat) (t : T) (q : Int) (s s' : St), R s s' → s.1.length ≤ f → s'.1.length ≤ f' → Ok3 R (loopP w most f t q s) (loopP w' most f' t q s') s s' := by
  intro f
  induction f with
  | zero =>
    intro f' t q s s' h hf hf' v s1 hx
    have hs : s.1 = [] := List.length_eq_zero_iff.1 (by omega)
    rw [loopP] at hx; cases hx
    refine ⟨s', ?_, h, Nat.le_refl _, Nat.le_refl _⟩
    have hk : infixK (nx s'.1) = (0, 0, 0, false) := by
      rcases hS.hd h with ⟨h1, _⟩ | ⟨_, h2⟩
      · rw [← h1, hs]; exact infix_nil
      · exact infix_dull h2
    cases f' with
    | zero => rfl
    | succ f' => rw [loopP]; simp only [hk, true_or, if_true]
  | succ f ih =>
    intro f' t q s s' h hf hf' v s1 hx
    rw [loopP] at hx
    split at hx
    · rename_i hst
      cases hx
      refine ⟨s', ?_, h, Nat.le_refl _, Nat.le_refl _⟩
      cases f' with
      | zero => rfl
      | succ f' =>
        rw [loopP]
        (try dsimp only)
        rw [if_pos]
        rcases hS.hd h with ⟨h1, _⟩ | ⟨_, h2⟩
        · rw [← h1]; exact hst
        · rw [infix_dull h2]; exact .inl rfl
    · rename_i hst
      rcases hS.hd h with ⟨h1, h2⟩ | ⟨h1, _⟩
      · cases hw : w (infixK (nx s.1)).2.2.1 (s.1.tail, s.2) with
        | error k => rw [hw] at hx; cases hx
        | ok us =>
          obtain ⟨u, s2⟩ := us
          rw [hw] at hx
          dsimp only at hx
          obtain ⟨s2', a, b, c, d⟩ := hW _ _ _ h2 u s2 hw
          have hne : s'.1 ≠ [] := fun e => by rw [h1, e, infix_nil] at hst; exact hst (.inl rfl)
          have hne2 : s.1 ≠ [] := fun e => by rw [e, infix_nil] at hst; exact hst (.inl rfl)
          have l1 : s.1.tail.length + 1 = s.1.length := by cases hc : s.1 with | nil => exact absurd hc hne2 | cons => simp
          have l2 : s'.1.tail.length + 1 = s'.1.length := by cases hc : s'.1 with | nil => exact absurd hc hne | cons => simp
          obtain ⟨f', rfl⟩ : ∃ g, f' = g + 1 := ⟨f' - 1, by omega⟩
          dsimp only at c d
          obtain ⟨s3', a3, b3, c3, d3⟩ := ih f' _ _ s2 s2' b (by omega) (by omega) v s1 hx
          refine ⟨s3', ?_, b3, by omega, by omega⟩
          rw [loopP]
          (try dsimp only)
          rw [← h1, if_neg hst, a]
          exact a3
      · rw [infix_dull (.inl h1)] at hst; exact absurd (.inl rfl) hst
theorem rowGo_sim (hS : Sim R) (hW : Sm R w w') : ∀ (f f' : Nat) (l : List T) (s s' : St), R s s' → s.1.length ≤ f → s'.1.length ≤ f' → Ok3 R (rowGo w f l s) (rowGo w' f' l s') s s' := by
  intro f
  induction f with
  | zero =>
    intro f' l s s' h hf hf' v s1 hx
    have hs : s.1 = [] := List.length_eq_zero_iff.1 (by omega)
    rw [rowGo] at hx; cases hx
    refine ⟨s', ?_, h, Nat.le_refl _, Nat.le_refl _⟩
    have hk : isM (nx s'.1) [44] = false := by
      rcases hS.hd h with ⟨h1, _⟩ | ⟨_, h2⟩
      · rw [← h1, hs]; rfl
      · exact isM_dull h2 (by decide)
    cases f' with
    | zero => rfl
    | succ f' => rw [rowGo, hk]; rfl
  | succ f ih =>
    intro f' l s s' h hf hf' v s1 hx
    rw [rowGo] at hx
    split at hx
    · rename_i hst
      rcases hS.hd h with ⟨h1, h2⟩ | ⟨h1, _⟩
      · cases hw : w 999 (s.1.tail, s.2) with
        | error k => rw [hw] at hx; cases hx
        | ok us =>
          obtain ⟨u, s2⟩ := us
          rw [hw] at hx
          dsimp only at hx
          obtain ⟨s2', a, b, c, d⟩ := hW _ _ _ h2 u s2 hw
          have hne : s'.1 ≠ [] := fun e => by rw [h1, e] at hst; exact absurd hst (by decide)
          have hne2 : s.1 ≠ [] := fun e => by rw [e] at hst; exact absurd hst (by decide)
          have l1 : s.1.tail.length + 1 = s.1.length := by cases hc : s.1 with | nil => exact absurd hc hne2 | cons => simp
          have l2 : s'.1.tail.length + 1 = s'.1.length := by cases hc : s'.1 with | nil => exact absurd hc hne | cons => simp
          obtain ⟨f', rfl⟩ : ∃ g, f' = g + 1 := ⟨f' - 1, by omega⟩
          dsimp only at c d
          obtain ⟨s3', a3, b3, c3, d3⟩ := ih f' _ s2 s2' b (by omega) (by omega) v s1 hx
          refine ⟨s3', ?_, b3, by omega, by omega⟩
          rw [rowGo, ← h1, if_pos hst, a]
          exact a3
      · rw [isM_end h1] at hst; exact absurd hst (by decide)
    · rename_i hst
      cases hx
      refine ⟨s', ?_, h, Nat.le_refl _, Nat.le_refl _⟩
      have hk : isM (nx s'.1) [44] = false := by
        rcases hS.hd h with ⟨h1, _⟩ | ⟨_, h2⟩
        · rw [← h1]; simpa using hst
        · exact isM_dull h2 (by decide)
      cases f' with
      | zero => rfl
      | succ f' => rw [rowGo, hk]; rfl
theorem row_sim (hS : Sim R) (hW : Sm R w w') (h : R s s') : Ok3 R (rowP w s) (rowP w' s') s s' := by
  intro v s1 hx
  unfold rowP at hx ⊢
  cases hw : w 999 s with
  | error k => rw [hw] at hx; cases hx
  | ok us =>
    obtain ⟨u, s2⟩ := us
    rw [hw] at hx
    obtain ⟨s2', a, b, c, d⟩ := hW _ _ _ h u s2 hw
    rw [a]
    obtain ⟨s3', a3, b3, c3, d3⟩ := rowGo_sim hS hW _ s2'.1.length _ s2 s2' b (Nat.le_refl _) (Nat.le_refl _) v s1 hx
    exact ⟨s3', a3, b3, by omega, by omega⟩
theorem bracket_sim (hS : Sim R) (hW : Sm R w w') (m : List UInt8) (h : R s s') : Ok3 R (bracketP w m s) (bracketP w' m s') s s' := by
  intro v s1 hx
  unfold bracketP at hx ⊢
  cases hw : w 1200 s with
  | error k => rw [hw] at hx; cases hx
  | ok us =>
    obtain ⟨u, s2⟩ := us
    rw [hw] at hx
    dsimp only at hx
    obtain ⟨s2', a, b, c, d⟩ := hW _ _ _ h u s2 hw
    rw [a]
    dsimp only
    cases he : expectP m s2 with
    | error k => rw [he] at hx; cases hx
    | ok s3 =>
      rw [he] at hx
      cases hx
      obtain ⟨s3', a3, b3, c3, d3⟩ := expect_sim hS b m he
      rw [a3]
      exact ⟨s3', rfl, b3, by omega, by omega⟩
theorem list_sim (hS : Sim R) (hW : Sm R w w') (h : R s s') : Ok3 R (listP w s) (listP w' s') s s' := by
  intro v s1 hx
  unfold listP at hx ⊢
  split at hx
  · rename_i hm
    cases hx
    rcases hS.hd h with ⟨h1, h2⟩ | ⟨h1, _⟩
    · rw [← h1, if_pos hm]; exact ⟨_, rfl, h2, by simp, by simp⟩
    · rw [isM_end h1] at hm; exact absurd hm (by decide)
  · rename_i hm
    have hm' : ¬ isM (nx s'.1) [93] = true := by
      rcases hS.hd h with ⟨h1, _⟩ | ⟨_, h2⟩
      · rw [← h1]; exact hm
      · rw [isM_dull h2 (by decide)]; decide
    rw [if_neg hm']
    cases hr : rowP w s with
    | error k => rw [hr] at hx; cases hx
    | ok ls =>
      obtain ⟨l, s2⟩ := ls
      rw [hr] at hx
      dsimp only at hx
      obtain ⟨s2', a, b, c, d⟩ := row_sim hS hW h l s2 hr
      rw [a]
      dsimp only
      have hq : Ok3 R (if isM (nx s2.1) [124] = true then w 999 (s2.1.tail, s2.2) else .ok (nilT, s2)) (if isM (nx s2'.1) [124] = true then w' 999 (s2'.1.tail, s2'.2) else .ok (nilT, s2')) s2 s2' := by
        rcases hS.hd b with ⟨h1, h2⟩ | ⟨h1, h2⟩
        · rw [← h1]
          split
          · exact (hW 999 _ _ h2).mk' (by simp) (by simp)
          · intro v s3 he; cases he; exact ⟨s2', rfl, b, Nat.le_refl _, Nat.le_refl _⟩
        · rw [isM_end h1, isM_dull h2 (by decide)]
          intro v s3 he; cases he; exact ⟨s2', rfl, b, Nat.le_refl _, Nat.le_refl _⟩
      cases hr2 : (if isM (nx s2.1) [124] = true then w 999 (s2.1.tail, s2.2) else .ok (nilT, s2) : Res T) with
      | error k => rw [hr2] at hx; cases hx
      | ok rs =>
        obtain ⟨r, s3⟩ := rs
        rw [hr2] at hx
        dsimp only at hx
        obtain ⟨s3', a3, b3, c3, d3⟩ := hq r s3 hr2
        rw [a3]
        dsimp only
        cases he : expectP [93] s3 with
        | error k => rw [he] at hx; cases hx
        | ok s4 =>
          rw [he] at hx
          cases hx
          obtain ⟨s4', a4, b4, c4, d4⟩ := expect_sim hS b3 [93] he
          rw [a4]
          exact ⟨s4', rfl, b4, by omega, by omega⟩
theorem tail_len (l : List K) : l.tail.length ≤ l.length := by simp
theorem marked_sim (hS : Sim R) (hW : Sm R w w') (h : R s s') : Ok3 R (markedP w s) (markedP w' s') s s' := by
  rcases hS.hd h with ⟨h1, h2⟩ | ⟨h1, _⟩
  · unfold markedP
    rw [← h1]
    split
    · exact (bracket_sim hS hW [41] h2).mk' (tail_len _) (tail_len _)
    split
    · exact (list_sim hS hW h2).mk' (tail_len _) (tail_len _)
    split
    · intro v s1 hx
      split at hx
      · rename_i hm
        cases hx
        rcases hS.hd h2 with ⟨h3, h4⟩ | ⟨h3, _⟩
        · dsimp only at h3 h4
          rw [← h3, if_pos hm]; exact ⟨_, rfl, h4, Nat.le_trans (tail_len _) (tail_len _), Nat.le_trans (tail_len _) (tail_len _)⟩
        · rw [isM_end h3] at hm; exact absurd hm (by decide)
      · rename_i hm
        have hm' : ¬ isM (nx s'.1.tail) [125] = true := by
          rcases hS.hd h2 with ⟨h3, _⟩ | ⟨_, h3⟩
          · dsimp only at h3; rw [← h3]; exact hm
          · rw [isM_dull h3 (by decide)]; decide
        rw [if_neg hm']
        cases hb : bracketP w [125] (s.1.tail, s.2) with
        | error k => rw [hb] at hx; cases hx
        | ok us =>
          obtain ⟨u, s2⟩ := us
          rw [hb] at hx
          obtain ⟨s2', a, b, c, d⟩ := bracket_sim hS hW [125] h2 u s2 hb
          cases hx
          rw [a]
          exact ⟨s2', rfl, b, Nat.le_trans c (tail_len _), Nat.le_trans d (tail_len _)⟩
    · intro v s1 hx; cases hx
  · intro v s1 hx
    unfold markedP at hx
    rw [isM_end h1, isM_end h1, isM_end h1] at hx
    cases hx
theorem zero_sim {x x' : Res T} (h : Ok3 R x x' s s') : Ok3 R (zeroP x) (zeroP x') s s' := by
  intro v s1 hx
  unfold zeroP at hx
  cases x with
  | error k => cases hx
  | ok us =>
    obtain ⟨u, s2⟩ := us
    cases hx
    obtain ⟨s2', a, b, c, d⟩ := h u s1 rfl
    exact ⟨s2', by rw [a]; rfl, b, c, d⟩
theorem int_sim (_hS : Sim R) (g : List UInt8) (_h : R s s') (h1 : nx s.1 = nx s'.1) (h2 : R (s.1.tail, s.2) (s'.1.tail, s'.2)) : Ok3 R (intP g s) (intP g s') s s' := by
  intro v s1 hx
  unfold intP at hx ⊢
  rw [← h1]
  dsimp only at hx ⊢
  split at hx
  · rename_i hd; cases hx; rw [if_pos hd]; exact ⟨_, rfl, h2, tail_len _, tail_len _⟩
  · rename_i hd
    rw [if_neg hd]
    split at hx
    · rename_i he; cases hx; rw [if_pos he]; exact ⟨_, rfl, h2, tail_len _, tail_len _⟩
    · cases hx
theorem named_sim (hS : Sim R) (hW : Sm R w w') (most : Int) (h1 : nx s.1 = nx s'.1) (h2 : R (s.1.tail, s.2) (s'.1.tail, s'.2)) : Ok3 R (namedP w most s) (namedP w' most s') s s' := by
  have t1 := tail_len s.1
  have t2 := tail_len s'.1
  have t3 := tail_len s.1.tail
  have t4 := tail_len s'.1.tail
  unfold namedP
  rw [← h1]
  dsimp only
  rcases hS.hd h2 with ⟨h3, h4⟩ | ⟨h3, h4⟩
  · dsimp only at h3 h4
    rw [← h3]
    split
    · intro v s1 hx
      cases hr : rowP w (s.1.tail.tail, s.2) with
      | error k => rw [hr] at hx; cases hx
      | ok ls =>
        obtain ⟨l, s2⟩ := ls
        rw [hr] at hx
        dsimp only at hx
        obtain ⟨s2', a, b, c, d⟩ := row_sim hS hW h4 l s2 hr
        rw [a]
        dsimp only at c d ⊢
        cases he : expectP [41] s2 with
        | error k => rw [he] at hx; cases hx
        | ok s3 =>
          rw [he] at hx
          cases hx
          obtain ⟨s3', a3, b3, c3, d3⟩ := expect_sim hS b [41] he
          rw [a3]
          exact ⟨s3', rfl, b3, by omega, by omega⟩
    split
    · exact (zero_sim (int_sim hS [45] h2 h3 h4)).mk' t1 t2
    split
    · intro v s1 hx
      cases hr : w (progP (nx s.1).text).2.1 (s.1.tail, s.2) with
      | error k => rw [hr] at hx; cases hx
      | ok ls =>
        obtain ⟨l, s2⟩ := ls
        rw [hr] at hx
        obtain ⟨s2', a, b, c, d⟩ := hW _ _ _ h2 l s2 hr
        cases hx
        rw [a]
        dsimp only at c d
        exact ⟨s2', rfl, b, by omega, by omega⟩
    · intro v s1 hx; cases hx; exact ⟨_, rfl, h2, t1, t2⟩
  · dsimp only at h3 h4
    have n4 : ¬ (nx s.1.tail).kind = 4 := by omega
    have n3 : ¬ (nx s.1.tail).kind = 3 := by omega
    have n4' : ¬ (nx s'.1.tail).kind = 4 := by rcases h4 with h | ⟨h, _⟩ <;> omega
    have n3' : ¬ (nx s'.1.tail).kind = 3 := by rcases h4 with h | ⟨h, _⟩ <;> omega
    rw [if_neg n4, if_neg n4', mayB_dull h4, mayB_dull (.inl h3)]
    simp only [n3, n3', false_and, and_false, if_false, Bool.false_eq_true]
    intro v s1 hx; cases hx; exact ⟨_, rfl, h2, t1, t2⟩
theorem var_sim (hS : Sim R) (h : R s s') (h1 : nx s.1 = nx s'.1) (h2 : R (s.1.tail, s.2) (s'.1.tail, s'.2)) : (varP s).1 = (varP s').1 ∧ R (varP s).2 (varP s').2 ∧ (varP s).2.1.length ≤ s.1.length ∧ (varP s').2.1.length ≤ s'.1.length := by
  unfold varP
  rw [← h1, ← hS.nm h]
  dsimp only
  split
  · exact ⟨rfl, hS.put h2 _, tail_len _, tail_len _⟩
  · exact ⟨rfl, hS.put h2 _, tail_len _, tail_len _⟩
theorem operand_sim (hS : Sim R) (hW : Sm R w w') (most : Int) (h : R s s') : Ok3 R (operandP w most s) (operandP w' most s') s s' := by
  rcases hS.hd h with ⟨h1, h2⟩ | ⟨h1, h2⟩
  · unfold operandP
    rw [← h1]
    dsimp only
    split
    · exact named_sim hS hW most h1 h2
    split
    · intro v s1 hx
      cases hx
      obtain ⟨a, b, c, d⟩ := var_sim hS h h1 h2
      exact ⟨_, by rw [a], b, c, d⟩
    split
    · exact zero_sim (int_sim hS [] h h1 h2)
    split
    · exact (zero_sim (bracket_sim hS hW [41] h2)).mk' (tail_len _) (tail_len _)
    · exact zero_sim (marked_sim hS hW h)
  · intro v s1 hx
    unfold operandP at hx
    dsimp only at hx
    rw [if_neg (by omega), if_neg (by omega), if_neg (by omega), if_neg (by omega)] at hx
    unfold markedP at hx
    rw [isM_end h1, isM_end h1, isM_end h1] at hx
    cases hx
/-- what is read of one is read of the other, as deep or deeper -/
theorem term_sim (hS : Sim R) : ∀ d d', d ≤ d' → Sm R (termP d) (termP d') := by
  intro d
  induction d with
  | zero => intro d' _ most s s' h v s1 hx; cases hx
  | succ d ih =>
    intro d' hd most s s' h v s1 hx
    obtain ⟨d', rfl⟩ : ∃ g, d' = g + 1 := ⟨d' - 1, by omega⟩
    have hW := ih d' (by omega)
    have e1 : ∀ d most s, termP (d + 1) most s = match operandP (termP d) most s with | .error e => .error e | .ok ((t, prio), s') => loopP (termP d) most s'.1.length t prio s' := fun _ _ _ => rfl
    rw [e1] at hx ⊢
    cases ho : operandP (termP d) most s with
    | error k => rw [ho] at hx; cases hx
    | ok us =>
      obtain ⟨⟨u, q⟩, s2⟩ := us
      rw [ho] at hx
      dsimp only at hx
      obtain ⟨s2', a, b, c, e⟩ := operand_sim hS hW most h _ s2 ho
      rw [a]
      dsimp only
      obtain ⟨s3', a3, b3, c3, d3⟩ := loop_sim hS hW most _ s2'.1.length u q s2 s2' b (Nat.le_refl _) (Nat.le_refl _) v s1 hx
      exact ⟨s3', a3, b3, by omega, by omega⟩
end
/-- the same place -/
theorem sim_eq : Sim (fun s s' => s = s') := ⟨fun h => by rw [h], fun h n => by rw [h], fun h => .inl (by subst h; exact ⟨rfl, rfl⟩)⟩
/-- the same tokens, then Y1, Y2: each with a dull one in front -/
def Rl (Y1 Y2 : List K) (s s' : St) : Prop := ∃ X, s.1 = X ++ Y1 ∧ s'.1 = X ++ Y2 ∧ s.2 = s'.2
theorem sim_rl {Y1 Y2 : List K} (h1 : (nx Y1).kind = 6) (h2 : dull (nx Y2)) : Sim (Rl Y1 Y2) where
  nm := fun ⟨_, _, _, h⟩ => h
  put := fun ⟨X, a, b, _⟩ n => ⟨X, a, b, rfl⟩
  hd := by
    rintro ⟨l, n⟩ ⟨l', n'⟩ ⟨X, a, b, c⟩
    dsimp only at a b c ⊢
    subst a b c
    cases X with
    | nil => exact .inr ⟨h1, h2⟩
    | cons x X => exact .inl ⟨rfl, X, rfl, rfl, rfl⟩
/-- what is deeper than enough is no other -/
theorem term_mono {d d' : Nat} (hd : d ≤ d') {most : Int} {s s1 : St} {t : T} (h : termP d most s = .ok (t, s1)) : termP d' most s = .ok (t, s1) ∧ s1.1.length ≤ s.1.length := by
  obtain ⟨s1', a, b, c, _⟩ := term_sim sim_eq d d' hd most s s rfl t s1 h
  exact ⟨by rw [a, b], c⟩
theorem term_ctx {d : Nat} {most : Int} {X Y1 Y2 X' : List K} {n n' : List (List UInt8)} {t : T} (h1 : (nx Y1).kind = 6) (h2 : dull (nx Y2)) (h : termP d most (X ++ Y1, n) = .ok (t, (X' ++ Y1, n'))) :
    termP d most (X ++ Y2, n) = .ok (t, (X' ++ Y2, n')) := by
  obtain ⟨⟨l, m⟩, a, ⟨Z, b, c, e⟩, _⟩ := term_sim (sim_rl h1 h2) d d (Nat.le_refl _) most (X ++ Y1, n) (X ++ Y2, n) ⟨X, rfl, rfl, rfl⟩ t _ h
  dsimp only at b c e
  have hz : X' = Z := List.append_cancel_right b
  subst hz
  rw [a, c, ← e]
end Go.Proofs.YtcdmmcogegnieaaGreatDoor.rd
end
section
/- How the variables of terms that are read are numbered. -/
namespace Go.Proofs.YtcdmmcogegnieaaGreatDoor.rd
open Go.Proofs.YtcdmmcogegnieaaGreatDoor.op (progI progP)
open Go.Proofs.YtcdmmcogegnieaaGreatDoor.ls (topT topL)

theorem topT_neg {n : Int} (h : n < 0) (t : T) : topT t n = n := by cases t <;> rw [topT, if_pos h]
theorem topL_neg {n : Int} (h : n < 0) (l : List T) : topL l n = n := by
  induction l with
  | nil => rw [topL]
  | cons t l ih => rw [topL, topT_neg h, ih]
theorem topT_cmp (s : List UInt8) (l : List T) (n : Int) : topT (.cmp s l) n = topL l n := by
  rw [topT]; split
  · rename_i h; rw [topL_neg h]
  · rfl
theorem topL_app (l m : List T) (n : Int) : topL (l ++ m) n = topL m (topL l n) := by
  induction l generalizing n with
  | nil => rw [List.nil_append, topL]
  | cons t l ih => rw [List.cons_append, topL, ih, topL]
theorem topL_one (t : T) (n : Int) : topL [t] n = topT t n := by rw [topL, topL]
theorem topL_two (t u : T) (n : Int) : topL [t, u] n = topT u (topT t n) := by rw [topL, topL_one]
theorem top_cons (l : List T) (r : T) (n : Int) : topT (consAll l r) n = topT r (topL l n) := by
  induction l generalizing n with
  | nil => rw [topL]; rfl
  | cons t l ih => show topT (.cmp [46] [t, consAll l r]) n = _; rw [topT_cmp, topL_two, ih, topL]
theorem top_leaf {k : Nat} (hk : k ≠ 1) (N : Int) (s : List UInt8) (n : Int) : topT (.leaf k N s) n = n := by rw [topT]; simp [hk]
/-- names but _ are of one place -/
def Uq (nm : List (List UInt8)) : Prop := ∀ i j, j < i → i < nm.length → nm.getD j [] = nm.getD i [] → nm.getD i [] = [95]
/-- from s to s1, f being what is read there -/
structure Nb (f : Int → Int) (s s1 : St) : Prop where
  top : f s.2.length = s1.2.length
  sum : s1.2.length + s1.1.length ≤ s.2.length + s.1.length
  up : s.2.length ≤ s1.2.length
  uq : Uq s.2 → Uq s1.2
abbrev Small (s : St) : Prop := s.2.length + s.1.length ≤ 100000
def Nq {α : Type} (g : α → Int → Int) (x : Res α) (s : St) : Prop := ∀ v s1, x = .ok (v, s1) → Small s → Nb (g v) s s1
abbrev Nw (w : W) : Prop := ∀ most s, Nq topT (w most s) s
theorem Nb.refl (s : St) : Nb id s s := ⟨rfl, Nat.le_refl _, Nat.le_refl _, id⟩
theorem Nb.comp {f g : Int → Int} {s s1 s2 : St} (h : Nb f s s1) (k : Nb g s1 s2) : Nb (fun n => g (f n)) s s2 :=
  ⟨by show g (f _) = _; rw [h.top, k.top], Nat.le_trans k.sum h.sum, Nat.le_trans h.up k.up, fun u => k.uq (h.uq u)⟩
theorem Nb.as {f g : Int → Int} {s s1 : St} (h : Nb f s s1) (e : ∀ n, f n = g n) : Nb g s s1 := ⟨by rw [← e]; exact h.top, h.sum, h.up, h.uq⟩
theorem Nb.small {f : Int → Int} {s s1 : St} (h : Nb f s s1) (hs : Small s) : Small s1 := Nat.le_trans h.sum hs
theorem tail_len' (l : List K) : l.tail.length ≤ l.length := by simp
theorem Nb.tail (s : St) : Nb id s (s.1.tail, s.2) := ⟨rfl, by have := tail_len' s.1; show s.2.length + s.1.tail.length ≤ _; omega, Nat.le_refl _, id⟩
theorem expect_nb {m : List UInt8} {s s1 : St} (h : expectP m s = .ok s1) : Nb id s s1 := by
  unfold expectP at h
  split at h
  · cases h; exact Nb.tail s
  · cases h
section
variable {w : W}
theorem loop_nb (hw : Nw w) (most : Int) : ∀ (f : Nat) (t : T) (q : Int) (s0 s s1 : St) (v : T), Small s0 → Nb (topT t) s0 s → loopP w most f t q s = .ok (v, s1) → Nb (topT v) s0 s1 := by
  intro f
  induction f with
  | zero => intro t q s0 s s1 v _ hn h; rw [loopP] at h; cases h; exact hn
  | succ f ih =>
    intro t q s0 s s1 v hs hn h
    rw [loopP] at h
    split at h
    · cases h; exact hn
    · cases hx : w (infixK (nx s.1)).2.2.1 (s.1.tail, s.2) with
      | error k => rw [hx] at h; cases h
      | ok us =>
        obtain ⟨u, s2⟩ := us
        rw [hx] at h
        have h2 := hn.comp (Nb.tail s)
        exact ih _ _ s0 s2 s1 v hs ((h2.comp (hw _ _ u s2 hx (h2.small hs))).as fun n => by rw [topT_cmp, topL_two]; rfl) h
theorem rowGo_nb (hw : Nw w) : ∀ (f : Nat) (l : List T) (s0 s s1 : St) (v : List T), Small s0 → Nb (topL l) s0 s → rowGo w f l s = .ok (v, s1) → Nb (topL v) s0 s1 := by
  intro f
  induction f with
  | zero => intro l s0 s s1 v _ hn h; rw [rowGo] at h; cases h; exact hn
  | succ f ih =>
    intro l s0 s s1 v hs hn h
    rw [rowGo] at h
    split at h
    · cases hx : w 999 (s.1.tail, s.2) with
      | error k => rw [hx] at h; cases h
      | ok us =>
        obtain ⟨u, s2⟩ := us
        rw [hx] at h
        have h2 := hn.comp (Nb.tail s)
        exact ih _ s0 s2 s1 v hs ((h2.comp (hw _ _ u s2 hx (h2.small hs))).as fun n => by rw [topL_app, topL_one]; rfl) h
    · cases h; exact hn
theorem row_nb (hw : Nw w) (s : St) : Nq topL (rowP w s) s := by
  intro v s1 h hs
  unfold rowP at h
  cases hx : w 999 s with
  | error k => rw [hx] at h; cases h
  | ok us =>
    obtain ⟨u, s2⟩ := us
    rw [hx] at h
    exact rowGo_nb hw _ _ s s2 s1 v hs ((hw _ _ u s2 hx hs).as fun n => by rw [topL_one]) h
theorem bracket_nb (hw : Nw w) (m : List UInt8) (s : St) : Nq topT (bracketP w m s) s := by
  intro v s1 h hs
  unfold bracketP at h
  cases hx : w 1200 s with
  | error k => rw [hx] at h; cases h
  | ok us =>
    obtain ⟨u, s2⟩ := us
    rw [hx] at h
    dsimp only at h
    cases he : expectP m s2 with
    | error k => rw [he] at h; cases h
    | ok s3 =>
      rw [he] at h
      cases h
      exact ((hw _ _ _ s2 hx hs).comp (expect_nb he)).as fun n => rfl
theorem atom_nb {s : St} (x : List UInt8) : Nb (topT (.leaf 3 0 x)) s (s.1.tail, s.2) := (Nb.tail s).as fun n => (top_leaf (by decide) 0 x n).symm
theorem list_nb (hw : Nw w) (s : St) : Nq topT (listP w s) s := by
  intro v s1 h hs
  unfold listP at h
  split at h
  · cases h; exact atom_nb _
  · cases hr : rowP w s with
    | error k => rw [hr] at h; cases h
    | ok ls =>
      obtain ⟨l, s2⟩ := ls
      rw [hr] at h
      dsimp only at h
      have h2 := row_nb hw s l s2 hr hs
      cases hr2 : (if isM (nx s2.1) [124] = true then w 999 (s2.1.tail, s2.2) else .ok (nilT, s2) : Res T) with
      | error k => rw [hr2] at h; cases h
      | ok rs =>
        obtain ⟨r, s3⟩ := rs
        rw [hr2] at h
        dsimp only at h
        have h3 : Nb (topT r) s2 s3 := by
          split at hr2
          · have := (Nb.tail s2).comp (hw _ _ r s3 hr2 ((Nb.tail s2).small (h2.small hs)))
            exact this.as fun n => rfl
          · cases hr2; exact (Nb.refl s2).as fun n => (top_leaf (by decide) 0 _ n).symm
        cases he : expectP [93] s3 with
        | error k => rw [he] at h; cases h
        | ok s4 =>
          rw [he] at h
          cases h
          exact ((h2.comp h3).comp (expect_nb he)).as fun n => by rw [top_cons]; rfl
theorem marked_nb (hw : Nw w) (s : St) : Nq topT (markedP w s) s := by
  intro v s1 h hs
  have ht := Nb.tail s
  unfold markedP at h
  split at h
  · exact (ht.comp (bracket_nb hw _ _ v s1 h (ht.small hs))).as fun n => rfl
  split at h
  · exact (ht.comp (list_nb hw _ v s1 h (ht.small hs))).as fun n => rfl
  split at h
  · split at h
    · cases h; exact (ht.comp (atom_nb (s := (s.1.tail, s.2)) _)).as fun n => rfl
    · cases hb : bracketP w [125] (s.1.tail, s.2) with
      | error k => rw [hb] at h; cases h
      | ok us =>
        obtain ⟨u, s2⟩ := us
        rw [hb] at h
        have := ht.comp (bracket_nb hw _ _ u s2 hb (ht.small hs))
        cases h
        exact this.as fun n => by rw [topT_cmp, topL_one]; rfl
  · cases h
theorem zero_nb {x : Res T} {s : St} (h : Nq topT x s) : Nq (fun v => topT v.1) (zeroP x) s := by
  intro v s1 hx hs
  unfold zeroP at hx
  cases x with
  | error k => cases hx
  | ok us => obtain ⟨u, s2⟩ := us; have := h u s2 rfl hs; cases hx; exact this
theorem int_nb (g : List UInt8) (s : St) : Nq topT (intP g s) s := by
  intro v s1 h hs
  unfold intP at h
  dsimp only at h
  split at h
  · cases h; exact (Nb.tail s).as fun n => (top_leaf (by decide) _ _ n).symm
  split at h
  · cases h; exact (Nb.tail s).as fun n => (top_leaf (by decide) _ _ n).symm
  · cases h
theorem named_nb (hw : Nw w) (most : Int) (s : St) : Nq (fun v => topT v.1) (namedP w most s) s := by
  intro v s1 h hs
  have ht := Nb.tail s
  have htt := Nb.tail (s.1.tail, s.2)
  unfold namedP at h
  dsimp only at h
  split at h
  · cases hr : rowP w (s.1.tail.tail, s.2) with
    | error k => rw [hr] at h; cases h
    | ok ls =>
      obtain ⟨l, s2⟩ := ls
      rw [hr] at h
      dsimp only at h
      have h2 := ht.comp (htt.comp (row_nb hw (s.1.tail.tail, s.2) l s2 hr (htt.small (ht.small hs))))
      cases he : expectP [41] s2 with
      | error k => rw [he] at h; cases h
      | ok s3 =>
        rw [he] at h
        cases h
        exact (h2.comp (expect_nb he)).as fun n => by show topL l n = topT (.cmp _ l) n; rw [topT_cmp]
  split at h
  · exact (ht.comp (zero_nb (int_nb [45] _) v s1 h (ht.small hs))).as fun n => rfl
  split at h
  · cases hr : w (progP (nx s.1).text).2.1 (s.1.tail, s.2) with
    | error k => rw [hr] at h; cases h
    | ok ls =>
      obtain ⟨l, s2⟩ := ls
      rw [hr] at h
      have := ht.comp (hw _ _ l s2 hr (ht.small hs))
      cases h
      exact this.as fun n => by show topT l n = topT (.cmp _ [l]) n; rw [topT_cmp, topL_one]
  · cases h; exact atom_nb _
theorem varP_nb (s : St) (hs : Small s) (hne : s.1 ≠ []) : Nb (topT (varP s).1) s (varP s).2 := by
  have l1 : s.1.tail.length + 1 = s.1.length := by cases hc : s.1 with | nil => exact absurd hc hne | cons => simp
  unfold varP
  dsimp only
  generalize hnm : (nx s.1).text = name
  split
  · rename_i hc
    refine ⟨?_, ?_, ?_, fun hu => ?_⟩
    · rw [topT]
      have hw : IntKind.i64.wrap ((s.2.length : Int) + 1) = (s.2.length : Int) + 1 := IntWalk.i64_in _ (by omega)
      rw [if_neg (by omega), if_pos rfl, if_neg (by omega), hw]
      simp; omega
    · simp; omega
    · simp
    · intro i j hji hi he
      rw [List.length_append, List.length_singleton] at hi
      have hj : (s.2 ++ [name]).getD j [] = s.2.getD j [] := by
        simp only [List.getD_eq_getElem?_getD]; rw [List.getElem?_append_left (by omega)]
      rw [hj] at he
      by_cases hil : i < s.2.length
      · have hi2 : (s.2 ++ [name]).getD i [] = s.2.getD i [] := by
          simp only [List.getD_eq_getElem?_getD]; rw [List.getElem?_append_left hil]
        rw [hi2] at he ⊢
        exact hu i j hji hil he
      · have hie : i = s.2.length := by omega
        subst hie
        have hi2 : (s.2 ++ [name]).getD s.2.length [] = name := by simp
        rw [hi2] at he ⊢
        rcases hc with hc | hc
        · exfalso
          have hm : name ∈ s.2 := by rw [← he]; rw [show s.2.getD j [] = s.2[j] by simp [hji]]; exact List.getElem_mem hji
          have := List.idxOf_lt_length_of_mem hm
          omega
        · exact hc
  · rename_i hc
    simp only [not_or] at hc
    have hle := List.idxOf_le_length (a := name) (l := s.2)
    refine ⟨?_, by show s.2.length + s.1.tail.length ≤ _; omega, Nat.le_refl _, id⟩
    rw [topT]
    have hw : IntKind.i64.wrap (((s.2.idxOf name : Nat) : Int) + 1) = ((s.2.idxOf name : Nat) : Int) + 1 := IntWalk.i64_in _ (by omega)
    rw [if_neg (by omega), if_pos rfl, if_neg (by omega), hw]
    have := hc.1
    show max _ _ = ((s.2.length : Nat) : Int)
    omega
theorem operand_nb (hw : Nw w) (most : Int) (s : St) : Nq (fun v => topT v.1) (operandP w most s) s := by
  intro v s1 h hs
  unfold operandP at h
  dsimp only at h
  split at h
  · exact named_nb hw most s v s1 h hs
  split at h
  · rename_i hk
    cases h
    exact varP_nb s hs fun e => by rw [e] at hk; exact absurd hk (by decide)
  split at h
  · exact zero_nb (int_nb [] s) v s1 h hs
  split at h
  · have ht := Nb.tail s
    exact (ht.comp (zero_nb (bracket_nb hw [41] _) v s1 h (ht.small hs))).as fun n => rfl
  · exact zero_nb (marked_nb hw s) v s1 h hs
end
theorem term_nb : ∀ d, Nw (termP d) := by
  intro d
  induction d with
  | zero => intro most s v s1 h; cases h
  | succ d ih =>
    intro most s v s1 h hs
    have e1 : termP (d + 1) most s = match operandP (termP d) most s with | .error e => .error e | .ok ((t, prio), s') => loopP (termP d) most s'.1.length t prio s' := rfl
    rw [e1] at h
    cases ho : operandP (termP d) most s with
    | error k => rw [ho] at h; cases h
    | ok us =>
      obtain ⟨⟨u, q⟩, s2⟩ := us
      rw [ho] at h
      exact loop_nb ih most _ u q s s2 s1 v hs (operand_nb ih most s _ s2 ho hs) h
/-- a sentence's variables -/
theorem sent_nb {l r : List K} {x : T × List (List UInt8)} (hl : l.length ≤ 100000) (h : sentP l = .ok (x, r)) : topT x.1 0 = x.2.length ∧ Uq x.2 ∧ x.2.length ≤ 100000 ∧ r.length ≤ l.length := by
  unfold sentP at h
  cases hx : termP 65 1200 (l, []) with
  | error k => rw [hx] at h; cases h
  | ok ts =>
    obtain ⟨t, s⟩ := ts
    rw [hx] at h
    dsimp only at h
    split at h
    · have hn := term_nb 65 1200 (l, []) t s hx (by show ([] : List (List UInt8)).length + l.length ≤ 100000; simpa using hl)
      have hsum := hn.sum
      simp at hsum
      cases h
      exact ⟨hn.top, hn.uq (fun i j _ hi => absurd hi (by simp)), by dsimp only; omega, by have := tail_len' s.1; omega⟩
    · cases h
theorem sents_nb : ∀ (f : Nat) (l : List K) (v : List (T × List (List UInt8))), l.length ≤ 100000 → sentsP f l = .ok v → ∀ x ∈ v, topT x.1 0 = x.2.length ∧ Uq x.2 ∧ x.2.length ≤ 100000 := by
  intro f
  induction f with
  | zero => intro l v _ h; rw [sentsP] at h; cases h; intro x hx; cases hx
  | succ f ih =>
    intro l v hl h
    rw [sentsP] at h
    split at h
    · cases h; intro x hx; cases hx
    · cases hs : sentP l with
      | error k => rw [hs] at h; cases h
      | ok xr =>
        obtain ⟨x, r⟩ := xr
        rw [hs] at h
        dsimp only at h
        obtain ⟨h1, h2, h3, h4⟩ := sent_nb hl hs
        cases hr : sentsP f r with
        | error k => rw [hr] at h; cases h
        | ok xs =>
          rw [hr] at h
          cases h
          intro y hy
          rcases List.mem_cons.1 hy with rfl | hy
          · exact ⟨h1, h2, h3⟩
          · exact ih r xs (by omega) hr y hy
end Go.Proofs.YtcdmmcogegnieaaGreatDoor.rd
end
section
/- ReadNames: its walk. -/
namespace Go.Proofs.YtcdmmcogegnieaaGreatDoor.ls
open Go.RowKit
open Go.Proofs.YtcdmmcogegnieaaGreatDoor.rd
open Go.Proofs.YtcdmmcogegnieaaGreatDoor.rr
open Go.Proofs.YtcdmmcogegnieaaGreatDoor.op (bs strC Both)
open Go.Proofs.YtcdmmcogegnieaaGreatDoor.lx (cell_at ieq_yes ieq_no GM toksD outToks_len)
set_option maxRecDepth 20000

theorem read_nb (l : List UInt8) {v : List Sn} (h : readP (toksD l) = .ok v) : ∀ x ∈ v, topT x.1 0 = x.2.length ∧ Uq x.2 ∧ x.2.length ≤ 100000 := by
  have hl := outToks_len l
  cases ho : toksD l with
  | bad p e => rw [ho] at h; cases h
  | ok ts =>
    rw [ho] at h hl
    refine sents_nb _ (ab ts) v ?_ h
    rw [ab_len]
    have : ts.length ≤ 1000 := hl
    omega
set_option maxHeartbeats 4000000 in
theorem names_w (s : ByteArray) (w : World) (hz : s.size ≤ 9223372036854775807) (hb : Both w) (hg : GM w) :
    Calls Tryz.prog 8 #[.string s] w fun e w' => e = .returned (.bool true) ∧ Below w.heap.size w w' := by
  by_cases hbig : s.size > 4096
  · clear hg hb
    go_enter Tryz.func8, Tryz.ntmps8
    go_wp2
    go_ret
    exact ⟨rfl, Below.refl _ _⟩
  have hb1 : s.size ≤ 4096 := by omega
  have hp := lx.heap_pos hg
  have k1 := read_c s w hb hg hz
  have k2 := fun w hb hp => rread_c s w hb hp hz
  have hnb := fun v h => read_nb s.data.toList (v := v) h
  have HB := Lib.hid hb
  generalize readP (toksD s.data.toList) = X at *
  have K2 := Lib.hid k2
  have HN := Lib.hid hnb
  clear hg hb k2 hz hnb
  go_enter Tryz.func8, Tryz.ntmps8
  go_wp2_with fail
  refine k1.mono ?_
  clear k1
  rcases X with k | l
  · rintro e w1 ⟨p, rfl, hb1'⟩
    have k2 := K2.out w1 (HB.out.kept hb1') (by have := hb1'.size; omega)
    have HB1 := Lib.hid hb1'
    have e1 : ((k : Int) != (k : Int)) = false := by simp
    clear hb1' K2
    go_wp2_with fail
    refine k2.mono ?_
    rintro e w2 ⟨p2, rfl, hb2⟩
    have HB2 := Lib.hid (HB1.out.trans (hb2.mono HB1.out.size))
    clear hb2 k2
    go_wp2
    go_loopg [9] 0 (fun k v wr => k = 0 ∧ v = .int .i64 0 ∧ Hid (Below w.heap.size w wr))
    case atStart => exact ⟨rfl, rfl, HB2⟩
    case round =>
      obtain ⟨_, rfl, HW⟩ := hrel
      go_wp2
      go_ret
      exact ⟨rfl, HW.out⟩
  · rintro e w1 ⟨v, rfl, hs, hb1'⟩
    have k2 := K2.out w1 (HB.out.kept hb1') (by have := hb1'.size; omega)
    have HB1 := Lib.hid hb1'
    have HS := Lib.hid hs
    have hN := ss_len hs
    unfold maxLen at hN
    obtain ⟨pa, ca, rfl⟩ := hs.shape
    clear hb1' K2 hs
    go_wp2_with fail
    refine k2.mono ?_
    rintro e w2 ⟨v2, rfl, _, hb2⟩
    have HB2 := Lib.hid (HB1.out.trans (hb2.mono HB1.out.size))
    have hss := HS.out.stay hb2
    have HA := Lib.hid (fun i hi => ss_el hss (i := i) hi)
    obtain ⟨pb, cb, rfl⟩ : ∃ pb cb, v2 = .slice pb l.length cb := by rename_i h; exact h.shape
    clear hb2 k2 HS hss
    have HN2 := Lib.hid (HN.out l rfl)
    clear HN
    go_wp2
    go_loopg [9] l.length (fun k v wr => ∃ i : Nat, k = l.length - i ∧ i ≤ l.length ∧ v = .int .i64 i ∧ Hid (Below w2.heap.size w2 wr))
    case atStart => exact ⟨0, by omega, by omega, rfl, Lib.hid (Below.refl _ _)⟩
    case round =>
      obtain ⟨i, hgk, hi, rfl, HW⟩ := hrel
      by_cases hlt : i < l.length
      · have hlt2 : (i : Int) < l.length := by omega
        have i4 : (0 : Int) ≤ (i : Int) := by omega
        obtain ⟨g, cap, p, m, c, q, cq, hv, hcap, hgl, hE⟩ := HA.out i hlt
        obtain ⟨rfl, rfl⟩ : pa = some ⟨g, 0, none⟩ ∧ ca = cap := by simp at hv; exact hv
        have hG := hE.stay hgl HW.out
        obtain ⟨hx1, hx2, hx3⟩ := HN2.out (l.getD i dfS) (by rw [show l.getD i dfS = l[i] by simp [hlt]]; exact List.getElem_mem hlt)
        generalize l.getD i dfS = x at *
        have kx := top_all x.1 0 (.slice p m c) wr hG.tm
        rw [hx1] at kx
        have hg1 : g < wr.heap.size := Nat.lt_of_lt_of_le hgl HW.out.size
        have HG := Lib.hid hG
        have d0 := hG.c0
        have d1 := hG.c1
        have d2 := hG.c2
        have d3 := hG.c3
        have e5 : ((x.2.length : Int) != (x.2.length : Int)) = false := by simp
        have HU := Lib.hid hx2
        unfold tV at kx
        clear hE hG hv hx1 hx2 HA HN2
        go_wp2_with fail
        refine kx.mono ?_
        rintro en w3 ⟨rfl, hb3⟩
        have hG3 := HG.out.stay hg1 hb3
        have hg3 : g < w3.heap.size := Nat.lt_of_lt_of_le hg1 hb3.size
        have HG3 := Lib.hid hG3
        have d4 := hG3.c4
        have HW3 := Lib.hid (HW.out.trans (hb3.mono HW.out.size))
        clear hb3 kx hG3 HG HW hg1 hgl d0 d1 d2 d3
        go_wp2
        clear d4
        go_loopg [11] x.2.length (fun k v wq => ∃ j : Nat, k = x.2.length - j ∧ j ≤ x.2.length ∧ v = .int .i64 j ∧ Hid (Below w3.heap.size w3 wq))
        case atStart => exact ⟨0, by omega, by omega, rfl, Lib.hid (Below.refl _ _)⟩
        case round =>
          obtain ⟨j, hgj, hj, rfl, HQ⟩ := hrel
          have hS := HG3.out.stay hg3 HQ.out
          have d4 := hS.c4
          by_cases hjl : j < x.2.length
          · have hjl2 : (j : Int) < x.2.length := by omega
            have j4 : (0 : Int) ≤ (j : Int) := by omega
            have hg4 : g < wr.heap.size := Nat.lt_of_lt_of_le hg3 HQ.out.size
            have HS := Lib.hid hS
            obtain ⟨gq, hqe, hq1, hq2, hq3⟩ := hS.nm j hjl
            subst hqe
            clear hS
            go_wp2
            go_loopg [12] j (fun k v wp => ∃ m : Nat, k = j - m ∧ m ≤ j ∧ v = .int .i64 m ∧ Hid (Below wr.heap.size wr wp))
            case atStart => exact ⟨0, by omega, by omega, rfl, Lib.hid (Below.refl _ _)⟩
            case round =>
              obtain ⟨mm, hgm, hm, rfl, HP⟩ := hrel
              have hS := HS.out.stay hg4 HP.out
              have d5 := hS.c4
              by_cases hml : mm < j
              · have hml2 : (mm : Int) < (j : Int) := by omega
                have hml3 : (mm : Int) < x.2.length := by omega
                have m4 : (0 : Int) ≤ (mm : Int) := by omega
                obtain ⟨gq', hqe', hq1', hq2', hq3'⟩ := hS.nm mm (by omega)
                obtain ⟨_, hqe2, _, _, hq4⟩ := hS.nm j hjl
                obtain rfl : gq = gq' := by simpa using hqe'
                obtain rfl : gq = _ := by simpa using hqe2
                have hu := HU.out j mm hml hjl
                clear hqe' hqe2 hS
                by_cases he : x.2.getD mm [] = x.2.getD j []
                · have h95 := hu he
                  rw [he, h95] at hq3'
                  rw [h95] at hq4
                  clear hu he h95
                  rw [show bs [95] = ⟨#[95]⟩ from rfl] at hq3' hq4
                  go_wp2
                  go_quiet (fail)
                  go_wp2
                  go_roundg (j - (mm + 1))
                  case measure => omega
                  case rel => exact ⟨mm + 1, rfl, by omega, by go_num, Lib.hid (HP.out.trans (below_drawn ..))⟩
                · have hne : (x.2.getD mm [] == x.2.getD j []) = false := by simpa using he
                  have hne2 : ((bs (x.2.getD mm [])).toList == (bs (x.2.getD j [])).toList) = false := by rw [ByteArray.toList_eq, ByteArray.toList_eq]; simpa [bs] using he
                  clear hu he
                  generalize bs (x.2.getD mm []) = z1 at *
                  generalize bs (x.2.getD j []) = z2 at *
                  clear hne
                  go_wp2
                  go_quiet (fail)
                  go_wp2
                  go_roundg (j - (mm + 1))
                  case measure => omega
                  case rel => exact ⟨mm + 1, rfl, by omega, by go_num, Lib.hid (HP.out.trans (below_drawn ..))⟩
              · have hml2 : ¬ ((mm : Int) < (j : Int)) := by omega
                clear hS
                go_wp2
                go_roundg (x.2.length - (j + 1))
                case measure => omega
                case rel => exact ⟨j + 1, rfl, by omega, by go_num, Lib.hid (HQ.out.trans (HP.out.mono HQ.out.size))⟩
          · have hjl2 : ¬ ((j : Int) < x.2.length) := by omega
            clear hS
            go_wp2
            go_roundg (l.length - (i + 1))
            case measure => omega
            case rel => exact ⟨i + 1, rfl, by omega, by go_num, Lib.hid (HW3.out.trans (HQ.out.mono HW3.out.size))⟩
      · have hlt2 : ¬ ((i : Int) < l.length) := by omega
        go_wp2
        go_ret
        exact ⟨rfl, HB2.out.trans (HW.out.mono HB2.out.size)⟩
end Go.Proofs.YtcdmmcogegnieaaGreatDoor.ls
end
section
/- Texts behind tokens that open nothing: shifts. Plain lists. -/
namespace Go.Proofs.YtcdmmcogegnieaaGreatDoor.lx

/-- the last token of T, an atom, ends ahead of d -/
def Ahead2 (T : List Tok) (d : Nat) : Prop := ∀ t, T.getLast? = some t → t.kind = 1 → t.to < d
theorem opens_shift2 {T : List Tok} {d : Nat} (h : Ahead2 T d) (ts : List Tok) (n : Nat) : opens (T ++ ts.map (shT d)) (n + d) = opens ts n := by
  unfold opens
  rcases ts.eq_nil_or_concat with rfl | ⟨l, t, rfl⟩
  · simp only [List.map_nil, List.append_nil, List.getLast?_nil]
    cases hT : T.getLast? with
    | none => rfl
    | some t =>
      have := h t hT
      by_cases hk : t.kind = 1
      · have h2 := this hk
        have e : (t.to == n + d) = false := by simp; omega
        simp [e]
      · have e : (t.kind == 1) = false := by simpa using hk
        simp [e]
  · rw [List.concat_eq_append, List.map_append, ← List.append_assoc]
    simp only [List.map_cons, List.map_nil, List.getLast?_append, List.getLast?_singleton, Option.some_or]
    show ((shT d t).kind == 1 && (shT d t).to == n + d) = (t.kind == 1 && t.to == n)
    simp only [shT]
    congr 1
    rw [Bool.eq_iff_iff]; simp
theorem opening_shift2 {T : List Tok} {d : Nat} (h : Ahead2 T d) (ts : List Tok) (n : Nat) (b : UInt8) : opening (T ++ ts.map (shT d)) (n + d) b = shR T d (opening ts n b) := by
  unfold opening
  rw [opens_shift2 h]
  by_cases h6 : cl b = 6
  · rw [if_pos h6, if_pos h6]; rfl
  rw [if_neg h6, if_neg h6]
  by_cases h7 : cl b = 7
  · rw [if_pos h7, if_pos h7]; simp [shR, shM, shT]; omega
  rw [if_neg h7, if_neg h7]
  by_cases h8 : cl b = 8
  · rw [if_pos h8, if_pos h8]; simp [shR, shM, shT]; omega
  rw [if_neg h8, if_neg h8]
  by_cases h46 : b = 46
  · rw [if_pos h46, if_pos h46]; rfl
  rw [if_neg h46, if_neg h46]; rfl
theorem start_shift2 {T : List Tok} {d M : Nat} (h : Ahead2 T d) (hM : T.length ≤ M) (ts : List Tok) (n : Nat) (b : UInt8) : start M (T ++ ts.map (shT d)) (n + d) b = shR T d (start (M - T.length) ts n b) := by
  unfold start
  rw [opening_shift2 h]
  by_cases h1 : cl b = 1
  · rw [if_pos h1, if_pos h1]; rfl
  rw [if_neg h1, if_neg h1]
  by_cases h2 : b = 37
  · rw [if_pos h2, if_pos h2]; rfl
  rw [if_neg h2, if_neg h2]
  by_cases h3 : b = 47
  · rw [if_pos h3, if_pos h3]; rfl
  rw [if_neg h3, if_neg h3]
  by_cases h0 : cl b = 0
  · rw [if_pos h0, if_pos h0]; rfl
  rw [if_neg h0, if_neg h0]
  by_cases hl : ts.length = M - T.length
  · rw [if_pos ((len_shift T ts d M hM).2 hl), if_pos hl]; rfl
  rw [if_neg (mt (len_shift T ts d M hM).1 hl), if_neg hl]
theorem step_shift2 {T : List Tok} {d M : Nat} (h : Ahead2 T d) (hM : T.length ≤ M) (ts : List Tok) (n : Nat) (b : UInt8) (m : Mode) (hm : At n m) :
    step M (T ++ ts.map (shT d)) (n + d) b (shM d m) = shR T d (step (M - T.length) ts n b m) := by
  have key : ∀ (t : Tok), start M (T ++ ts.map (shT d) ++ [⟨t.kind, t.text, t.frm + d, t.to + d⟩]) (n + d) b = shR T d (start (M - T.length) (ts ++ [t]) n b) := fun t => by
    have := start_shift2 h hM (ts ++ [t]) n b
    rwa [← snoc_shift] at this
  cases m with
  | btw => exact start_shift2 h hM ts n b
  | line => simp only [shM, step]; split <;> rfl
  | slash f =>
    simp only [shM, step]
    by_cases h1 : b = 42
    · rw [if_pos h1, if_pos h1]; rfl
    rw [if_neg h1, if_neg h1]
    by_cases hl : ts.length = M - T.length
    · rw [if_pos ((len_shift T ts d M hM).2 hl), if_pos hl]; rfl
    rw [if_neg (mt (len_shift T ts d M hM).1 hl), if_neg hl]
    by_cases h5 : cl b = 5
    · rw [if_pos h5, if_pos h5]; rfl
    rw [if_neg h5, if_neg h5]; exact key ⟨1, [47], f, n⟩
  | dot f =>
    simp only [shM, step]
    by_cases h5 : cl b = 5
    · rw [if_pos h5, if_pos h5]; rfl
    rw [if_neg h5, if_neg h5]; exact key ⟨_, [46], f, n⟩
  | rem f => simp only [shM, step]; split <;> rfl
  | star f =>
    simp only [shM, step]
    split
    · rfl
    · split <;> rfl
  | word c f acc =>
    simp only [shM, step]
    split
    · rfl
    · exact key ⟨_, acc, f, n⟩
  | quo f acc =>
    simp only [shM, step]
    split
    · rfl
    · split
      · rfl
      · split <;> rfl
  | quoq f acc =>
    simp only [shM, step]
    split
    · rfl
    · exact key ⟨1, acc, f, n⟩
  | esc f acc =>
    have h1 : 1 ≤ n := hm
    simp only [shM, step]
    split
    · rfl
    · split
      · rfl
      · split
        · rfl
        · simp only [shR]; congr 1; omega
theorem ans_shift2 {T : List Tok} {d M : Nat} (h : Ahead2 T d) (hM : T.length ≤ M) : ∀ (l : List UInt8) (ts : List Tok) (n : Nat) (m : Mode), At n m →
    ans M l (T ++ ts.map (shT d)) (n + d) (shM d m) = shO T d (ans (M - T.length) l ts n m) := by
  intro l
  induction l with
  | nil => intro ts n m _; exact fin_shift hM ts n m
  | cons b l ih =>
    intro ts n m hm
    rw [ans_cons, ans_cons, step_shift2 h hM ts n b m hm]
    cases hs : step (M - T.length) ts n b m with
    | go ts' m' =>
      simp only [shR]
      rw [show n + d + 1 = n + 1 + d from by omega]
      exact ih ts' (n + 1) m' (by cases m' <;> simp [At])
    | bad p e => rfl


theorem sh_ok {T c : List Tok} {d : Nat} {o : Out} (h : shO T d o = .ok c) : ∃ b, o = .ok b ∧ c = T ++ b.map (shT d) := by
  cases o with
  | ok b => cases h; exact ⟨b, rfl, rfl⟩
  | bad p e => cases h
end Go.Proofs.YtcdmmcogegnieaaGreatDoor.lx
end
section
/- Tokens as the reader sees them: one row behind another; a text's one sentence. Plain lists. -/
namespace Go.Proofs.YtcdmmcogegnieaaGreatDoor.rd
open Go.Proofs.YtcdmmcogegnieaaGreatDoor.lx (Tok Out toks toksD shT shT)

/-- tokens as the reader sees them ahead of the token e -/
def abw : List Tok → Tok → List K
  | [], _ => []
  | [a], e => [⟨a.kind, a.text, nearB a e⟩]
  | a :: b :: l, e => ⟨a.kind, a.text, nearB a b⟩ :: abw (b :: l) e
theorem ab_app (l : List Tok) (e : Tok) (r : List Tok) : ab (l ++ e :: r) = abw l e ++ ab (e :: r) := by
  induction l with
  | nil => rfl
  | cons a l ih =>
    cases l with
    | nil => rfl
    | cons b l =>
      show (⟨a.kind, a.text, nearB a b⟩ : K) :: ab (b :: l ++ e :: r) = (⟨a.kind, a.text, nearB a b⟩ :: abw (b :: l) e) ++ ab (e :: r)
      rw [ih]; rfl
theorem near_sh (d : Nat) (a b : Tok) : nearB (shT d a) (shT d b) = nearB a b := by
  show (a.kind == 1 && b.frm + d == a.to + d) = (a.kind == 1 && b.frm == a.to)
  congr 1
  rw [Bool.eq_iff_iff]; simp
theorem abw_sh (d : Nat) (l : List Tok) (e : Tok) : abw (l.map (shT d)) (shT d e) = abw l e := by
  induction l with
  | nil => rfl
  | cons a l ih =>
    cases l with
    | nil => show [(⟨a.kind, a.text, nearB (shT d a) (shT d e)⟩ : K)] = _; rw [near_sh]; rfl
    | cons b l =>
      show (⟨a.kind, a.text, nearB (shT d a) (shT d b)⟩ : K) :: abw ((b :: l).map (shT d)) (shT d e) = ⟨a.kind, a.text, nearB a b⟩ :: abw (b :: l) e
      rw [ih, near_sh]
theorem ab_sh (d : Nat) (l : List Tok) : ab (l.map (shT d)) = ab l := by
  rcases l.eq_nil_or_concat with rfl | ⟨r, t, rfl⟩
  · rfl
  · rw [List.concat_eq_append, List.map_append]
    show ab (r.map (shT d) ++ shT d t :: []) = ab (r ++ t :: [])
    rw [ab_app, ab_app, abw_sh]; rfl
theorem near_no {a b : Tok} (h : a.kind ≠ 1) : nearB a b = false := by unfold nearB; simp [h]
/-- behind a token that is no atom -/
theorem ab_cut {l r : List Tok} {e : Tok} (he : e.kind ≠ 1) : ab (l ++ [e] ++ r) = ab (l ++ [e]) ++ ab r := by
  rw [List.append_assoc]
  show ab (l ++ e :: r) = ab (l ++ e :: []) ++ ab r
  rw [ab_app, ab_app]
  cases r with
  | nil => rw [List.append_assoc]; rfl
  | cons b r =>
    show abw l e ++ (⟨e.kind, e.text, nearB e b⟩ :: ab (b :: r)) = abw l e ++ [⟨e.kind, e.text, false⟩] ++ ab (b :: r)
    rw [near_no he]; simp

/-! ### sentences -/
theorem term_suffix {d : Nat} {most : Int} {l l' : List K} {n n' : List (List UInt8)} {t : T} (h : termP d most (l, n) = .ok (t, (l', n'))) : ∃ X, l = X ++ l' := by
  have hS : Sim (fun s s' : St => s = s' ∧ ∃ X, l = X ++ s.1) := ⟨fun h => by rw [h.1], fun ⟨h, X, hX⟩ n => ⟨by rw [h], X, hX⟩, fun {s s'} ⟨h, X, hX⟩ => .inl (by
    subst h
    refine ⟨rfl, rfl, ?_⟩
    cases hs : s.1 with
    | nil => rw [hs] at hX; exact ⟨X, hX⟩
    | cons a r => rw [hs] at hX; exact ⟨X ++ [a], by rw [hX]; simp⟩)⟩
  obtain ⟨s1', _, ⟨_, X, hX⟩, _⟩ := term_sim hS d d (Nat.le_refl _) most (l, n) (l, n) ⟨rfl, [], rfl⟩ t _ h
  exact ⟨X, hX⟩
theorem sent_parts {l r : List K} {x : Sn} (h : sentP l = .ok (x, r)) : ∃ X k, l = X ++ k :: r ∧ k.kind = 6 ∧ termP 65 1200 (X ++ k :: r, []) = .ok (x.1, (k :: r, x.2)) := by
  unfold sentP at h
  cases hx : termP 65 1200 (l, []) with
  | error k => rw [hx] at h; cases h
  | ok ts =>
    obtain ⟨t, ⟨s, n⟩⟩ := ts
    rw [hx] at h
    dsimp only at h
    split at h
    · rename_i hk
      cases h
      cases s with
      | nil => exact absurd hk (by decide)
      | cons k r =>
        obtain ⟨X, rfl⟩ := term_suffix hx
        exact ⟨X, k, rfl, hk, hx⟩
    · cases h
theorem sent_more {l r : List K} {x : Sn} (h : sentP l = .ok (x, r)) (Y : List K) : sentP (l ++ Y) = .ok (x, r ++ Y) ∧ r.length < l.length := by
  obtain ⟨X, k, rfl, hk, ht⟩ := sent_parts h
  have h1 : (nx (k :: r)).kind = 6 := hk
  have h2 : dull (nx (k :: (r ++ Y))) := .inl hk
  have := term_ctx (X' := []) h1 h2 ht
  refine ⟨?_, by simp; omega⟩
  unfold sentP
  rw [show X ++ k :: r ++ Y = X ++ k :: (r ++ Y) by simp, this]
  show (if k.kind = 6 then _ else _) = _
  rw [if_pos hk]; rfl
theorem sents_more {Y : List K} {b : List Sn} : ∀ (f : Nat) (l : List K) (a : List Sn) (g h : Nat), l.length ≤ f → sentsP f l = .ok a → sentsP g Y = .ok b → Y.length ≤ g → (l ++ Y).length ≤ h → sentsP h (l ++ Y) = .ok (a ++ b) := by
  have hfuel : ∀ (n : Nat) (Y : List K) (b : List Sn) (g h : Nat), Y.length ≤ n → Y.length ≤ g → Y.length ≤ h → sentsP g Y = .ok b → sentsP h Y = .ok b := by
    intro n
    induction n with
    | zero =>
      intro Y b g h h1 _ _ hs
      have : Y = [] := List.length_eq_zero_iff.1 (by omega)
      subst this
      have e : ∀ k, sentsP k [] = .ok [] := fun k => by cases k <;> simp [sentsP]
      rw [e] at hs ⊢; exact hs
    | succ n ih =>
      intro Y b g h h1 h2 h3 hs
      by_cases hY : Y = []
      · subst hY
        have e : ∀ k, sentsP k [] = .ok [] := fun k => by cases k <;> simp [sentsP]
        rw [e] at hs ⊢; exact hs
      · have hl : 0 < Y.length := List.length_pos_iff.2 hY
        obtain ⟨g, rfl⟩ : ∃ k, g = k + 1 := ⟨g - 1, by omega⟩
        obtain ⟨h, rfl⟩ : ∃ k, h = k + 1 := ⟨h - 1, by omega⟩
        rw [sentsP, if_neg hY] at hs ⊢
        cases hx : sentP Y with
        | error k => rw [hx] at hs; cases hs
        | ok xr =>
          obtain ⟨x, r⟩ := xr
          rw [hx] at hs
          dsimp only at hs ⊢
          have hlt := (sent_more hx []).2
          cases hr : sentsP g r with
          | error k => rw [hr] at hs; cases hs
          | ok ts =>
            rw [hr] at hs
            rw [ih r ts g h (by omega) (by omega) (by omega) hr]
            exact hs
  intro f
  induction f with
  | zero =>
    intro l a g h hl hs hy hg hh
    have : l = [] := List.length_eq_zero_iff.1 (by omega)
    subst this
    rw [sentsP] at hs; cases hs
    rw [List.nil_append] at hh ⊢
    exact hfuel _ Y b g h (Nat.le_refl _) hg hh hy
  | succ f ih =>
    intro l a g h hl hs hy hg hh
    by_cases hL : l = []
    · subst hL
      rw [sentsP, if_pos rfl] at hs; cases hs
      rw [List.nil_append] at hh ⊢
      exact hfuel _ Y b g h (Nat.le_refl _) hg hh hy
    · rw [sentsP, if_neg hL] at hs
      cases hx : sentP l with
      | error k => rw [hx] at hs; cases hs
      | ok xr =>
        obtain ⟨x, r⟩ := xr
        rw [hx] at hs
        dsimp only at hs
        obtain ⟨hm, hlt⟩ := sent_more hx Y
        cases hr : sentsP f r with
        | error k => rw [hr] at hs; cases hs
        | ok ts =>
          rw [hr] at hs
          cases hs
          rw [List.length_append] at hh
          obtain ⟨h, rfl⟩ : ∃ k, h = k + 1 := ⟨h - 1, by have := List.length_pos_iff.2 hL; omega⟩
          rw [sentsP, if_neg (by simp [hL]), hm]
          dsimp only
          rw [ih r ts g h (by omega) hr hy hg (by rw [List.length_append]; omega)]
          rfl
/-- sentences end as a sentence does -/
theorem sents_end : ∀ (f : Nat) (l : List K) (a : List Sn), l.length ≤ f → sentsP f l = .ok a → l = [] ∨ ∃ X k, l = X ++ [k] ∧ k.kind = 6 := by
  intro f
  induction f with
  | zero => intro l a hl _; exact .inl (List.length_eq_zero_iff.1 (by omega))
  | succ f ih =>
    intro l a hl hs
    by_cases hL : l = []
    · exact .inl hL
    · right
      rw [sentsP, if_neg hL] at hs
      cases hx : sentP l with
      | error k => rw [hx] at hs; cases hs
      | ok xr =>
        obtain ⟨x, r⟩ := xr
        rw [hx] at hs
        dsimp only at hs
        have hlt := (sent_more hx []).2
        obtain ⟨X, k, rfl, hk, _⟩ := sent_parts hx
        cases hr : sentsP f r with
        | error k => rw [hr] at hs; cases hs
        | ok ts =>
          rcases ih r ts (by omega) hr with rfl | ⟨Z, k2, rfl, hk2⟩
          · exact ⟨X, k, rfl, hk⟩
          · exact ⟨X ++ k :: Z, k2, by simp, hk2⟩
/-- one sentence -/
theorem one_sent {l : List K} {x : Sn} {f : Nat} (hl : l.length ≤ f) (h : sentsP f l = .ok [x]) : sentP l = .ok (x, []) := by
  cases f with
  | zero => rw [sentsP] at h; cases h
  | succ f =>
    by_cases hL : l = []
    · rw [sentsP, if_pos hL] at h; cases h
    · rw [sentsP, if_neg hL] at h
      cases hx : sentP l with
      | error k => rw [hx] at h; cases h
      | ok xr =>
        obtain ⟨y, r⟩ := xr
        rw [hx] at h
        dsimp only at h
        have hlt := (sent_more hx []).2
        cases hr : sentsP f r with
        | error k => rw [hr] at h; cases h
        | ok ts =>
          rw [hr] at h
          cases h
          by_cases hR : r = []
          · subst hR; rfl
          · exfalso
            obtain ⟨f, rfl⟩ : ∃ k, f = k + 1 := ⟨f - 1, by have := List.length_pos_iff.2 hR; omega⟩
            rw [sentsP, if_neg hR] at hr
            cases h2 : sentP r with
            | error k => rw [h2] at hr; cases hr
            | ok yr =>
              obtain ⟨y2, r2⟩ := yr
              rw [h2] at hr
              dsimp only at hr
              cases h3 : sentsP f r2 with
              | error k => rw [h3] at hr; cases hr
              | ok t2 => rw [h3] at hr; cases hr
theorem sent_one {l : List K} {x : Sn} {f : Nat} (hf : 0 < f) (h : sentP l = .ok (x, [])) : sentsP f l = .ok [x] := by
  obtain ⟨f, rfl⟩ : ∃ k, f = k + 1 := ⟨f - 1, by omega⟩
  have hL : l ≠ [] := fun e => by subst e; have := (sent_more h []).2; simp at this
  rw [sentsP, if_neg hL, h]
  have e : ∀ k, sentsP k [] = .ok [] := fun k => by cases k <;> simp [sentsP]
  dsimp only
  rw [e]
/-- what oneP is -/
theorem oneP_ok {l : List UInt8} {x : Sn} (h : oneP l = .ok x) : ∃ ts, toksD (endP l) = .ok ts ∧ sentP (ab ts) = .ok (x, []) := by
  unfold oneP at h
  cases ho : toksD (endP l) with
  | bad p e => rw [ho] at h; cases h
  | ok ts =>
    rw [ho] at h
    refine ⟨ts, rfl, ?_⟩
    have hr : readP (.ok ts) = sentsP ts.length (ab ts) := rfl
    rw [hr] at h
    cases hs : sentsP ts.length (ab ts) with
    | error k => rw [hs] at h; cases h
    | ok v =>
      rw [hs] at h
      match v, h, hs with
      | [y], h, hs => cases h; exact one_sent (by rw [ab_len]; exact Nat.le_refl _) hs
theorem oneP_of {l : List UInt8} {x : Sn} {ts : List Tok} (ht : toksD (endP l) = .ok ts) (h : sentP (ab ts) = .ok (x, [])) : oneP l = .ok x := by
  unfold oneP
  rw [ht]
  have hr : readP (.ok ts) = sentsP ts.length (ab ts) := rfl
  rw [hr, sent_one ?_ h]
  have := (sent_more h []).2
  rw [ab_len] at this
  simpa using this
/-- a sentence of a term and its end -/
theorem sent_of {l : List K} {t : T} {n : List (List UInt8)} {k : K} (hk : k.kind = 6) (h : termP 65 1200 (l, []) = .ok (t, ([k], n))) : sentP l = .ok ((t, n), []) := by
  unfold sentP; rw [h]
  show (if k.kind = 6 then _ else _) = _
  rw [if_pos hk]; rfl
end Go.Proofs.YtcdmmcogegnieaaGreatDoor.rd
end
