/- Sorting by a rank, where a comparison is right of what stands on the one side and on the other: plain lemmas, no program in sight. -/
import Derived.Test.YtpkokolhmcophaaSwap
namespace Go.Proofs.Ytpkokolhmcophaa.sl
open Go.RowKit

/-- l' is l with what stands in [a, b) in another order -/
def Moved (a b : Nat) (l l' : List Nat) : Prop :=
  l'.length = l.length ∧ ∃ s : Nat → Nat, (∀ i j, s i = s j → i = j) ∧ (∀ i, l'.getD i 0 = l.getD (s i) 0) ∧ (∀ i, i < a ∨ b ≤ i → s i = i) ∧ ∀ i, a ≤ i → i < b → a ≤ s i ∧ s i < b
theorem Moved.refl (a b : Nat) (l : List Nat) : Moved a b l l := ⟨rfl, id, fun _ _ h => h, fun _ => rfl, fun _ _ => rfl, fun _ h1 h2 => ⟨h1, h2⟩⟩
theorem Moved.trans {a b : Nat} {l l' l'' : List Nat} (h : Moved a b l l') (h' : Moved a b l' l'') : Moved a b l l'' := by
  obtain ⟨e, s, s1, s2, s3, s4⟩ := h
  obtain ⟨e', t, t1, t2, t3, t4⟩ := h'
  refine ⟨e'.trans e, fun i => s (t i), fun i j h => t1 _ _ (s1 _ _ h), fun i => by rw [t2, s2], fun i hi => by show s (t i) = i; rw [t3 i hi, s3 i hi], fun i h1 h2 => ?_⟩
  have := t4 i h1 h2
  exact s4 _ this.1 this.2
theorem Moved.wide {a b a' b' : Nat} {l l' : List Nat} (h : Moved a b l l') (ha : a' ≤ a) (hb : b ≤ b') : Moved a' b' l l' := by
  obtain ⟨e, s, s1, s2, s3, s4⟩ := h
  refine ⟨e, s, s1, s2, fun i hi => s3 i (by omega), fun i h1 h2 => ?_⟩
  by_cases c : a ≤ i ∧ i < b
  · have := s4 i c.1 c.2; omega
  · rw [s3 i (by omega)]; exact ⟨h1, h2⟩
theorem Moved.swap {a b p q : Nat} (l : List Nat) (hp : a ≤ p ∧ p < b) (hq : a ≤ q ∧ q < b) (hb : b ≤ l.length) : Moved a b l (swapL l p q) := by
  refine ⟨swapL_len l p q, fun j => if j = q then p else if j = p then q else j, fun i j h => ?_, fun j => ?_, fun j hj => ?_, fun j h1 h2 => ?_⟩
  · revert h; dsimp only; repeat' split
    all_goals omega
  · rw [swapL_getD l (by omega) (by omega)]; dsimp only; repeat' split
    all_goals rfl
  · dsimp only; rw [if_neg (by omega), if_neg (by omega)]
  · dsimp only; repeat' split
    all_goals omega
theorem Moved.rot {a m b : Nat} {l l' : List Nat} (ham : a < m) (hmb : m < b) (hl : l'.length = l.length) (h : ∀ p, l'.getD p 0 = l.getD (rotI a m b p) 0) : Moved a b l l' := by
  refine ⟨hl, rotI a m b, fun i j h => ?_, h, fun j hj => ?_, fun j h1 h2 => ?_⟩
  · revert h; unfold rotI; repeat' split
    all_goals omega
  · unfold rotI; rw [if_neg (by omega), if_neg (by omega)]
  · unfold rotI; repeat' split
    all_goals omega
theorem Moved.out {a b : Nat} {l l' : List Nat} (h : Moved a b l l') (i : Nat) (hi : i < a ∨ b ≤ i) : l'.getD i 0 = l.getD i 0 := by
  obtain ⟨e, s, s1, s2, s3, s4⟩ := h
  rw [s2, s3 i hi]
theorem Moved.in {a b : Nat} {l l' : List Nat} (h : Moved a b l l') (i : Nat) (h1 : a ≤ i) (h2 : i < b) : ∃ i', a ≤ i' ∧ i' < b ∧ l'.getD i 0 = l.getD i' 0 := by
  obtain ⟨e, s, s1, s2, s3, s4⟩ := h
  exact ⟨s i, (s4 i h1 h2).1, (s4 i h1 h2).2, s2 i⟩
/-- all numbers are below n -/
def Low (n : Nat) (l : List Nat) : Prop := ∀ i, i < l.length → l.getD i 0 < n
theorem Moved.low {a b n : Nat} {l l' : List Nat} (h : Moved a b l l') (hb : b ≤ l.length) (hl : Low n l) : Low n l' := by
  intro i hi
  have e := h.1
  by_cases c : a ≤ i ∧ i < b
  · obtain ⟨i', h1, h2, h3⟩ := h.in i c.1 c.2
    rw [h3]; exact hl i' (by omega)
  · rw [h.out i (by omega)]; exact hl i (by omega)

section
variable (D : Nat → Nat → Bool) (K : Nat → Nat)
/-- what stands in [a, b) rises -/
def Srt (l : List Nat) (a b : Nat) : Prop := ∀ i j, a ≤ i → i < j → j < b → K (l.getD i 0) ≤ K (l.getD j 0)
/-- a comparison is right of two numbers -/
def Fair (x y : Nat) : Prop := D y x = decide (K y < K x)
/-- .. of one in [a, m) and one in [m, b) -/
def Crs (l : List Nat) (a m b : Nat) : Prop := ∀ i j, a ≤ i → i < m → m ≤ j → j < b → Fair D K (l.getD i 0) (l.getD j 0)
/-- .. of any two in [a, b), in their order -/
def CrsAll (l : List Nat) (a b : Nat) : Prop := ∀ i j, a ≤ i → i < j → j < b → Fair D K (l.getD i 0) (l.getD j 0)
/-- what is ahead has the lower rank -/
def Fwd (n : Nat) : Prop := ∀ x y, x < n → y < n → D x y = true → K x < K y
variable {D K}

theorem fair_of_le {n x y : Nat} (hf : Fwd D K n) (hx : x < n) (hy : y < n) (h : K x ≤ K y) : Fair D K x y := by
  unfold Fair
  rw [show decide (K y < K x) = false from by simpa using h]
  cases e : D y x
  · rfl
  · have := hf y x hy hx e; omega

/-- the one that is put in its place stands at j: all others up to i rise, and those behind it are not below it -/
def Ins (K : Nat → Nat) (a i j : Nat) (c : List Nat) : Prop := ∀ p q, a ≤ p → p < q → q ≤ i → q ≠ j → K (c.getD p 0) ≤ K (c.getD q 0)
theorem ins_start {a i : Nat} {c : List Nat} (h : Srt K c a i) : Ins K a i i c := fun p q h1 h2 h3 h4 => h p q h1 h2 (by omega)
theorem ins_step {a i j : Nat} {c : List Nat} (h : Ins K a i (j + 1) c) (ha : a ≤ j) (hj : j + 1 ≤ i) (hi : i < c.length) (hlt : K (c.getD (j + 1) 0) < K (c.getD j 0)) : Ins K a i j (swapL c (j + 1) j) := by
  intro p q h1 h2 h3 h4
  rw [swapL_getD c (by omega) (by omega), swapL_getD c (by omega) (by omega)]
  by_cases q1 : q = j + 1
  · subst q1
    rw [if_neg (show ¬ j + 1 = j by omega), if_pos rfl]
    by_cases p1 : p = j
    · rw [if_pos p1]; omega
    · rw [if_neg p1, if_neg (by omega)]; exact h p j h1 (by omega) (by omega) (by omega)
  · rw [if_neg h4, if_neg q1]
    by_cases p1 : p = j
    · rw [if_pos p1]; exact h (j + 1) q (by omega) (by omega) h3 (by omega)
    · rw [if_neg p1]
      by_cases p2 : p = j + 1
      · rw [if_pos p2]; exact h j q ha (by omega) h3 (by omega)
      · rw [if_neg p2]; exact h p q h1 h2 h3 q1
theorem ins_end {a i j : Nat} {c : List Nat} (h : Ins K a i j c) (hj : j = a ∨ (a < j ∧ K (c.getD (j - 1) 0) ≤ K (c.getD j 0))) : Srt K c a (i + 1) := by
  intro p q h1 h2 h3
  by_cases q1 : q = j
  · subst q1
    rcases hj with hj | ⟨h4, h5⟩
    · omega
    · by_cases p1 : p = q - 1
      · rw [p1]; exact h5
      · have := h p (q - 1) h1 (by omega) (by omega) (by omega); omega
  · exact h p q h1 h2 (by omega) q1
theorem crs_swap {n a b j : Nat} {c : List Nat} (hf : Fwd D K n) (hlow : Low n c) (h : CrsAll D K c a b) (ha : a ≤ j) (hj : j + 1 < b) (hb : b ≤ c.length) (hlt : K (c.getD (j + 1) 0) < K (c.getD j 0)) : CrsAll D K (swapL c (j + 1) j) a b := by
  intro p q h1 h2 h3
  rw [swapL_getD c (by omega) (by omega), swapL_getD c (by omega) (by omega)]
  by_cases q1 : q = j
  · rw [if_pos q1, if_neg (by omega), if_neg (by omega)]; exact h p (j + 1) h1 (by omega) hj
  · rw [if_neg q1]
    by_cases q2 : q = j + 1
    · rw [if_pos q2]
      by_cases p1 : p = j
      · rw [if_pos p1]; exact fair_of_le hf (hlow _ (by omega)) (hlow _ (by omega)) (by omega)
      · rw [if_neg p1, if_neg (by omega)]; exact h p j h1 (by omega) (by omega)
    · rw [if_neg q2]
      by_cases p1 : p = j
      · rw [if_pos p1]; exact h (j + 1) q (by omega) (by omega) h3
      · rw [if_neg p1]
        by_cases p2 : p = j + 1
        · rw [if_pos p2]; exact h j q ha (by omega) h3
        · rw [if_neg p2]; exact h p q h1 h2 h3
end
end Go.Proofs.Ytpkokolhmcophaa.sl
