/- The rank of a place among weights: how many places come before it. Plain lemmas, no program in sight. -/
import Derived.Test.YtpkokolhmcophaaSortM
import Derived.Test.YtpkokolhmcophaaCmp
namespace Go.Proofs.Ytpkokolhmcophaa.sl
open Go.Proofs.Ytpkokolhmcophaa.fl

theorem ahead_asymm {fs : List Nat} {x y : Nat} (h : ahead fs x y = true) : ahead fs y x = false := less_asymm h
theorem ahead_trans {fs : List Nat} {x y z : Nat} (h : ahead fs x y = true) (h2 : ahead fs y z = true) : ahead fs x z = true := less_trans h h2
theorem ahead_ntrans {fs : List Nat} {x y z : Nat} (h : ahead fs x z = true) : ahead fs x y = true ∨ ahead fs y z = true := less_ntrans h
theorem ahead_irrefl (fs : List Nat) (x : Nat) : ahead fs x x = false := less_irrefl _

/-- x comes before y: ahead of it, or alike and of a lower place -/
def bef (fs : List Nat) (x y : Nat) : Bool := ahead fs x y || (!ahead fs y x && decide (x < y))
theorem bef_irrefl (fs : List Nat) (x : Nat) : bef fs x x = false := by unfold bef; rw [ahead_irrefl]; simp
theorem bef_trans {fs : List Nat} {x y z : Nat} (h : bef fs x y = true) (h2 : bef fs y z = true) : bef fs x z = true := by
  unfold bef at *
  simp only [Bool.or_eq_true, Bool.and_eq_true, Bool.not_eq_true', decide_eq_true_eq] at *
  rcases h with h | ⟨h, hl⟩ <;> rcases h2 with h2 | ⟨h2, hl2⟩
  · exact .inl (ahead_trans h h2)
  · rcases ahead_ntrans (y := z) h with c | c
    · exact .inl c
    · rw [h2] at c; cases c
  · rcases ahead_ntrans (y := x) h2 with c | c
    · rw [h] at c; cases c
    · exact .inl c
  · by_cases c : ahead fs x z = true
    · exact .inl c
    · refine .inr ⟨?_, by omega⟩
      cases e : ahead fs z x
      · rfl
      · rcases ahead_ntrans (y := y) e with c | c
        · rw [h2] at c; cases c
        · rw [h] at c; cases c
theorem bef_total (fs : List Nat) {x y : Nat} (h : x ≠ y) : bef fs x y = true ∨ bef fs y x = true := by
  unfold bef
  cases e1 : ahead fs x y <;> cases e2 : ahead fs y x <;> simp <;> omega

theorem countP_lt {p q : Nat → Bool} {l : List Nat} (h : ∀ z ∈ l, p z = true → q z = true) {y : Nat} (hy : y ∈ l) (hq : q y = true) (hp : p y = false) : l.countP p < l.countP q := by
  induction l with
  | nil => cases hy
  | cons x l ih =>
    have hm : l.countP p ≤ l.countP q := List.countP_mono_left fun z hz => h z (List.mem_cons_of_mem _ hz)
    rw [List.countP_cons, List.countP_cons]
    rcases List.mem_cons.1 hy with rfl | hy
    · rw [hp, hq]; simp; omega
    · have := ih (fun z hz => h z (List.mem_cons_of_mem _ hz)) hy
      by_cases c : p x = true
      · rw [if_pos c, if_pos (h x List.mem_cons_self c)]; omega
      · rw [if_neg c]; omega
/-- how many places come before x -/
def rk (fs : List Nat) (x : Nat) : Nat := (List.range fs.length).countP fun z => bef fs z x
theorem rk_lt {fs : List Nat} {x y : Nat} (hx : x < fs.length) (h : bef fs x y = true) : rk fs x < rk fs y :=
  countP_lt (fun _ _ hz => bef_trans hz h) (List.mem_range.2 hx) h (bef_irrefl fs x)
theorem rk_bound {fs : List Nat} {x : Nat} (hx : x < fs.length) : rk fs x < fs.length := by
  have : rk fs x < (List.range fs.length).countP fun _ => true := countP_lt (fun _ _ _ => rfl) (List.mem_range.2 hx) rfl (bef_irrefl fs x)
  simpa using this
theorem rk_inj {fs : List Nat} {x y : Nat} (hx : x < fs.length) (hy : y < fs.length) (h : rk fs x = rk fs y) : x = y := by
  by_cases c : x = y
  · exact c
  · rcases bef_total fs c with h1 | h1
    · have := rk_lt hx h1; omega
    · have := rk_lt hy h1; omega
theorem rk_fwd (fs : List Nat) : Fwd (ahead fs) (rk fs) fs.length := fun x y hx _ h => rk_lt hx (by unfold bef; rw [h]; rfl)
theorem rk_fair {fs : List Nat} {x y : Nat} (hxy : x < y) (hy : y < fs.length) : Fair (ahead fs) (rk fs) x y := by
  unfold Fair
  cases h : ahead fs y x
  · have : rk fs x < rk fs y := rk_lt (by omega) (by unfold bef; rw [h]; simp [hxy])
    symm; simpa using Nat.le_of_lt this
  · have : rk fs y < rk fs x := rk_lt hy (by unfold bef; rw [h]; rfl)
    symm; simpa using this
theorem rk_crs (fs : List Nat) : CrsAll (ahead fs) (rk fs) (List.range fs.length) 0 fs.length := by
  intro i j _ h2 h3
  rw [List.getD_eq_getElem?_getD, List.getD_eq_getElem?_getD, List.getElem?_range (by omega), List.getElem?_range (by omega)]
  exact rk_fair h2 h3

/-- l holds all places, in the order of their ranks -/
def IsOrd (fs l : List Nat) : Prop := l.length = fs.length ∧ (∀ i, i < fs.length → l.getD i 0 < fs.length) ∧ ∀ i, i < fs.length → rk fs (l.getD i 0) = i
theorem ord_of_strict {fs l : List Nat} (hl : l.length = fs.length) (hlow : ∀ i, i < fs.length → l.getD i 0 < fs.length) (hs : ∀ i j, i < j → j < fs.length → rk fs (l.getD i 0) < rk fs (l.getD j 0)) : IsOrd fs l := by
  refine ⟨hl, hlow, fun i hi => ?_⟩
  have lo : ∀ i, i < fs.length → i ≤ rk fs (l.getD i 0) := by
    intro i
    induction i with
    | zero => intro _; exact Nat.zero_le _
    | succ i ih => intro hi; have := hs i (i + 1) (by omega) hi; have := ih (by omega); omega
  have hi' : ∀ k i, i + k + 1 = fs.length → rk fs (l.getD i 0) ≤ i := by
    intro k
    induction k with
    | zero => intro i h; have := rk_bound (hlow i (by omega)); omega
    | succ k ih => intro i h; have := hs i (i + 1) (by omega) (by omega); have := ih (i + 1) (by omega); omega
  have := lo i hi
  have := hi' (fs.length - 1 - i) i (by omega)
  omega
theorem ord_unique {fs l l' : List Nat} (h : IsOrd fs l) (h' : IsOrd fs l') : l = l' := by
  apply List.ext_getElem (by rw [h.1, h'.1])
  intro i h1 h2
  have hi : i < fs.length := by have := h.1; omega
  have e : l.getD i 0 = l'.getD i 0 := rk_inj (h.2.1 i hi) (h'.2.1 i hi) (by rw [h.2.2 i hi, h'.2.2 i hi])
  simpa [h1, h2] using e
theorem ord_of_moved {fs l : List Nat} (hm : Moved 0 fs.length (List.range fs.length) l) (hs : Srt (rk fs) l 0 fs.length) : IsOrd fs l := by
  have hl : l.length = fs.length := by rw [hm.1]; simp
  obtain ⟨_, s, s1, s2, s3, s4⟩ := hm
  have hg : ∀ i, i < fs.length → l.getD i 0 = s i ∧ s i < fs.length := fun i hi => by
    have hsi := (s4 i (Nat.zero_le _) hi).2
    rw [s2, List.getD_eq_getElem?_getD, List.getElem?_range hsi]
    exact ⟨rfl, hsi⟩
  refine ord_of_strict hl (fun i hi => by rw [(hg i hi).1]; exact (hg i hi).2) fun i j hij hj => ?_
  have h1 := hs i j (Nat.zero_le _) hij hj
  have g1 := hg i (by omega)
  have g2 := hg j hj
  have : rk fs (l.getD i 0) ≠ rk fs (l.getD j 0) := fun e => by
    rw [g1.1, g2.1] at e
    have := s1 _ _ (rk_inj g1.2 g2.2 e); omega
  omega
end Go.Proofs.Ytpkokolhmcophaa.sl
