/- Lists of digits to the base 32768, the lowest first: plain lemmas, no program in sight. -/
import Derived.WalkKit
namespace Go.Proofs.Ytpfkcllincfpkaa.dg

def val : List Nat → Nat
  | [] => 0
  | d :: ds => d + 32768 * val ds

theorem val_cons (d : Nat) (l : List Nat) : val (d :: l) = d + 32768 * val l := rfl
theorem val_nil : val [] = 0 := rfl

/-- all are digits -/
def Low (l : List Nat) : Prop := ∀ d ∈ l, d < 32768

theorem low_nil : Low [] := fun _ h => nomatch h
theorem low_cons {d : Nat} {l : List Nat} : Low (d :: l) ↔ d < 32768 ∧ Low l := by
  unfold Low; simp
theorem low_append {a b : List Nat} : Low (a ++ b) ↔ Low a ∧ Low b := by
  unfold Low; simp only [List.mem_append]
  exact ⟨fun h => ⟨fun d hd => h d (.inl hd), fun d hd => h d (.inr hd)⟩, fun h d hd => hd.elim (h.1 d) (h.2 d)⟩

/-- a number's digits -/
def digs (n : Nat) : List Nat := if h : n = 0 then [] else n % 32768 :: digs (n / 32768)
termination_by n
decreasing_by omega

theorem digs_zero : digs 0 = [] := by unfold digs; rfl
theorem digs_pos {n : Nat} (h : 0 < n) : digs n = n % 32768 :: digs (n / 32768) := by
  rw [digs, dif_neg (by omega)]
theorem digs_low (n : Nat) : Low (digs n) := by
  induction n using Nat.strongRecOn with
  | ind n ih =>
    by_cases h : n = 0
    · subst h; rw [digs_zero]; exact low_nil
    · rw [digs_pos (by omega), low_cons]; exact ⟨by omega, ih _ (by omega)⟩
theorem val_digs (n : Nat) : val (digs n) = n := by
  induction n using Nat.strongRecOn with
  | ind n ih =>
    by_cases h : n = 0
    · subst h; rw [digs_zero]; rfl
    · rw [digs_pos (by omega), val, ih _ (by omega)]; omega
theorem digs_nil {n : Nat} (h : digs n = []) : n = 0 := by
  have := val_digs n; rw [h] at this; exact this.symm

/-- without zeros at its end -/
def trimL (l : List Nat) : List Nat := l.foldr (fun d r => if d = 0 ∧ r = [] then [] else d :: r) []
theorem trimL_nil : trimL [] = [] := rfl
theorem trimL_cons (d : Nat) (l : List Nat) : trimL (d :: l) = if d = 0 ∧ trimL l = [] then [] else d :: trimL l := rfl
theorem trimL_zero (l : List Nat) : trimL (l ++ [0]) = trimL l := by
  induction l with
  | nil => rfl
  | cons d l ih => rw [List.cons_append, trimL_cons, trimL_cons, ih]
theorem trimL_ne (l : List Nat) {d : Nat} (h : d ≠ 0) : trimL (l ++ [d]) = l ++ [d] := by
  induction l with
  | nil => simp [trimL_cons, trimL_nil, h]
  | cons e l ih => rw [List.cons_append, trimL_cons, ih, if_neg (by simp)]
theorem trimL_val {l : List Nat} (h : Low l) : trimL l = digs (val l) := by
  induction l with
  | nil => rw [val, digs_zero]; rfl
  | cons d l ih =>
    obtain ⟨h1, h2⟩ := low_cons.1 h
    rw [trimL_cons, ih h2, val]
    by_cases c : d + 32768 * val l = 0
    · have c1 : d = 0 := by omega
      have c2 : val l = 0 := by omega
      rw [c1, c2, digs_zero]; simp
    · rw [digs_pos (n := d + 32768 * val l) (by omega), show (d + 32768 * val l) % 32768 = d from by omega, show (d + 32768 * val l) / 32768 = val l from by omega, if_neg]
      rintro ⟨a, b⟩
      have := digs_nil b; omega
theorem trimL_len (l : List Nat) : (trimL l).length ≤ l.length := by
  induction l with
  | nil => exact Nat.le_refl _
  | cons d l ih => rw [trimL_cons]; split <;> simp <;> omega
theorem trimL_pre (l : List Nat) : trimL l = l.take (trimL l).length := by
  induction l with
  | nil => rfl
  | cons d l ih =>
    rw [trimL_cons]; split
    · rfl
    · rw [List.length_cons, List.take_succ_cons, ← ih]

/-! ### sums -/
def sumD : List Nat → List Nat → Nat → List Nat
  | [], [], c => digs c
  | a :: as, [], c => (c + a) % 32768 :: sumD as [] ((c + a) / 32768)
  | [], b :: bs, c => (c + b) % 32768 :: sumD [] bs ((c + b) / 32768)
  | a :: as, b :: bs, c => (c + a + b) % 32768 :: sumD as bs ((c + a + b) / 32768)
theorem sumD_val : ∀ (a b : List Nat) (c : Nat), val (sumD a b c) = val a + val b + c := by
  intro a
  induction a with
  | nil =>
    intro b
    induction b with
    | nil => intro c; rw [sumD, val_digs]; simp [val]
    | cons y b ih => intro c; rw [sumD, val_cons, ih, val_cons, val_nil]; omega
  | cons x a ih =>
    intro b c
    cases b with
    | nil => rw [sumD, val_cons, ih, val_cons, val_nil]; omega
    | cons y b => rw [sumD, val_cons, ih, val_cons, val_cons]; omega
theorem sumD_low : ∀ (a b : List Nat) (c : Nat), Low (sumD a b c) := by
  intro a
  induction a with
  | nil =>
    intro b
    induction b with
    | nil => intro c; rw [sumD]; exact digs_low c
    | cons y b ih => intro c; rw [sumD, low_cons]; exact ⟨by omega, ih _⟩
  | cons x a ih =>
    intro b c
    cases b with
    | nil => rw [sumD, low_cons]; exact ⟨by omega, ih _ _⟩
    | cons y b => rw [sumD, low_cons]; exact ⟨by omega, ih _ _⟩

/-! ### differences -/
/-- one digit less another, less what was lent -/
def low1 (x : Int) : Nat := (if x < 0 then x + 32768 else x).toNat
def lent (x : Int) : Nat := if x < 0 then 1 else 0
def lessD : List Nat → List Nat → Nat → List Nat
  | [], _, _ => []
  | a :: as, [], c => low1 (a - c) :: lessD as [] (lent (a - c))
  | a :: as, b :: bs, c => low1 (a - c - b) :: lessD as bs (lent (a - c - b))
theorem low1_lent (x : Int) (h : -32768 ≤ x ∧ x < 32768) : low1 x < 32768 ∧ (low1 x : Int) = x + 32768 * lent x ∧ lent x ≤ 1 := by
  unfold low1 lent; split <;> omega
theorem lessD_val : ∀ (a b : List Nat) (c : Nat), Low a → Low b → c ≤ 1 → val b + c ≤ val a → Low (lessD a b c) ∧ (lessD a b c).length = a.length ∧ val (lessD a b c) = val a - (val b + c) := by
  intro a
  induction a with
  | nil => intro b c _ _ _ h; rw [lessD]; rw [val_nil] at h ⊢; exact ⟨low_nil, rfl, by omega⟩
  | cons x a ih =>
    intro b c ha hb hc h
    obtain ⟨h1, h2⟩ := low_cons.1 ha
    cases b with
    | nil =>
      obtain ⟨k1, k2, k3⟩ := low1_lent ((x : Int) - c) (by omega)
      simp only [val] at h ⊢
      obtain ⟨i1, i2, i3⟩ := ih [] (lent ((x : Int) - c)) h2 low_nil k3 (by simp only [val]; omega)
      rw [lessD, low_cons, List.length_cons, List.length_cons, val_cons, i3, i2]
      rw [val_nil] at *
      exact ⟨⟨k1, i1⟩, rfl, by omega⟩
    | cons y b =>
      obtain ⟨h3, h4⟩ := low_cons.1 hb
      obtain ⟨k1, k2, k3⟩ := low1_lent ((x : Int) - c - y) (by omega)
      simp only [val] at h ⊢
      obtain ⟨i1, i2, i3⟩ := ih b (lent ((x : Int) - c - y)) h2 h4 k3 (by omega)
      rw [lessD, low_cons, List.length_cons, List.length_cons, val_cons, i3, i2]
      exact ⟨⟨k1, i1⟩, rfl, by omega⟩

/-! ### order -/
theorem val_lt_pow {l : List Nat} (h : Low l) : val l < 32768 ^ l.length := by
  induction l with
  | nil => simp [val]
  | cons d l ih =>
    obtain ⟨h1, h2⟩ := low_cons.1 h
    have := ih h2
    rw [val, List.length_cons, Nat.pow_succ]; omega
theorem val_append (a b : List Nat) : val (a ++ b) = val a + 32768 ^ a.length * val b := by
  induction a with
  | nil => simp [val]
  | cons d a ih =>
    rw [List.cons_append, val, val, ih, List.length_cons, Nat.pow_succ, Nat.mul_add, ← Nat.mul_assoc, Nat.mul_comm 32768 (32768 ^ _), ← Nat.add_assoc]
theorem val_low_lt {a b c : List Nat} {x y : Nat} (ha : Low a) (hl : a.length = b.length) (h : x < y) : val (a ++ x :: c) < val (b ++ y :: c) := by
  rw [val_append, val_append, ← hl, val, val]
  have h1 := val_lt_pow ha
  have h2 : 32768 ^ a.length * (x + 32768 * val c) + 32768 ^ a.length ≤ 32768 ^ a.length * (y + 32768 * val c) := by
    rw [← Nat.mul_succ]; exact Nat.mul_le_mul (Nat.le_refl _) (by omega)
  omega
theorem digs_len_mono {m n : Nat} (h : m ≤ n) : (digs m).length ≤ (digs n).length := by
  induction n using Nat.strongRecOn generalizing m with
  | ind n ih =>
    by_cases c : m = 0
    · subst c; rw [digs_zero]; exact Nat.zero_le _
    · rw [digs_pos (n := m) (by omega), digs_pos (n := n) (by omega), List.length_cons, List.length_cons]
      have := @ih (n / 32768) (by omega) (m / 32768) (by omega)
      omega
theorem digs_len_lt {n k : Nat} (h : n < 32768 ^ k) : (digs n).length ≤ k := by
  induction k generalizing n with
  | zero => simp at h; subst h; rw [digs_zero]; exact Nat.le_refl _
  | succ k ih =>
    by_cases c : n = 0
    · subst c; rw [digs_zero]; exact Nat.zero_le _
    · rw [digs_pos (by omega), List.length_cons]
      have := ih (n := n / 32768) (by rw [Nat.pow_succ] at h; omega)
      omega

end Go.Proofs.Ytpfkcllincfpkaa.dg
