/- Floats of 64 bits by a key: which of two is ahead. Plain lemmas, no program in sight. -/
import Derived.WalkLawsBesides
import Derived.Lib.Hide
namespace Go.Proofs.Ytpkokolhmcophaa.fl
open Ieee

/-- no number -/
def nanD : Datum → Bool
  | .nan .. => true
  | _ => false
/-- below all numbers, among them, above them -/
def clsD : Datum → Int
  | .infinity s => if s then -1 else 1
  | _ => 0
/-- the number, in units of 2 to the lowest place -/
def keyD (lp : Int) : Datum → Int
  | .number s m i => signed s m (i - lp).toNat
  | _ => 0
def placed (lp : Int) : Datum → Prop
  | .number _ _ i => lp ≤ i
  | _ => True

theorem signed_eq (s : Bool) (m u : Nat) : signed s m u = (if s then -(m : Int) else m) * 2 ^ u := by
  unfold signed
  rw [Nat.shiftLeft_eq]
  cases s <;> simp [Int.neg_mul]
theorem signed_shift (s : Bool) (m u k : Nat) : signed s m (u + k) = signed s m u * 2 ^ k := by
  rw [signed_eq, signed_eq, Int.pow_add, Int.mul_assoc]
theorem two_pow_pos' (k : Nat) : (0 : Int) < 2 ^ k := Int.pow_pos (by omega)
theorem compare_scale (a b : Int) (k : Nat) : compare (a * 2 ^ k) (b * 2 ^ k) = compare a b := by
  have h := two_pow_pos' k
  rcases Int.lt_trichotomy a b with c | c | c
  · rw [Int.compare_eq_lt.2 c, Int.compare_eq_lt.2 (Int.mul_lt_mul_of_pos_right c h)]
  · rw [c]; simp [compare, compareOfLessAndEq]
  · rw [Int.compare_eq_gt.2 c, Int.compare_eq_gt.2 (Int.mul_lt_mul_of_pos_right c h)]
theorem order_num (lp : Int) (s t : Bool) (m n : Nat) (i j : Int) (hi : lp ≤ i) (hj : lp ≤ j) :
    (Datum.number s m i).order (.number t n j) = some (compare (signed s m (i - lp).toNat) (signed t n (j - lp).toNat)) := by
  show some (compare (signed s m (i - min i j).toNat) (signed t n (j - min i j).toNat)) = _
  have e1 : (i - lp).toNat = (i - min i j).toNat + (min i j - lp).toNat := by omega
  have e2 : (j - lp).toNat = (j - min i j).toNat + (min i j - lp).toNat := by omega
  rw [e1, e2, signed_shift, signed_shift, compare_scale]
/-- ahead by the key -/
def lessK (c v c' v' : Int) : Bool := decide (c < c' ∨ c = c' ∧ v < v')
theorem order_key (lp : Int) (d e : Datum) (hd : placed lp d) (he : placed lp e) :
    d.order e = if nanD d || nanD e then none else some (if lessK (clsD d) (keyD lp d) (clsD e) (keyD lp e) then .lt else if lessK (clsD e) (keyD lp e) (clsD d) (keyD lp d) then .gt else .eq) := by
  unfold lessK
  cases d with
  | nan s f => cases e <;> rfl
  | infinity s =>
    cases e with
    | nan t f => rfl
    | infinity t => cases s <;> cases t <;> rfl
    | number t n j => cases s <;> simp [Datum.order, nanD, clsD, keyD]
  | number s m i =>
    cases e with
    | nan t f => rfl
    | infinity t => cases t <;> simp [Datum.order, nanD, clsD, keyD]
    | number t n j =>
      rw [order_num lp s t m n i j hd he]
      simp only [nanD, clsD, keyD, Bool.or_self]
      generalize signed s m (i - lp).toNat = a
      generalize signed t n (j - lp).toNat = b
      rcases Int.lt_trichotomy a b with c | c | c
      · rw [Int.compare_eq_lt.2 c]; simp [c]
      · subst c; simp [compare, compareOfLessAndEq]
      · rw [Int.compare_eq_gt.2 c]
        have : ¬ a < b := by omega
        simp [c, this]
theorem read_placed (x : Nat) : placed double.leastPlace (double.read x) := by
  unfold Format.read
  dsimp only
  split
  · exact Int.le_refl _
  · split
    · show _ ≤ _ + _
      omega
    · split <;> trivial

/-- is it no number -/
def nan (x : Nat) : Bool := nanD (double.read x)
def cls (x : Nat) : Int := clsD (double.read x)
def key (x : Nat) : Int := keyD double.leastPlace (double.read x)
/-- ahead among numbers -/
def lt (x y : Nat) : Bool := lessK (cls x) (key x) (cls y) (key y)
theorem order_is (x y : Nat) : double.order x y = if nan x || nan y then none else some (if lt x y then .lt else if lt y x then .gt else .eq) :=
  order_key _ _ _ (read_placed x) (read_placed y)
/-- the document's order -/
def less (x y : Nat) : Bool := !nan x && (nan y || lt x y)
theorem fmt64 : FloatKind.f64.format = double := rfl
theorem lt_irrefl (x : Nat) : lt x x = false := by unfold lt lessK; simp
theorem lt_asymm {x y : Nat} (h : lt x y = true) : lt y x = false := by unfold lt lessK at *; simp at *; omega
theorem is_lt (x y : Nat) : (FloatKind.f64.format.order x y == some .lt) = (!nan x && !nan y && lt x y) := by
  rw [fmt64, order_is]
  cases nan x <;> cases nan y <;> cases h1 : lt x y <;> cases lt y x <;> rfl
theorem is_gt (x y : Nat) : (FloatKind.f64.format.order x y == some .gt) = (!nan x && !nan y && lt y x) := by
  rw [fmt64, order_is]
  cases nan x <;> cases nan y <;> cases h1 : lt x y <;> cases h2 : lt y x <;> first | rfl | (have := lt_asymm h1; rw [h2] at this; cases this)
theorem is_eq (x y : Nat) : (FloatKind.f64.format.order x y == some .eq) = (!nan x && !nan y && !lt x y && !lt y x) := by
  rw [fmt64, order_is]
  cases nan x <;> cases nan y <;> cases h1 : lt x y <;> cases lt y x <;> rfl
theorem self_eq (x : Nat) : (FloatKind.f64.format.order x x == some .eq) = !nan x := by
  rw [is_eq, lt_irrefl]; cases nan x <;> rfl
theorem nan0 : nan 0 = false := by decide
theorem less_or (x y : Nat) : ((!nan x && !nan y && lt x y) || (!nan x && !!nan y)) = less x y := by
  unfold less; cases nan x <;> cases nan y <;> cases lt x y <;> rfl
theorem less_asymm {x y : Nat} (h : less x y = true) : less y x = false := by
  unfold less at *
  cases h1 : nan x <;> cases h2 : nan y <;> rw [h1, h2] at h <;> simp at h ⊢
  exact lt_asymm h
theorem less_irrefl (x : Nat) : less x x = false := by
  unfold less; rw [lt_irrefl]; cases nan x <;> rfl
theorem lt_trans {x y z : Nat} (h : lt x y = true) (h2 : lt y z = true) : lt x z = true := by
  unfold lt lessK at *; simp only [decide_eq_true_eq] at *; omega
theorem lt_ntrans {x y z : Nat} (h : lt x z = true) : lt x y = true ∨ lt y z = true := by
  unfold lt lessK at *; simp only [decide_eq_true_eq] at *; omega
theorem less_trans {x y z : Nat} (h : less x y = true) (h2 : less y z = true) : less x z = true := by
  unfold less at *
  cases h1 : nan x <;> cases h3 : nan y <;> cases h4 : nan z <;> rw [h1, h3] at h <;> rw [h3, h4] at h2 <;> simp at h h2 ⊢
  exact lt_trans h h2
theorem less_ntrans {x y z : Nat} (h : less x z = true) : less x y = true ∨ less y z = true := by
  unfold less at *
  cases h1 : nan x <;> cases h3 : nan y <;> cases h4 : nan z <;> rw [h1, h4] at h <;> simp at h ⊢
  exact lt_ntrans h
end Go.Proofs.Ytpkokolhmcophaa.fl
