/- Terms' depths, variables, order, what goes through all parts of one: functions of trees alone, no program in sight. -/
import Derived.Test.YtjccohcigopdfaaQ16
set_option linter.unusedVariables false
set_option linter.unusedSimpArgs false
section
/- Terms' depths, variables, order, what goes through all parts of one: functions of trees alone, no program in sight. -/
namespace Go.Proofs.Ytjccohcigopdfaa.tm
open Go.Proofs.Ytjccohcigopdfaa.wr
open Go.Proofs.Ytjccohcigopdfaa.op (bs)
open Go.Proofs.Ytjccohcigopdfaa.rd (T)
set_option maxRecDepth 20000

/-! ### depths -/
mutual
def dpU : U → Nat
  | .mk k _ _ l => 1 + (if k = 4 then dpL l else 0)
def dpL : List U → Nat
  | [] => 0
  | u :: l => max (dpU u) (dpL l)
end
theorem dpU_eq (u : U) : dpU u = 1 + (if u.k = 4 then dpL u.l else 0) := by cases u; rw [dpU]; rfl
mutual
theorem dp_sz : ∀ (u : U), dpU u ≤ szU u
  | .mk k n s l => by
    have := dpL_sz l
    rw [dpU, szU]
    split <;> omega
theorem dpL_sz : ∀ (l : List U), dpL l ≤ szUL l
  | [] => by rw [dpL, szUL]; omega
  | u :: l => by
    have h1 := dp_sz u
    have h2 := dpL_sz l
    rw [dpL, szUL]
    omega
end

/-! ### variables -/
mutual
def vsU : U → List Int
  | .mk k n _ l => if k = 1 then [n] else if k = 4 then vsL l else []
def vsL : List U → List Int
  | [] => []
  | u :: l => vsU u ++ vsL l
end
theorem vsU_eq (u : U) : vsU u = if u.k = 1 then [u.n] else if u.k = 4 then vsL u.l else [] := by cases u; rw [vsU]; rfl
mutual
theorem vs_sz : ∀ (u : U), (vsU u).length ≤ szU u
  | .mk k n s l => by
    have := vsL_sz l
    rw [vsU, szU]
    split
    · simp
    · split
      · omega
      · simp
theorem vsL_sz : ∀ (l : List U), (vsL l).length ≤ szUL l
  | [] => by rw [vsL]; simp
  | u :: l => by
    have h1 := vs_sz u
    have h2 := vsL_sz l
    rw [vsL, szUL, List.length_append]
    omega
end
/-- one more, if it is new -/
def addV (acc : List Int) (n : Int) : List Int := if n ∈ acc then acc else acc ++ [n]
def addVs (acc l : List Int) : List Int := l.foldl addV acc
theorem addVs_nil (acc : List Int) : addVs acc [] = acc := rfl
theorem addVs_cons (acc : List Int) (n : Int) (l : List Int) : addVs acc (n :: l) = addVs (addV acc n) l := rfl
theorem addVs_app (acc l m : List Int) : addVs acc (l ++ m) = addVs (addVs acc l) m := List.foldl_append
theorem addV_mem (acc : List Int) (n x : Int) : x ∈ addV acc n ↔ x ∈ acc ∨ x = n := by
  unfold addV
  split
  · rename_i h
    exact ⟨.inl, fun h2 => h2.elim id fun e => by rw [e]; exact h⟩
  · simp
theorem addVs_mem (l : List Int) : ∀ (acc : List Int) (x : Int), x ∈ addVs acc l ↔ x ∈ acc ∨ x ∈ l := by
  induction l with
  | nil => intro acc x; simp [addVs_nil]
  | cons n l ih => intro acc x; rw [addVs_cons, ih, addV_mem, List.mem_cons, or_assoc]
theorem addV_addVs (out acc : List Int) (n : Int) : addVs out (addV acc n) = addV (addVs out acc) n := by
  unfold addV
  by_cases h : n ∈ acc
  · rw [if_pos h, if_pos ((addVs_mem acc out n).2 (.inr h))]
  · rw [if_neg h, addVs_app, addVs_cons, addVs_nil, addV]
theorem addVs_addVs (m : List Int) : ∀ (out acc : List Int), addVs out (addVs acc m) = addVs (addVs out acc) m := by
  induction m with
  | nil => intro out acc; rfl
  | cons n m ih => intro out acc; rw [addVs_cons, ih, addV_addVs, ← addVs_cons]
theorem addV_nodup {acc : List Int} (h : acc.Nodup) (n : Int) : (addV acc n).Nodup := by
  unfold addV
  split
  · exact h
  · rename_i hn
    rw [List.nodup_append]
    exact ⟨h, by simp, fun x hx y hy => by rw [List.mem_singleton.1 hy]; intro e; exact hn (e ▸ hx)⟩
theorem addVs_nodup (l : List Int) : ∀ {acc : List Int}, acc.Nodup → (addVs acc l).Nodup := by
  induction l with
  | nil => intro acc h; exact h
  | cons n l ih => intro acc h; exact ih (addV_nodup h n)
theorem addV_len (acc : List Int) (n : Int) : (addV acc n).length ≤ acc.length + 1 := by
  unfold addV; split <;> simp
theorem addVs_len (l : List Int) : ∀ (acc : List Int), (addVs acc l).length ≤ acc.length + l.length := by
  induction l with
  | nil => intro acc; exact Nat.le_refl _
  | cons n l ih => intro acc; have h1 := ih (addV acc n); have h2 := addV_len acc n; rw [addVs_cons, List.length_cons]; omega
/-- a term's variables, each once -/
def varsU (u : U) : List Int := addVs [] (vsU u)
theorem vars_len (u : U) : (varsU u).length ≤ szU u := by
  have h1 := addVs_len (vsU u) []
  have h2 := vs_sz u
  unfold varsU
  simp at h1
  omega

/-! ### through all parts -/
mutual
def fdU {σ : Type} (f : U → Nat → σ → σ) : Nat → U → σ → σ
  | d, .mk k n s l, x => if k = 4 then fdL f (d + 1) l (f (.mk k n s l) d x) else f (.mk k n s l) d x
def fdL {σ : Type} (f : U → Nat → σ → σ) : Nat → List U → σ → σ
  | _, [], x => x
  | d, u :: l, x => fdL f d l (fdU f d u x)
end
section
variable {σ : Type} (f : U → Nat → σ → σ)
theorem fdU_eq (d : Nat) (u : U) (x : σ) : fdU f d u x = if u.k = 4 then fdL f (d + 1) u.l (f u d x) else f u d x := by cases u; rw [fdU]; rfl
theorem fdL_drop {d : Nat} {l : List U} {i : Nat} (hi : i < l.length) (x : σ) : fdL f d (l.drop i) x = fdL f d (l.drop (i + 1)) (fdU f d (l.getD i dfU) x) := by rw [drop_cons hi, fdL]
end
mutual
theorem fd_sz : ∀ (u : U) (d x : Nat), fdU (fun _ _ n => n + 1) d u x = x + szU u
  | .mk k n s l, d, x => by
    rw [fdU, szU]
    split
    · rw [fdL_sz l]; omega
    · omega
theorem fdL_sz : ∀ (l : List U) (d x : Nat), fdL (fun _ _ n => n + 1) d l x = x + szUL l
  | [], d, x => by rw [fdL, szUL]; omega
  | u :: l, d, x => by rw [fdL, fd_sz u, fdL_sz l, szUL]; omega
end
mutual
theorem fd_dp : ∀ (u : U) (d x : Nat), fdU (fun _ d m => max m d) d u x = max x (d + dpU u - 1)
  | .mk k n s l, d, x => by
    rw [fdU, dpU]
    split
    · rw [fdL_dp l (d + 1) (max x d) (by omega)]; omega
    · congr 1
theorem fdL_dp : ∀ (l : List U) (d x : Nat), d ≤ x + 1 → fdL (fun _ d m => max m d) d l x = max x (d + dpL l - 1)
  | [], d, x, h => by rw [fdL, dpL]; omega
  | u :: l, d, x, h => by rw [fdL, fd_dp u, fdL_dp l _ _ (by omega), dpL]; omega
end
/-- what a part adds to the variables -/
def addU (u : U) (_ : Nat) (acc : List Int) : List Int := if u.k = 1 then addV acc u.n else acc
mutual
theorem fd_vs : ∀ (u : U) (d : Nat) (x : List Int), fdU addU d u x = addVs x (vsU u)
  | .mk k n s l, d, x => by
    rw [fdU, vsU]
    by_cases h1 : k = 1
    · subst h1
      rw [if_neg (by omega), if_pos rfl, addVs_cons, addVs_nil, addU]; exact if_pos rfl
    · rw [if_neg h1]
      have e : addU (.mk k n s l) d x = x := by rw [addU]; exact if_neg h1
      rw [e]
      split
      · rw [fdL_vs l]
      · rw [addVs_nil]
theorem fdL_vs : ∀ (l : List U) (d : Nat) (x : List Int), fdL addU d l x = addVs x (vsL l)
  | [], d, x => by rw [fdL, vsL, addVs_nil]
  | u :: l, d, x => by rw [fdL, fd_vs u, fdL_vs l, vsL, addVs_app]
end

/-! ### the order -/
def ltB : List UInt8 → List UInt8 → Bool := Op.bytesLess
theorem ltB_irr : ∀ (a : List UInt8), ltB a a = false
  | [] => rfl
  | x :: a => by
    have := ltB_irr a
    unfold ltB at this ⊢
    simp [Op.bytesLess, this]
theorem ltB_tri : ∀ (a b : List UInt8), ltB a b = false → ltB b a = false → a = b
  | [], [], _, _ => rfl
  | [], y :: b, h, _ => by simp [ltB, Op.bytesLess] at h
  | x :: a, [], _, h => by simp [ltB, Op.bytesLess] at h
  | x :: a, y :: b, h1, h2 => by
    simp [ltB, Op.bytesLess, UInt8.le_iff_toNat_le] at h1 h2
    have e : x = y := UInt8.toNat_inj.1 (by omega)
    subst e
    simp at h1 h2
    rw [ltB_tri a b h1 h2]
theorem ltB_trans : ∀ (a b c : List UInt8), ltB a b = true → ltB b c = true → ltB a c = true
  | _, b, [], _, h => by cases b <;> simp [ltB, Op.bytesLess] at h
  | _, [], _ :: _, h, _ => by simp [ltB, Op.bytesLess] at h
  | [], _ :: _, _ :: _, _, _ => by simp [ltB, Op.bytesLess]
  | x :: a, y :: b, z :: c, h1, h2 => by
    have ih := ltB_trans a b c
    simp only [ltB, Op.bytesLess, Bool.or_eq_true, Bool.and_eq_true, decide_eq_true_eq, beq_iff_eq, UInt8.lt_iff_toNat_lt] at h1 h2 ih ⊢
    rcases h1 with h1 | ⟨rfl, h1⟩
    · rcases h2 with h2 | ⟨rfl, h2⟩
      · exact .inl (by omega)
      · exact .inl h1
    · rcases h2 with h2 | ⟨rfl, h2⟩
      · exact .inl h2
      · exact .inr ⟨rfl, ih h1 h2⟩
def ordI (a b : Int) : Int := if a < b then -1 else if a = b then 0 else 1
def ordS (a b : List UInt8) : Int := if ltB a b = true then -1 else if a = b then 0 else 1
/-- the first that is not 0 -/
def lx (a b : Int) : Int := if a = 0 then b else a
mutual
def cmpU : U → U → Int
  | .mk k n s l, v => lx (ordI k v.k) (if k = 1 ∨ k = 2 then ordI n v.n else if k = 3 then ordS s v.s else lx (ordI l.length v.l.length) (lx (ordS s v.s) (cmpL l v.l)))
def cmpL : List U → List U → Int
  | u :: l, v :: l' => lx (cmpU u v) (cmpL l l')
  | _, _ => 0
end
theorem cmpU_eq (u v : U) : cmpU u v = lx (ordI u.k v.k) (if u.k = 1 ∨ u.k = 2 then ordI u.n v.n else if u.k = 3 then ordS u.s v.s else lx (ordI u.l.length v.l.length) (lx (ordS u.s v.s) (cmpL u.l v.l))) := by
  cases u; rw [cmpU]; rfl
theorem ordI_zero {a b : Int} : ordI a b = 0 ↔ a = b := by unfold ordI; repeat' split <;> omega
theorem ordS_self (a : List UInt8) : ordS a a = 0 := by unfold ordS; rw [ltB_irr]; simp
theorem ordS_zero {a b : List UInt8} : ordS a b = 0 ↔ a = b := by
  constructor
  · unfold ordS
    split
    · intro h; omega
    · split
      · rename_i h; exact fun _ => h
      · intro h; omega
  · rintro rfl; exact ordS_self a
theorem lx_zero {a b : Int} : lx a b = 0 ↔ a = 0 ∧ b = 0 := by unfold lx; split <;> omega
section
variable {u v : U}
theorem cmp_k (h : u.k ≠ v.k) : cmpU u v = ordI u.k v.k := by rw [cmpU_eq, lx, if_neg (fun e => h (ordI_zero.1 e))]
theorem cmp_n (h : u.k = v.k) (h1 : u.k = 1 ∨ u.k = 2) : cmpU u v = ordI u.n v.n := by rw [cmpU_eq, lx, if_pos (ordI_zero.2 h), if_pos h1]
theorem cmp_s (h : u.k = v.k) (h1 : u.k = 3) : cmpU u v = ordS u.s v.s := by rw [cmpU_eq, lx, if_pos (ordI_zero.2 h), if_neg (by omega), if_pos h1]
theorem cmp_len (h : u.k = v.k) (h1 : u.k ≠ 1) (h2 : u.k ≠ 2) (h3 : u.k ≠ 3) (h4 : u.l.length ≠ v.l.length) : cmpU u v = ordI u.l.length v.l.length := by
  rw [cmpU_eq, lx, if_pos (ordI_zero.2 h), if_neg (by omega), if_neg h3, lx, if_neg (fun e => h4 (by have := ordI_zero.1 e; omega))]
theorem cmp_nm (h : u.k = v.k) (h1 : u.k ≠ 1) (h2 : u.k ≠ 2) (h3 : u.k ≠ 3) (h4 : u.l.length = v.l.length) (h5 : u.s ≠ v.s) : cmpU u v = ordS u.s v.s := by
  rw [cmpU_eq, lx, if_pos (ordI_zero.2 h), if_neg (by omega), if_neg h3, lx, if_pos (ordI_zero.2 (by omega)), lx, if_neg (fun e => h5 (ordS_zero.1 e))]
theorem cmp_l (h : u.k = v.k) (h1 : u.k ≠ 1) (h2 : u.k ≠ 2) (h3 : u.k ≠ 3) (h4 : u.l.length = v.l.length) (h5 : u.s = v.s) : cmpU u v = cmpL u.l v.l := by
  rw [cmpU_eq, lx, if_pos (ordI_zero.2 h), if_neg (by omega), if_neg h3, lx, if_pos (ordI_zero.2 (by omega)), lx, if_pos (ordS_zero.2 h5)]
end
/-! #### -1, 0, 1 -/
def In1 (a : Int) : Prop := a = -1 ∨ a = 0 ∨ a = 1
theorem ordI_in (a b : Int) : In1 (ordI a b) := by unfold ordI In1; repeat' split <;> omega
theorem ordS_in (a b : List UInt8) : In1 (ordS a b) := by unfold ordS In1; repeat' split <;> omega
theorem lx_in {a b : Int} (h : In1 a) (k : In1 b) : In1 (lx a b) := by unfold lx; split <;> assumption
mutual
theorem cmp_in : ∀ (u v : U), In1 (cmpU u v)
  | .mk k n s l, v => by
    rw [cmpU]
    refine lx_in (ordI_in _ _) ?_
    split
    · exact ordI_in _ _
    split
    · exact ordS_in _ _
    · exact lx_in (ordI_in _ _) (lx_in (ordS_in _ _) (cmpL_in l _))
theorem cmpL_in : ∀ (l m : List U), In1 (cmpL l m)
  | [], m => by rw [cmpL]; exact .inr (.inl rfl); simp
  | u :: l, [] => by rw [cmpL]; exact .inr (.inl rfl); simp
  | u :: l, v :: m => by rw [cmpL]; exact lx_in (cmp_in u v) (cmpL_in l m)
end
/-! #### the other way round -/
theorem ordI_neg (a b : Int) : ordI b a = -ordI a b := by unfold ordI; repeat' split <;> omega
theorem ordS_neg (a b : List UInt8) : ordS b a = -ordS a b := by
  unfold ordS
  by_cases h : ltB a b = true
  · have h2 : ltB b a ≠ true := fun k => by have := ltB_trans _ _ _ h k; rw [ltB_irr] at this; cases this
    have h3 : b ≠ a := fun e => by subst e; rw [ltB_irr] at h; cases h
    simp [h, h2, h3]
  · by_cases h2 : ltB b a = true
    · have h3 : a ≠ b := fun e => by subst e; rw [ltB_irr] at h2; cases h2
      simp [h, h2, h3]
    · have h3 := ltB_tri a b (by simpa using h) (by simpa using h2)
      subst h3
      simp [h]
theorem lx_neg {a b c d : Int} (h : c = -a) (k : a = 0 → d = -b) : lx c d = -lx a b := by unfold lx; repeat' split <;> first | omega | (have := k (by omega); omega)
mutual
theorem cmp_neg : ∀ (u v : U), cmpU v u = -cmpU u v
  | .mk k n s l, v => by
    have ih := cmpL_neg l
    rw [cmpU_eq v, cmpU]
    refine lx_neg (ordI_neg _ _) fun h => ?_
    have hk : k = v.k := ordI_zero.1 h
    subst hk
    show (if v.k = 1 ∨ v.k = 2 then ordI v.n n else if v.k = 3 then ordS v.s s else lx (ordI v.l.length l.length) (lx (ordS v.s s) (cmpL v.l l))) = _
    split
    · exact ordI_neg _ _
    split
    · exact ordS_neg _ _
    · exact lx_neg (ordI_neg _ _) fun _ => lx_neg (ordS_neg _ _) fun _ => ih _
theorem cmpL_neg : ∀ (l m : List U), cmpL m l = -cmpL l m
  | [], m => by cases m <;> simp [cmpL]
  | u :: l, [] => by simp [cmpL]
  | u :: l, v :: m => by rw [cmpL, cmpL]; exact lx_neg (cmp_neg u v) fun _ => cmpL_neg l m
end
theorem cmp_self (u : U) : cmpU u u = 0 := by have := cmp_neg u u; omega
/-! #### a total order -/
def Tr (x y z : Int) : Prop := x ≤ 0 → y ≤ 0 → z ≤ 0 ∧ (z < 0 ↔ x < 0 ∨ y < 0)
theorem lx_tr {x y z x' y' z' : Int} (h : Tr x y z) (k : x = 0 → y = 0 → z = 0 → Tr x' y' z') : Tr (lx x x') (lx y y') (lx z z') := by
  intro hx hy
  by_cases h1 : x = 0
  · by_cases h2 : y = 0
    · have h3 := h (by omega) (by omega)
      have h4 : z = 0 := by
        rcases Int.lt_or_eq_of_le h3.1 with h5 | h5
        · have := h3.2.1 h5; omega
        · exact h5
      simp only [lx, h1, h2, h4, if_true] at hx hy ⊢
      exact k h1 h2 h4 hx hy
    · simp only [lx, h1, if_neg h2, if_true] at hx hy ⊢
      have h3 := h (by omega) (by omega)
      have h4 : z < 0 := h3.2.2 (.inr (by omega))
      rw [if_neg (by omega)]
      exact ⟨by omega, by omega⟩
  · simp only [lx, if_neg h1] at hx ⊢
    have hy0 : y ≤ 0 := by unfold lx at hy; split at hy <;> omega
    have h3 := h (by omega) hy0
    have h4 : z < 0 := h3.2.2 (.inl (by omega))
    rw [if_neg (by omega)]
    exact ⟨by omega, ⟨fun _ => .inl (by omega), fun _ => h4⟩⟩
theorem ordI_tr (a b c : Int) : Tr (ordI a b) (ordI b c) (ordI a c) := by
  unfold Tr ordI
  repeat' split <;> omega
theorem ordS_tr (a b c : List UInt8) : Tr (ordS a b) (ordS b c) (ordS a c) := by
  intro hx hy
  unfold ordS at hx hy ⊢
  by_cases h1 : ltB a b = true
  · by_cases h2 : ltB b c = true
    · simp [h1, h2, ltB_trans _ _ _ h1 h2]
    · rw [if_neg h2] at hy
      by_cases h3 : b = c
      · subst h3; simp [h1]
      · rw [if_neg h3] at hy; omega
  · rw [if_neg h1] at hx
    by_cases h3 : a = b
    · subst h3
      by_cases h2 : ltB a c = true
      · simp [h2]
      · rw [if_neg h2] at hy
        by_cases h4 : a = c
        · subst h4; simp [ltB_irr]
        · rw [if_neg h4] at hy; omega
    · rw [if_neg h3] at hx; omega
mutual
theorem cmp_tr : ∀ (u v w : U), Tr (cmpU u v) (cmpU v w) (cmpU u w)
  | .mk k n s l, v, w => by
    have ih := cmpL_tr l
    rw [cmpU_eq v, cmpU, cmpU]
    refine lx_tr (ordI_tr _ _ _) fun h1 h2 _ => ?_
    have hk : k = v.k := ordI_zero.1 h1
    have hk2 : v.k = w.k := ordI_zero.1 h2
    subst hk
    split
    · exact ordI_tr _ _ _
    split
    · exact ordS_tr _ _ _
    · refine lx_tr (ordI_tr _ _ _) fun h1 h2 _ => lx_tr (ordS_tr _ _ _) fun _ _ _ => ih _ _ ?_ ?_
      · have := ordI_zero.1 h1; omega
      · have := ordI_zero.1 h2; omega
theorem cmpL_tr : ∀ (l m p : List U), l.length = m.length → m.length = p.length → Tr (cmpL l m) (cmpL m p) (cmpL l p)
  | [], m, p, _, _ => by
    intro _ _
    have : cmpL m p = 0 := by
      have hm : m = [] := List.length_eq_zero_iff.1 (by simp_all)
      subst hm; simp [cmpL]
    rw [this]
    simp [cmpL]
  | u :: l, [], p, h, _ => by simp at h
  | u :: l, v :: m, [], _, h => by simp at h
  | u :: l, v :: m, w :: p, h1, h2 => by
    rw [cmpL, cmpL, cmpL]
    exact lx_tr (cmp_tr u v w) fun _ _ _ => cmpL_tr l m p (by simpa using h1) (by simpa using h2)
end
/-! #### the same is the same -/
mutual
/-- no junk in fields that do not count -/
def clU : U → Prop
  | .mk k n s l => (k = 1 ∧ s = [] ∧ l = []) ∨ (k = 2 ∧ s = [] ∧ l = []) ∨ (k = 3 ∧ n = 0 ∧ l = []) ∨ (k = 4 ∧ n = 0 ∧ clL l)
def clL : List U → Prop
  | [] => True
  | u :: l => clU u ∧ clL l
end
theorem cl_eq (u : U) : clU u ↔ (u.k = 1 ∧ u.s = [] ∧ u.l = []) ∨ (u.k = 2 ∧ u.s = [] ∧ u.l = []) ∨ (u.k = 3 ∧ u.n = 0 ∧ u.l = []) ∨ (u.k = 4 ∧ u.n = 0 ∧ clL u.l) := by cases u; rw [clU]; exact Iff.rfl
mutual
theorem cmp_same : ∀ (u v : U), clU u → clU v → cmpU u v = 0 → u = v
  | .mk k n s l, .mk k' n' s' l', h, h', h0 => by
    have ih := cmpL_same l l'
    rw [cmpU] at h0
    rw [clU] at h h'
    obtain ⟨h1, h2⟩ := lx_zero.1 h0
    have hk : k = k' := ordI_zero.1 h1
    subst hk
    dsimp only [U.k, U.n, U.s, U.l] at h2
    rcases h with ⟨rfl, rfl, rfl⟩ | ⟨rfl, rfl, rfl⟩ | ⟨rfl, rfl, rfl⟩ | ⟨rfl, rfl, hl⟩
    · rcases h' with ⟨_, rfl, rfl⟩ | ⟨h, _⟩ | ⟨h, _⟩ | ⟨h, _⟩
      · rw [if_pos (.inl rfl)] at h2
        rw [ordI_zero.1 h2]
      all_goals omega
    · rcases h' with ⟨h, _⟩ | ⟨_, rfl, rfl⟩ | ⟨h, _⟩ | ⟨h, _⟩
      · omega
      · rw [if_pos (.inr rfl)] at h2
        rw [ordI_zero.1 h2]
      all_goals omega
    · rcases h' with ⟨h, _⟩ | ⟨h, _⟩ | ⟨_, rfl, rfl⟩ | ⟨h, _⟩
      · omega
      · omega
      · rw [if_neg (by omega), if_pos rfl] at h2
        rw [ordS_zero.1 h2]
      · omega
    · rcases h' with ⟨h, _⟩ | ⟨h, _⟩ | ⟨h, _⟩ | ⟨_, rfl, hl'⟩
      · omega
      · omega
      · omega
      · rw [if_neg (by omega), if_neg (by omega)] at h2
        obtain ⟨h3, h4⟩ := lx_zero.1 h2
        obtain ⟨h5, h6⟩ := lx_zero.1 h4
        rw [ordS_zero.1 h5, ih hl hl' (by have := ordI_zero.1 h3; omega) h6]
theorem cmpL_same : ∀ (l m : List U), clL l → clL m → l.length = m.length → cmpL l m = 0 → l = m
  | [], [], _, _, _, _ => rfl
  | [], _ :: _, _, _, h, _ => by simp at h
  | _ :: _, [], _, _, h, _ => by simp at h
  | u :: l, v :: m, h, h', hl, h0 => by
    rw [clL] at h h'
    rw [cmpL] at h0
    obtain ⟨h1, h2⟩ := lx_zero.1 h0
    rw [cmp_same u v h.1 h'.1 h1, cmpL_same l m h.2 h'.2 (by simpa using hl) h2]
end
end Go.Proofs.Ytjccohcigopdfaa.tm
end
