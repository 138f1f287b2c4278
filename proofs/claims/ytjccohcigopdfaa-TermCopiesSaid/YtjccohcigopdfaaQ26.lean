/- Variants: renaming pair by pair, and numbering by where a variable comes first: the same. No program in sight. -/
import Derived.Test.YtjccohcigopdfaaQ21
set_option linter.unusedVariables false
set_option linter.unusedSimpArgs false
section
/- Variants: renaming pair by pair, and numbering by where a variable comes first: the same. No program in sight. -/
namespace Go.Proofs.Ytjccohcigopdfaa.tm
open Go.Proofs.Ytjccohcigopdfaa.wr
open Go.Proofs.Ytjccohcigopdfaa.op (bs)
set_option maxRecDepth 20000

/-! ### places -/
/-- where a number stands; -1: nowhere -/
def posI (l : List Int) (n : Int) : Int := if n ∈ l then (l.idxOf n : Nat) else -1
theorem posI_app {l m : List Int} {n : Int} (h : n ∈ l) : posI (l ++ m) n = posI l n := by
  unfold posI
  rw [if_pos h, if_pos (List.mem_append_left _ h), List.idxOf_append, if_pos h]
theorem posI_pre {l L : List Int} {n : Int} (h : n ∈ l) (hp : l <+: L) : posI L n = posI l n := by
  obtain ⟨m, rfl⟩ := hp; exact posI_app h
theorem posI_at {l : List Int} {i : Nat} (hn : l.Nodup) (hi : i < l.length) : posI l l[i] = i := by
  unfold posI
  rw [if_pos (List.getElem_mem hi), hn.idxOf_getElem]
theorem posI_inj {l : List Int} {i : Nat} {n : Int} (h : posI l n = (i : Nat)) : i < l.length ∧ l[i]? = some n := by
  unfold posI at h
  split at h
  · rename_i hm
    have h1 := List.idxOf_lt_length_iff.2 hm
    have h2 : l.idxOf n = i := by omega
    subst h2
    exact ⟨h1, by rw [List.getElem?_eq_getElem h1, List.getElem_idxOf]⟩
  · omega
theorem pre_addVs (acc l : List Int) : acc <+: addVs acc l := by
  induction l generalizing acc with
  | nil => exact List.prefix_refl _
  | cons n l ih =>
    rw [addVs_cons]
    refine List.IsPrefix.trans ?_ (ih _)
    unfold addV
    split
    · exact List.prefix_refl _
    · exact List.prefix_append _ _

/-! ### numbered -/
mutual
def numU (L : List Int) : U → U
  | .mk k n s l => if k = 1 then .mk 1 (posI L n) [] [] else if k = 4 then .mk 4 0 s (numUL L l) else .mk k n s l
def numUL (L : List Int) : List U → List U
  | [] => []
  | u :: l => numU L u :: numUL L l
end
theorem numU_eq (L : List Int) (u : U) : numU L u = if u.k = 1 then .mk 1 (posI L u.n) [] [] else if u.k = 4 then .mk 4 0 u.s (numUL L u.l) else u := by cases u; rw [numU]; rfl
theorem numUL_len (L : List Int) : ∀ (l : List U), (numUL L l).length = l.length
  | [] => by rw [numUL]
  | u :: l => by rw [numUL, List.length_cons, List.length_cons, numUL_len L l]
theorem numUL_map (L : List Int) (l : List U) : numUL L l = l.map (numU L) := by
  induction l with
  | nil => rw [numUL]; rfl
  | cons u l ih => rw [numUL, ih]; rfl
theorem numU_k (L : List Int) (u : U) : (numU L u).k = u.k := by
  rw [numU_eq]; split
  · rename_i h; rw [h]; rfl
  · split
    · rename_i h; rw [h]; rfl
    · rfl
mutual
theorem numU_cl (L : List Int) : ∀ (u : U), clU u → clU (numU L u)
  | .mk k n s l, h => by
    rw [clU] at h
    rw [numU]
    rcases h with ⟨rfl, h⟩ | ⟨rfl, h1, h2⟩ | ⟨rfl, h1, h2⟩ | ⟨rfl, rfl, h⟩
    · rw [if_pos rfl, clU]; exact .inl ⟨rfl, rfl, rfl⟩
    · rw [if_neg (by omega), if_neg (by omega), clU]; exact .inr (.inl ⟨rfl, h1, h2⟩)
    · rw [if_neg (by omega), if_neg (by omega), clU]; exact .inr (.inr (.inl ⟨rfl, h1, h2⟩))
    · rw [if_neg (by omega), if_pos rfl, clU]; exact .inr (.inr (.inr ⟨rfl, rfl, numUL_cl L l h⟩))
theorem numUL_cl (L : List Int) : ∀ (l : List U), clL l → clL (numUL L l)
  | [], _ => by rw [numUL, clL]; trivial
  | u :: l, h => by rw [clL] at h; rw [numUL, clL]; exact ⟨numU_cl L u h.1, numUL_cl L l h.2⟩
end
mutual
theorem numU_sz (L : List Int) : ∀ (u : U), szU (numU L u) = szU u
  | .mk k n s l => by
    have := numUL_sz L l
    rw [numU]
    split
    · rename_i h; subst h; simp [szU]
    · split
      · rename_i h; subst h; rw [szU, szU, this]
      · rfl
theorem numUL_sz (L : List Int) : ∀ (l : List U), szUL (numUL L l) = szUL l
  | [] => by rw [numUL]
  | u :: l => by rw [numUL, szUL, szUL, numU_sz L u, numUL_sz L l]
end

/-! ### renamed pair by pair -/
abbrev Ps := List (Int × Int)
def fitV (ps : Ps) (a b : Int) : Option Ps := if (a, b) ∈ ps then some ps else if a ∈ ps.map Prod.fst ∨ b ∈ ps.map Prod.snd then none else some (ps ++ [(a, b)])
mutual
def fitU : U → U → Ps → Option Ps
  | .mk k n s l, v, ps => if k ≠ v.k then none else if k = 1 then fitV ps n v.n else if k = 2 then (if n = v.n then some ps else none) else if k = 3 then (if s = v.s then some ps else none) else
    if s = v.s ∧ l.length = v.l.length then fitL l v.l ps else none
def fitL : List U → List U → Ps → Option Ps
  | u :: l, v :: m, ps => match fitU u v ps with
    | none => none
    | some qs => fitL l m qs
  | _, _, ps => some ps
end
theorem fitU_eq (u v : U) (ps : Ps) : fitU u v ps = if u.k ≠ v.k then none else if u.k = 1 then fitV ps u.n v.n else if u.k = 2 then (if u.n = v.n then some ps else none) else if u.k = 3 then (if u.s = v.s then some ps else none) else
    if u.s = v.s ∧ u.l.length = v.l.length then fitL u.l v.l ps else none := by cases u; rw [fitU]; rfl
def okP (ps : Ps) : Prop := (ps.map Prod.fst).Nodup ∧ (ps.map Prod.snd).Nodup
theorem fitV_ok {ps qs : Ps} {a b : Int} (h : okP ps) (hf : fitV ps a b = some qs) : okP qs ∧ qs.map Prod.fst = addV (ps.map Prod.fst) a ∧ qs.map Prod.snd = addV (ps.map Prod.snd) b := by
  unfold fitV at hf
  split at hf
  · rename_i hm
    cases hf
    exact ⟨h, by rw [addV, if_pos (List.mem_map.2 ⟨_, hm, rfl⟩)], by rw [addV, if_pos (List.mem_map.2 ⟨_, hm, rfl⟩)]⟩
  · split at hf
    · cases hf
    · rename_i hn
      cases hf
      have h1 : a ∉ ps.map Prod.fst := fun e => hn (.inl e)
      have h2 : b ∉ ps.map Prod.snd := fun e => hn (.inr e)
      have e1 : (ps ++ [(a, b)]).map Prod.fst = addV (ps.map Prod.fst) a := by rw [addV, if_neg h1]; simp
      have e2 : (ps ++ [(a, b)]).map Prod.snd = addV (ps.map Prod.snd) b := by rw [addV, if_neg h2]; simp
      exact ⟨⟨by rw [e1]; exact addV_nodup h.1 a, by rw [e2]; exact addV_nodup h.2 b⟩, e1, e2⟩
theorem fitV_pos {ps : Ps} {a b : Int} {A B : List Int} (h : okP ps) (hA : A.Nodup) (hB : B.Nodup) (pA : addV (ps.map Prod.fst) a <+: A) (pB : addV (ps.map Prod.snd) b <+: B) : (fitV ps a b).isSome = true ↔ posI A a = posI B b := by
  have qA : ps.map Prod.fst <+: A := List.IsPrefix.trans (pre_addVs _ [a]) pA
  have qB : ps.map Prod.snd <+: B := List.IsPrefix.trans (pre_addVs _ [b]) pB
  unfold fitV
  by_cases hm : (a, b) ∈ ps
  · rw [if_pos hm]
    obtain ⟨i, hi, he⟩ := List.getElem_of_mem hm
    have ha : (ps.map Prod.fst)[i]'(by simpa using hi) = a := by simp [he]
    have hb : (ps.map Prod.snd)[i]'(by simpa using hi) = b := by simp [he]
    rw [posI_pre (List.mem_map.2 ⟨_, hm, rfl⟩) qA, posI_pre (List.mem_map.2 ⟨_, hm, rfl⟩) qB]
    have p1 := posI_at h.1 (i := i) (by simpa using hi)
    have p2 := posI_at h.2 (i := i) (by simpa using hi)
    rw [ha] at p1
    rw [hb] at p2
    simp [p1, p2]
  · rw [if_neg hm]
    by_cases ha : a ∈ ps.map Prod.fst
    · rw [if_pos (.inl ha)]
      refine ⟨fun h => by simp at h, fun he => ?_⟩
      exfalso
      rw [posI_pre ha qA] at he
      obtain ⟨i, hi, hx⟩ := List.getElem_of_mem ha
      have p1 := posI_at h.1 hi
      rw [hx] at p1
      rw [p1] at he
      obtain ⟨h1, h2⟩ := posI_inj he.symm
      have hi' : i < ps.length := by simpa using hi
      obtain ⟨m, rfl⟩ := qB
      rw [List.getElem?_append_left (by simpa using hi'), List.getElem?_eq_getElem (by simpa using hi')] at h2
      apply hm
      have h3 : ps[i] = (a, b) := by
        have e1 : ps[i].1 = a := by simpa using hx
        have e2 : ps[i].2 = b := by simpa using h2
        rw [← e1, ← e2]
      rw [← h3]; exact List.getElem_mem _
    · by_cases hb : b ∈ ps.map Prod.snd
      · rw [if_pos (.inr hb)]
        refine ⟨fun h => by simp at h, fun he => ?_⟩
        exfalso
        rw [posI_pre hb qB] at he
        obtain ⟨i, hi, hx⟩ := List.getElem_of_mem hb
        have p1 := posI_at h.2 hi
        rw [hx] at p1
        rw [p1] at he
        obtain ⟨h1, h2⟩ := posI_inj he
        have hi' : i < ps.length := by simpa using hi
        obtain ⟨m, rfl⟩ := qA
        rw [List.getElem?_append_left (by simpa using hi'), List.getElem?_eq_getElem (by simpa using hi')] at h2
        apply ha
        have e1 : ps[i].1 = a := by simpa using h2
        rw [← e1]
        exact List.mem_map.2 ⟨_, List.getElem_mem _, rfl⟩
      · rw [if_neg (fun e => e.elim ha hb)]
        refine ⟨fun _ => ?_, fun _ => rfl⟩
        have key : ∀ (l L : List Int) (x : Int), L.Nodup → x ∉ l → addV l x <+: L → posI L x = l.length := fun l L x hL hx hp => by
          rw [addV, if_neg hx] at hp
          rw [posI_pre (by simp) hp]
          have hn : (l ++ [x]).Nodup := hL.sublist hp.sublist
          have := posI_at hn (i := l.length) (by simp)
          simpa using this
        rw [key _ A a hA ha pA, key _ B b hB hb pB]; simp
mutual
theorem fit_num : ∀ (u v : U) (ps : Ps) (A B : List Int), clU u → clU v → okP ps → A.Nodup → B.Nodup → addVs (ps.map Prod.fst) (vsU u) <+: A → addVs (ps.map Prod.snd) (vsU v) <+: B →
    ((fitU u v ps).isSome = true ↔ numU A u = numU B v) ∧ ∀ qs, fitU u v ps = some qs → okP qs ∧ qs.map Prod.fst = addVs (ps.map Prod.fst) (vsU u) ∧ qs.map Prod.snd = addVs (ps.map Prod.snd) (vsU v)
  | .mk k n s l, .mk k' n' s' l', ps, A, B, hu, hv, hp, hA, hB, pA, pB => by
    have ih := fitL_num l l' ps A B
    have kk := numU_k A (.mk k n s l)
    have kk' := numU_k B (.mk k' n' s' l')
    rw [fitU_eq]
    show ((if k ≠ k' then none else if k = 1 then fitV ps n n' else if k = 2 then (if n = n' then some ps else none) else if k = 3 then (if s = s' then some ps else none) else if s = s' ∧ l.length = l'.length then fitL l l' ps else none).isSome = true ↔ _) ∧
      ∀ qs, (if k ≠ k' then none else if k = 1 then fitV ps n n' else if k = 2 then (if n = n' then some ps else none) else if k = 3 then (if s = s' then some ps else none) else if s = s' ∧ l.length = l'.length then fitL l l' ps else none) = some qs → _
    by_cases hk : k = k'
    · subst hk
      rw [if_neg (fun h => h rfl)]
      rw [clU] at hu hv
      rw [vsU] at pA pB ⊢
      rw [vsU, numU, numU]
      rcases hu with ⟨rfl, rfl, rfl⟩ | ⟨rfl, rfl, rfl⟩ | ⟨rfl, rfl, rfl⟩ | ⟨rfl, rfl, hl⟩
      · rw [if_pos rfl] at pA pB
        simp only [if_true]
        rw [addVs_cons, addVs_nil] at pA pB
        refine ⟨?_, fun qs hq => ?_⟩
        · rw [fitV_pos hp hA hB pA pB]
          constructor
          · intro h; rw [h]
          · intro h; injection h
        · rw [addVs_cons, addVs_nil, addVs_cons, addVs_nil]; exact fitV_ok hp hq
      · obtain ⟨rfl, rfl⟩ : s' = [] ∧ l' = [] := by rcases hv with h | h | h | h <;> first | omega | exact h.2
        simp only [show ¬ (2 : Int) = 1 by omega, show ¬ (2 : Int) = 4 by omega, if_false, if_true, addVs_nil]
        by_cases hn : n = n'
        · subst hn; rw [if_pos rfl]; exact ⟨⟨fun _ => rfl, fun _ => rfl⟩, fun qs hq => by cases hq; exact ⟨hp, rfl, rfl⟩⟩
        · rw [if_neg hn]; exact ⟨⟨fun h => by simp at h, fun h => by injection h; contradiction⟩, fun qs hq => by cases hq⟩
      · obtain ⟨rfl, rfl⟩ : n' = 0 ∧ l' = [] := by rcases hv with h | h | h | h <;> first | omega | exact h.2
        simp only [show ¬ (3 : Int) = 1 by omega, show ¬ (3 : Int) = 4 by omega, show ¬ (3 : Int) = 2 by omega, if_false, if_true, addVs_nil]
        by_cases hn : s = s'
        · subst hn; rw [if_pos rfl]; exact ⟨⟨fun _ => rfl, fun _ => rfl⟩, fun qs hq => by cases hq; exact ⟨hp, rfl, rfl⟩⟩
        · rw [if_neg hn]; exact ⟨⟨fun h => by simp at h, fun h => by injection h; contradiction⟩, fun qs hq => by cases hq⟩
      · obtain ⟨rfl, hl'⟩ : n' = 0 ∧ clL l' := by rcases hv with h | h | h | h <;> first | omega | exact h.2
        simp only [show ¬ (4 : Int) = 1 by omega, show ¬ (4 : Int) = 3 by omega, show ¬ (4 : Int) = 2 by omega, if_false, if_true] at pA pB ⊢
        by_cases hs : s = s'
        · subst hs
          by_cases hlen : l.length = l'.length
          · rw [if_pos ⟨rfl, hlen⟩]
            obtain ⟨h1, h2⟩ := ih hlen hl hl' hp hA hB pA pB
            refine ⟨?_, h2⟩
            rw [h1]
            constructor
            · intro h; rw [h]
            · intro h; injection h
          · rw [if_neg (fun h => hlen h.2)]
            refine ⟨⟨fun h => by simp at h, fun h => ?_⟩, fun qs hq => by cases hq⟩
            injection h with _ _ _ h
            have := congrArg List.length h
            rw [numUL_len, numUL_len] at this
            exact absurd this hlen
        · rw [if_neg (fun h => hs h.1)]
          exact ⟨⟨fun h => by simp at h, fun h => by injection h; contradiction⟩, fun qs hq => by cases hq⟩
    · rw [if_pos hk]
      refine ⟨⟨fun h => by simp at h, fun h => ?_⟩, fun qs hq => by cases hq⟩
      exfalso
      rw [h, kk'] at kk
      exact hk kk.symm
theorem fitL_num : ∀ (l m : List U) (ps : Ps) (A B : List Int), l.length = m.length → clL l → clL m → okP ps → A.Nodup → B.Nodup → addVs (ps.map Prod.fst) (vsL l) <+: A → addVs (ps.map Prod.snd) (vsL m) <+: B →
    ((fitL l m ps).isSome = true ↔ numUL A l = numUL B m) ∧ ∀ qs, fitL l m ps = some qs → okP qs ∧ qs.map Prod.fst = addVs (ps.map Prod.fst) (vsL l) ∧ qs.map Prod.snd = addVs (ps.map Prod.snd) (vsL m)
  | [], [], ps, A, B, _, _, _, hp, _, _, _, _ => by
    rw [fitL, numUL, numUL, vsL, addVs_nil, addVs_nil]
    · exact ⟨⟨fun _ => rfl, fun _ => rfl⟩, fun qs hq => by cases hq; exact ⟨hp, rfl, rfl⟩⟩
    · simp
  | [], _ :: _, _, _, _, h, _, _, _, _, _, _, _ => by simp at h
  | _ :: _, [], _, _, _, h, _, _, _, _, _, _, _ => by simp at h
  | u :: l, v :: m, ps, A, B, hlen, hu, hv, hp, hA, hB, pA, pB => by
    rw [clL] at hu hv
    rw [vsL, addVs_app] at pA pB
    obtain ⟨h1, h2⟩ := fit_num u v ps A B hu.1 hv.1 hp hA hB (List.IsPrefix.trans (pre_addVs _ _) pA) (List.IsPrefix.trans (pre_addVs _ _) pB)
    rw [fitL, numUL, numUL, vsL, vsL, addVs_app, addVs_app]
    cases hf : fitU u v ps with
    | none =>
      dsimp only
      refine ⟨⟨fun h => by simp at h, fun h => ?_⟩, fun qs hq => by cases hq⟩
      injection h with h3 _
      rw [hf] at h1
      exact absurd (h1.2 h3) (by simp)
    | some qs =>
      dsimp only
      obtain ⟨k1, k2, k3⟩ := h2 qs hf
      rw [← k2] at pA ⊢
      rw [← k3] at pB ⊢
      obtain ⟨g1, g2⟩ := fitL_num l m qs A B (by simpa using hlen) hu.2 hv.2 k1 hA hB pA pB
      refine ⟨?_, g2⟩
      rw [g1]
      rw [hf] at h1
      have h3 : numU A u = numU B v := h1.1 rfl
      constructor
      · intro h; rw [h3, h]
      · intro h; injection h
end
/-- are they variants -/
def varU (u v : U) : Bool := (fitU u v []).isSome
theorem var_num {u v : U} (hu : clU u) (hv : clU v) : varU u v = true ↔ numU (varsU u) u = numU (varsU v) v := by
  have := (fit_num u v [] (varsU u) (varsU v) hu hv ⟨by simp, by simp⟩ (addVs_nodup _ (by simp)) (addVs_nodup _ (by simp)) (List.prefix_refl _) (List.prefix_refl _)).1
  exact this
theorem var_cmp {u v : U} (hu : clU u) (hv : clU v) : decide (cmpU (numU (varsU u) u) (numU (varsU v) v) = 0) = varU u v := by
  rw [Bool.eq_iff_iff, decide_eq_true_iff, var_num hu hv]
  constructor
  · exact cmp_same _ _ (numU_cl _ u hu) (numU_cl _ v hv)
  · intro h; rw [h]; exact cmp_self _
theorem var_comm {u v : U} (hu : clU u) (hv : clU v) : varU v u = varU u v := by
  rw [Bool.eq_iff_iff, var_num hv hu, var_num hu hv]; exact eq_comm
theorem var_self {u : U} (hu : clU u) : varU u u = true := (var_num hu hu).2 rfl
end Go.Proofs.Ytjccohcigopdfaa.tm
end
