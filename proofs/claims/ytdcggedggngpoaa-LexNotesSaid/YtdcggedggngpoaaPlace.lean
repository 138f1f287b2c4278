/- Tokens rise, do not overlap, and hold their texts. Plain lists. -/
import Derived.Test.YtdcggedggngpoaaPure
namespace Go.Proofs.Ytdcggedggngpoaa.lx

/-- where the last token ends -/
def lastTo (ts : List Tok) : Nat := match ts.getLast? with
  | some t => t.to
  | none => 0
theorem lastTo_snoc (ts : List Tok) (t : Tok) : lastTo (ts ++ [t]) = t.to := by simp [lastTo]
/-- a token in its place: behind e, its text there, or two bytes less within quotes -/
def PlOk (l : List UInt8) (e : Nat) (t : Tok) : Prop :=
  e ≤ t.frm ∧ t.frm < t.to ∧ t.to ≤ l.length ∧ (l.getD t.frm 0 ≠ 39 → (l.take t.to).drop t.frm = t.text) ∧ (l.getD t.frm 0 = 39 → t.text.length + 2 ≤ t.to - t.frm)
def PlAll (l : List UInt8) (ts : List Tok) : Prop := ∀ i (h : i < ts.length), PlOk l (lastTo (ts.take i)) ts[i]
theorem plAll_nil (l : List UInt8) : PlAll l [] := fun _ h => absurd h (Nat.not_lt_zero _)
theorem plAll_snoc {l : List UInt8} {ts : List Tok} {t : Tok} (h : PlAll l ts) (ht : PlOk l (lastTo ts) t) : PlAll l (ts ++ [t]) := by
  intro i hi
  rw [List.length_append, List.length_singleton] at hi
  by_cases hl : i < ts.length
  · rw [List.getElem_append_left hl, List.take_append_of_le_length (by omega)]; exact h i hl
  · obtain rfl : i = ts.length := by omega
    rw [List.getElem_append_right (Nat.le_refl _)]
    simp only [Nat.sub_self, List.getElem_cons_zero]
    rw [List.take_left]; exact ht
theorem plAll_last {l : List UInt8} {ts : List Tok} (h : PlAll l ts) : lastTo ts ≤ l.length := by
  rcases ts.eq_nil_or_concat with rfl | ⟨r, t, rfl⟩
  · exact Nat.zero_le _
  · rw [List.concat_eq_append] at h ⊢
    rw [lastTo_snoc]
    have := h r.length (by simp)
    rw [List.getElem_append_right (Nat.le_refl _)] at this
    simp only [Nat.sub_self, List.getElem_cons_zero] at this
    exact this.2.2.1

/-- what holds of the machine at the place n of the text l -/
def Inv (l : List UInt8) (ts : List Tok) (n : Nat) : Mode → Prop
  | .btw => lastTo ts ≤ n
  | .line => lastTo ts < n
  | .slash f => lastTo ts ≤ f ∧ f + 1 = n ∧ l.getD f 0 = 47
  | .dot f => lastTo ts ≤ f ∧ f + 1 = n ∧ l.getD f 0 = 46
  | .rem _ => lastTo ts ≤ n
  | .star _ => lastTo ts ≤ n
  | .word _ f acc => lastTo ts ≤ f ∧ f < n ∧ l.getD f 0 ≠ 39 ∧ (l.take n).drop f = acc
  | .quo f acc => lastTo ts ≤ f ∧ l.getD f 0 = 39 ∧ f + acc.length + 1 ≤ n
  | .quoq f acc => lastTo ts ≤ f ∧ l.getD f 0 = 39 ∧ f + acc.length + 2 ≤ n
  | .esc f acc => lastTo ts ≤ f ∧ l.getD f 0 = 39 ∧ f + acc.length + 2 ≤ n
theorem slice_one {l : List UInt8} {n : Nat} {b : UInt8} (h : l[n]? = some b) : (l.take (n + 1)).drop n = [b] := by
  obtain ⟨hl, rfl⟩ := List.getElem?_eq_some_iff.1 h
  rw [List.take_succ_eq_append_getElem hl, List.drop_append_of_le_length (by simp; omega), List.drop_take]; simp
theorem slice_more {l : List UInt8} {f n : Nat} {b : UInt8} (hf : f ≤ n) (h : l[n]? = some b) : (l.take (n + 1)).drop f = (l.take n).drop f ++ [b] := by
  obtain ⟨hl, rfl⟩ := List.getElem?_eq_some_iff.1 h
  rw [List.take_succ_eq_append_getElem hl, List.drop_append_of_le_length (by simp; omega)]
theorem getD_of {l : List UInt8} {n : Nat} {b : UInt8} (h : l[n]? = some b) : l.getD n 0 = b := by rw [List.getD_eq_getElem?_getD, h]; rfl
theorem getD_lt {l : List UInt8} {n : Nat} {b : UInt8} (h : l[n]? = some b) : n < l.length := (List.getElem?_eq_some_iff.1 h).1
/-- a whole token is put behind the others -/
theorem ends_tok {l : List UInt8} {ts : List Tok} {n : Nat} (hP : PlAll l ts) (hn : n ≤ l.length) {k f : Nat} {acc : List UInt8} (h1 : lastTo ts ≤ f) (h2 : f < n) (h3 : l.getD f 0 ≠ 39) (h4 : (l.take n).drop f = acc) :
    PlAll l (ts ++ [⟨k, acc, f, n⟩]) ∧ lastTo (ts ++ [⟨k, acc, f, n⟩]) = n :=
  ⟨plAll_snoc hP ⟨h1, h2, hn, fun _ => h4, fun h => absurd h h3⟩, lastTo_snoc _ _⟩
theorem ends_quo {l : List UInt8} {ts : List Tok} {n : Nat} (hP : PlAll l ts) (hn : n ≤ l.length) {k f : Nat} {acc : List UInt8} (h1 : lastTo ts ≤ f) (h3 : l.getD f 0 = 39) (h4 : f + acc.length + 2 ≤ n) :
    PlAll l (ts ++ [⟨k, acc, f, n⟩]) ∧ lastTo (ts ++ [⟨k, acc, f, n⟩]) = n :=
  ⟨plAll_snoc hP ⟨h1, by show f < n; omega, hn, fun h => absurd h3 h, fun _ => by show acc.length + 2 ≤ n - f; omega⟩, lastTo_snoc _ _⟩
theorem inv_start {M : Nat} {l : List UInt8} {ts ts' : List Tok} {n : Nat} {b : UInt8} {m' : Mode} (hP : PlAll l ts) (h : lastTo ts ≤ n) (hb : l[n]? = some b) (hs : start M ts n b = .go ts' m') : PlAll l ts' ∧ Inv l ts' (n + 1) m' := by
  have hlt := getD_lt hb
  have hd := getD_of hb
  have h1 := slice_one hb
  unfold start at hs
  split at hs
  · cases hs; exact ⟨hP, by show lastTo ts ≤ n + 1; omega⟩
  split at hs
  · cases hs; exact ⟨hP, by show lastTo ts < n + 1; omega⟩
  split at hs
  · cases hs; exact ⟨hP, h, rfl, by rw [hd]; assumption⟩
  split at hs
  · cases hs
  split at hs
  · cases hs
  have n39 : cl b ≠ 6 → b ≠ 39 := fun h e => h (by rw [e]; decide)
  unfold opening at hs
  by_cases h6 : cl b = 6
  · rw [if_pos h6] at hs; cases hs
    refine ⟨hP, h, ?_, by show n + 0 + 1 ≤ n + 1; omega⟩
    rw [hd]
    have := b.toNat_lt
    have e : b.toNat = 39 := by
      revert h6; unfold cl cls; repeat' split
      all_goals omega
    exact UInt8.toNat_inj.1 (by rw [e]; rfl)
  rw [if_neg h6] at hs
  by_cases h7 : cl b = 7
  · rw [if_pos h7] at hs; cases hs
    obtain ⟨p1, p2⟩ := ends_tok (k := 1) hP (n := n + 1) (by omega) h (by omega) (by rw [hd]; exact n39 h6) h1
    exact ⟨p1, by show lastTo _ ≤ n + 1; omega⟩
  rw [if_neg h7] at hs
  by_cases h8 : cl b = 8
  · rw [if_pos h8] at hs; cases hs
    obtain ⟨p1, p2⟩ := ends_tok (k := if b = 40 ∧ opens ts n = true then 4 else 5) hP (n := n + 1) (by omega) h (by omega) (by rw [hd]; exact n39 h6) h1
    exact ⟨p1, by show lastTo _ ≤ n + 1; omega⟩
  rw [if_neg h8] at hs
  by_cases h46 : b = 46
  · rw [if_pos h46] at hs; cases hs
    exact ⟨hP, h, rfl, by rw [hd, h46]⟩
  rw [if_neg h46] at hs; cases hs
  exact ⟨hP, h, by omega, by rw [hd]; exact n39 h6, h1⟩
theorem inv_step {M : Nat} {l : List UInt8} {ts ts' : List Tok} {n : Nat} {b : UInt8} {m m' : Mode} (hP : PlAll l ts) (h : Inv l ts n m) (hb : l[n]? = some b) (hs : step M ts n b m = .go ts' m') : PlAll l ts' ∧ Inv l ts' (n + 1) m' := by
  have hlt := getD_lt hb
  have hd := getD_of hb
  have go : ∀ {k f : Nat} {acc : List UInt8}, PlAll l (ts ++ [⟨k, acc, f, n⟩]) ∧ lastTo (ts ++ [⟨k, acc, f, n⟩]) = n → start M (ts ++ [⟨k, acc, f, n⟩]) n b = .go ts' m' → PlAll l ts' ∧ Inv l ts' (n + 1) m' :=
    fun hk hs => inv_start hk.1 (by omega) hb hs
  cases m with
  | btw => exact inv_start hP h hb hs
  | line =>
    have h' : lastTo ts < n := h
    simp only [step] at hs
    split at hs <;> cases hs
    · exact ⟨hP, by show lastTo ts ≤ n + 1; omega⟩
    · exact ⟨hP, by show lastTo ts < n + 1; omega⟩
  | slash f =>
    obtain ⟨h1, h2, h3⟩ := h
    simp only [step] at hs
    have hsl : (l.take n).drop f = [47] := by
      have hf : l[f]? = some 47 := by
        rw [List.getD_eq_getElem?_getD] at h3
        cases hx : l[f]? with
        | none => rw [hx] at h3; exact absurd h3 (by decide)
        | some x => rw [hx] at h3; rw [← h3]; rfl
      rw [← h2]; exact slice_one hf
    split at hs
    · cases hs; exact ⟨hP, by show lastTo ts ≤ n + 1; omega⟩
    split at hs
    · cases hs
    split at hs
    · cases hs
      exact ⟨hP, h1, by omega, by rw [h3]; decide, by rw [slice_more (by omega) hb, hsl]; rfl⟩
    · exact go (ends_tok hP (by omega) h1 (by omega) (by rw [h3]; decide) hsl) hs
  | dot f =>
    obtain ⟨h1, h2, h3⟩ := h
    simp only [step] at hs
    have hsl : (l.take n).drop f = [46] := by
      have hf : l[f]? = some 46 := by
        rw [List.getD_eq_getElem?_getD] at h3
        cases hx : l[f]? with
        | none => rw [hx] at h3; exact absurd h3 (by decide)
        | some x => rw [hx] at h3; rw [← h3]; rfl
      rw [← h2]; exact slice_one hf
    split at hs
    · cases hs
      exact ⟨hP, h1, by omega, by rw [h3]; decide, by rw [slice_more (by omega) hb, hsl]; rfl⟩
    · exact go (ends_tok hP (by omega) h1 (by omega) (by rw [h3]; decide) hsl) hs
  | rem f =>
    have h' : lastTo ts ≤ n := h
    simp only [step] at hs
    split at hs <;> cases hs
    · exact ⟨hP, by show lastTo ts ≤ n + 1; omega⟩
    · exact ⟨hP, by show lastTo ts ≤ n + 1; omega⟩
  | star f =>
    have h' : lastTo ts ≤ n := h
    simp only [step] at hs
    split at hs
    · cases hs; exact ⟨hP, by show lastTo ts ≤ n + 1; omega⟩
    split at hs <;> cases hs
    · exact ⟨hP, by show lastTo ts ≤ n + 1; omega⟩
    · exact ⟨hP, by show lastTo ts ≤ n + 1; omega⟩
  | word c f acc =>
    obtain ⟨h1, h2, h3, h4⟩ := h
    simp only [step] at hs
    split at hs
    · cases hs
      exact ⟨hP, h1, by omega, h3, by rw [slice_more (by omega) hb, h4]⟩
    · exact go (ends_tok hP (by omega) h1 h2 h3 h4) hs
  | quo f acc =>
    obtain ⟨h1, h2, h3⟩ := h
    simp only [step] at hs
    split at hs
    · cases hs; exact ⟨hP, h1, h2, by omega⟩
    split at hs
    · cases hs; exact ⟨hP, h1, h2, by omega⟩
    split at hs <;> cases hs
    exact ⟨hP, h1, h2, by rw [List.length_append, List.length_singleton]; omega⟩
  | quoq f acc =>
    obtain ⟨h1, h2, h3⟩ := h
    simp only [step] at hs
    split at hs
    · cases hs; exact ⟨hP, h1, h2, by rw [List.length_append, List.length_singleton]; omega⟩
    · exact go (ends_quo hP (by omega) h1 h2 h3) hs
  | esc f acc =>
    obtain ⟨h1, h2, h3⟩ := h
    simp only [step] at hs
    split at hs
    · cases hs; exact ⟨hP, h1, h2, by rw [List.length_append, List.length_singleton]; omega⟩
    split at hs
    · cases hs; exact ⟨hP, h1, h2, by rw [List.length_append, List.length_singleton]; omega⟩
    split at hs <;> cases hs
    exact ⟨hP, h1, h2, by rw [List.length_append, List.length_singleton]; omega⟩
theorem inv_fin {M : Nat} {l : List UInt8} {ts out : List Tok} {m : Mode} (hP : PlAll l ts) (h : Inv l ts l.length m) (hs : fin M ts l.length m = .ok out) : PlAll l out := by
  cases m with
  | btw => cases hs; exact hP
  | line => cases hs; exact hP
  | slash f =>
    obtain ⟨h1, h2, h3⟩ := h
    simp only [fin] at hs
    split at hs <;> cases hs
    have hf : l[f]? = some 47 := by
      rw [List.getD_eq_getElem?_getD] at h3
      cases hx : l[f]? with
      | none => rw [hx] at h3; exact absurd h3 (by decide)
      | some x => rw [hx] at h3; rw [← h3]; rfl
    exact (ends_tok hP (Nat.le_refl _) h1 (by omega) (by rw [h3]; decide) (by rw [← h2]; exact slice_one hf)).1
  | dot f =>
    obtain ⟨h1, h2, h3⟩ := h
    cases hs
    have hf : l[f]? = some 46 := by
      rw [List.getD_eq_getElem?_getD] at h3
      cases hx : l[f]? with
      | none => rw [hx] at h3; exact absurd h3 (by decide)
      | some x => rw [hx] at h3; rw [← h3]; rfl
    exact (ends_tok hP (Nat.le_refl _) h1 (by omega) (by rw [h3]; decide) (by rw [← h2]; exact slice_one hf)).1
  | rem f => cases hs
  | star f => cases hs
  | word c f acc =>
    obtain ⟨h1, h2, h3, h4⟩ := h
    cases hs
    exact (ends_tok hP (Nat.le_refl _) h1 h2 h3 h4).1
  | quo f acc => cases hs
  | quoq f acc =>
    obtain ⟨h1, h2, h3⟩ := h
    cases hs
    exact (ends_quo hP (Nat.le_refl _) h1 h2 h3).1
  | esc f acc => cases hs
/-- the state behind k bytes -/
theorem inv_run {M : Nat} {l : List UInt8} : ∀ (k : List UInt8) (ts : List Tok) (n : Nat) (m : Mode) (ts' : List Tok) (m' : Mode), k <+: l.drop n → PlAll l ts → Inv l ts n m → run M k ts n m = .go ts' m' → PlAll l ts' ∧ Inv l ts' (n + k.length) m' := by
  intro k
  induction k with
  | nil => intro ts n m ts' m' _ hP hI hr; cases hr; exact ⟨hP, hI⟩
  | cons b k ih =>
    intro ts n m ts' m' hk hP hI hr
    have hb : l[n]? = some b := by
      obtain ⟨r, hr'⟩ := hk
      have : (l.drop n)[0]? = some b := by rw [← hr']; rfl
      rwa [List.getElem?_drop, Nat.add_zero] at this
    rw [run] at hr
    cases hs : step M ts n b m with
    | bad p e => rw [hs] at hr; cases hr
    | go ts1 m1 =>
      rw [hs] at hr
      obtain ⟨p1, p2⟩ := inv_step hP hI hb hs
      have hk' : k <+: l.drop (n + 1) := by
        obtain ⟨r, hr⟩ := hk
        have hlt := getD_lt hb
        rw [List.drop_eq_getElem_cons hlt, List.cons_append] at hr
        exact ⟨r, (List.cons.inj hr).2⟩
      have := ih ts1 (n + 1) m1 ts' m' hk' p1 p2 hr
      rw [List.length_cons, show n + (k.length + 1) = n + 1 + k.length from by omega]
      exact this
theorem places {M : Nat} {l : List UInt8} {out : List Tok} (h : ans M l [] 0 .btw = .ok out) : PlAll l out := by
  rw [ans_run] at h
  cases hr : run M l [] 0 .btw with
  | bad p e => rw [hr] at h; cases h
  | go ts m =>
    rw [hr] at h
    obtain ⟨p1, p2⟩ := inv_run l [] 0 .btw ts m (by simp) (plAll_nil l) (Nat.zero_le _) hr
    rw [Nat.zero_add] at p2 h
    exact inv_fin p1 p2 h
end Go.Proofs.Ytdcggedggngpoaa.lx
