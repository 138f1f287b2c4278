/- Tokens rise, do not overlap, and hold their texts. Plain lists.; Texts one behind the other; quoted names. Plain lists.; Texts behind tokens that open nothing: shifts. Plain lists.; The bytes' classes: lex's class, joins; the reference's small, great, digit, named, blank, sign, mark.; The scanner in memory; what only reads it: ends, opens, behindIs.; The library's string builder as this program has it (its copy check's panic is not run): copyCheck, WriteByte, WriteString; String by the shelf.; The scanner's methods that only read: ends, behindIs, opens, kind. -/
import Derived.Test.YtpihmockcjdafaaQ2
import Derived.Test.YtpihmockcjdafaaQ1
import Derived.Test.YtpihmockcjdafaaProg
import Derived.WalkKit
import Derived.Handy
import Derived.Outline
import Derived.PlainAid
import Derived.Lib.Hide
import Derived.BigQuiet
import Derived.Deep.QuietTactic
import Derived.WalkSmall
import Derived.WalkLawsBesides
import Derived.Laws.MakeOwn
import Derived.Laws.AppendOwn
import Derived.OwnWalk
import Derived.Carry
import Derived.RegionTactic
import Derived.BigRegion
import Derived.ChangeAlike
import Derived.Lib.Strings
import Derived.WideShapes
import Derived.Test.YtpihmockcjdafaaShelf
import Derived.Lib.FrozenHead
import Derived.Lib.FrozenHead2
import Derived.Laws.Externs
set_option linter.unusedVariables false
set_option linter.unusedSimpArgs false
section
/- Tokens rise, do not overlap, and hold their texts. Plain lists. -/
namespace Go.Proofs.Ytpihmockcjdafaa.lx

/-- where the last token ends -/
def lastTo (ts : List Tok) : Nat := match ts.getLast? with
  | some t => t.to
  | none => 0
theorem lastTo_snoc (ts : List Tok) (t : Tok) : lastTo (ts ++ [t]) = t.to := by simp [lastTo]
/-- a token in its place: behind e, its text there, or two bytes less within quotes -/
def PlOk (l : List UInt8) (e : Nat) (t : Tok) : Prop :=
  e ≤ t.frm ∧ t.frm < t.to ∧ t.to ≤ l.length ∧ (l.getD t.frm 0 ≠ 39 → (l.take t.to).drop t.frm = t.text) ∧ (l.getD t.frm 0 = 39 → t.text.length + 2 ≤ t.to - t.frm)
def PlAll (l : List UInt8) (ts : List Tok) : Prop := ∀ i (h : i < ts.length), PlOk l (lastTo (ts.take i)) ts[i]
theorem plAll_nil (l : List UInt8) : PlAll l [] := fun _ h => absurd h (Nat.not_lt_zero _)
theorem plAll_snoc {l : List UInt8} {ts : List Tok} {t : Tok} (h : PlAll l ts) (ht : PlOk l (lastTo ts) t) : PlAll l (ts ++ [t]) := by
  intro i hi
  rw [List.length_append, List.length_singleton] at hi
  by_cases hl : i < ts.length
  · rw [List.getElem_append_left hl, List.take_append_of_le_length (by omega)]; exact h i hl
  · obtain rfl : i = ts.length := by omega
    rw [List.getElem_append_right (Nat.le_refl _)]
    simp only [Nat.sub_self, List.getElem_cons_zero]
    rw [List.take_left]; exact ht
theorem plAll_last {l : List UInt8} {ts : List Tok} (h : PlAll l ts) : lastTo ts ≤ l.length := by
  rcases ts.eq_nil_or_concat with rfl | ⟨r, t, rfl⟩
  · exact Nat.zero_le _
  · rw [List.concat_eq_append] at h ⊢
    rw [lastTo_snoc]
    have := h r.length (by simp)
    rw [List.getElem_append_right (Nat.le_refl _)] at this
    simp only [Nat.sub_self, List.getElem_cons_zero] at this
    exact this.2.2.1

/-- what holds of the machine at the place n of the text l -/
def Inv (l : List UInt8) (ts : List Tok) (n : Nat) : Mode → Prop
  | .btw => lastTo ts ≤ n
  | .line => lastTo ts < n
  | .slash f => lastTo ts ≤ f ∧ f + 1 = n ∧ l.getD f 0 = 47
  | .dot f => lastTo ts ≤ f ∧ f + 1 = n ∧ l.getD f 0 = 46
  | .rem _ => lastTo ts ≤ n
  | .star _ => lastTo ts ≤ n
  | .word _ f acc => lastTo ts ≤ f ∧ f < n ∧ l.getD f 0 ≠ 39 ∧ (l.take n).drop f = acc
  | .quo f acc => lastTo ts ≤ f ∧ l.getD f 0 = 39 ∧ f + acc.length + 1 ≤ n
  | .quoq f acc => lastTo ts ≤ f ∧ l.getD f 0 = 39 ∧ f + acc.length + 2 ≤ n
  | .esc f acc => lastTo ts ≤ f ∧ l.getD f 0 = 39 ∧ f + acc.length + 2 ≤ n
theorem slice_one {l : List UInt8} {n : Nat} {b : UInt8} (h : l[n]? = some b) : (l.take (n + 1)).drop n = [b] := by
  obtain ⟨hl, rfl⟩ := List.getElem?_eq_some_iff.1 h
  rw [List.take_succ_eq_append_getElem hl, List.drop_append_of_le_length (by simp; omega), List.drop_take]; simp
theorem slice_more {l : List UInt8} {f n : Nat} {b : UInt8} (hf : f ≤ n) (h : l[n]? = some b) : (l.take (n + 1)).drop f = (l.take n).drop f ++ [b] := by
  obtain ⟨hl, rfl⟩ := List.getElem?_eq_some_iff.1 h
  rw [List.take_succ_eq_append_getElem hl, List.drop_append_of_le_length (by simp; omega)]
theorem getD_of {l : List UInt8} {n : Nat} {b : UInt8} (h : l[n]? = some b) : l.getD n 0 = b := by rw [List.getD_eq_getElem?_getD, h]; rfl
theorem getD_lt {l : List UInt8} {n : Nat} {b : UInt8} (h : l[n]? = some b) : n < l.length := (List.getElem?_eq_some_iff.1 h).1
/-- a whole token is put behind the others -/
theorem ends_tok {l : List UInt8} {ts : List Tok} {n : Nat} (hP : PlAll l ts) (hn : n ≤ l.length) {k f : Nat} {acc : List UInt8} (h1 : lastTo ts ≤ f) (h2 : f < n) (h3 : l.getD f 0 ≠ 39) (h4 : (l.take n).drop f = acc) :
    PlAll l (ts ++ [⟨k, acc, f, n⟩]) ∧ lastTo (ts ++ [⟨k, acc, f, n⟩]) = n :=
  ⟨plAll_snoc hP ⟨h1, h2, hn, fun _ => h4, fun h => absurd h h3⟩, lastTo_snoc _ _⟩
theorem ends_quo {l : List UInt8} {ts : List Tok} {n : Nat} (hP : PlAll l ts) (hn : n ≤ l.length) {k f : Nat} {acc : List UInt8} (h1 : lastTo ts ≤ f) (h3 : l.getD f 0 = 39) (h4 : f + acc.length + 2 ≤ n) :
    PlAll l (ts ++ [⟨k, acc, f, n⟩]) ∧ lastTo (ts ++ [⟨k, acc, f, n⟩]) = n :=
  ⟨plAll_snoc hP ⟨h1, by show f < n; omega, hn, fun h => absurd h3 h, fun _ => by show acc.length + 2 ≤ n - f; omega⟩, lastTo_snoc _ _⟩
theorem inv_start {M : Nat} {l : List UInt8} {ts ts' : List Tok} {n : Nat} {b : UInt8} {m' : Mode} (hP : PlAll l ts) (h : lastTo ts ≤ n) (hb : l[n]? = some b) (hs : start M ts n b = .go ts' m') : PlAll l ts' ∧ Inv l ts' (n + 1) m' := by
  have hlt := getD_lt hb
  have hd := getD_of hb
  have h1 := slice_one hb
  unfold start at hs
  split at hs
  · cases hs; exact ⟨hP, by show lastTo ts ≤ n + 1; omega⟩
  split at hs
  · cases hs; exact ⟨hP, by show lastTo ts < n + 1; omega⟩
  split at hs
  · cases hs; exact ⟨hP, h, rfl, by rw [hd]; assumption⟩
  split at hs
  · cases hs
  split at hs
  · cases hs
  have n39 : cl b ≠ 6 → b ≠ 39 := fun h e => h (by rw [e]; decide)
  unfold opening at hs
  by_cases h6 : cl b = 6
  · rw [if_pos h6] at hs; cases hs
    refine ⟨hP, h, ?_, by show n + 0 + 1 ≤ n + 1; omega⟩
    rw [hd]
    have := b.toNat_lt
    have e : b.toNat = 39 := by
      revert h6; unfold cl cls; repeat' split
      all_goals omega
    exact UInt8.toNat_inj.1 (by rw [e]; rfl)
  rw [if_neg h6] at hs
  by_cases h7 : cl b = 7
  · rw [if_pos h7] at hs; cases hs
    obtain ⟨p1, p2⟩ := ends_tok (k := 1) hP (n := n + 1) (by omega) h (by omega) (by rw [hd]; exact n39 h6) h1
    exact ⟨p1, by show lastTo _ ≤ n + 1; omega⟩
  rw [if_neg h7] at hs
  by_cases h8 : cl b = 8
  · rw [if_pos h8] at hs; cases hs
    obtain ⟨p1, p2⟩ := ends_tok (k := if b = 40 ∧ opens ts n = true then 4 else 5) hP (n := n + 1) (by omega) h (by omega) (by rw [hd]; exact n39 h6) h1
    exact ⟨p1, by show lastTo _ ≤ n + 1; omega⟩
  rw [if_neg h8] at hs
  by_cases h46 : b = 46
  · rw [if_pos h46] at hs; cases hs
    exact ⟨hP, h, rfl, by rw [hd, h46]⟩
  rw [if_neg h46] at hs; cases hs
  exact ⟨hP, h, by omega, by rw [hd]; exact n39 h6, h1⟩
theorem inv_step {M : Nat} {l : List UInt8} {ts ts' : List Tok} {n : Nat} {b : UInt8} {m m' : Mode} (hP : PlAll l ts) (h : Inv l ts n m) (hb : l[n]? = some b) (hs : step M ts n b m = .go ts' m') : PlAll l ts' ∧ Inv l ts' (n + 1) m' := by
  have hlt := getD_lt hb
  have hd := getD_of hb
  have go : ∀ {k f : Nat} {acc : List UInt8}, PlAll l (ts ++ [⟨k, acc, f, n⟩]) ∧ lastTo (ts ++ [⟨k, acc, f, n⟩]) = n → start M (ts ++ [⟨k, acc, f, n⟩]) n b = .go ts' m' → PlAll l ts' ∧ Inv l ts' (n + 1) m' :=
    fun hk hs => inv_start hk.1 (by omega) hb hs
  cases m with
  | btw => exact inv_start hP h hb hs
  | line =>
    have h' : lastTo ts < n := h
    simp only [step] at hs
    split at hs <;> cases hs
    · exact ⟨hP, by show lastTo ts ≤ n + 1; omega⟩
    · exact ⟨hP, by show lastTo ts < n + 1; omega⟩
  | slash f =>
    obtain ⟨h1, h2, h3⟩ := h
    simp only [step] at hs
    have hsl : (l.take n).drop f = [47] := by
      have hf : l[f]? = some 47 := by
        rw [List.getD_eq_getElem?_getD] at h3
        cases hx : l[f]? with
        | none => rw [hx] at h3; exact absurd h3 (by decide)
        | some x => rw [hx] at h3; rw [← h3]; rfl
      rw [← h2]; exact slice_one hf
    split at hs
    · cases hs; exact ⟨hP, by show lastTo ts ≤ n + 1; omega⟩
    split at hs
    · cases hs
    split at hs
    · cases hs
      exact ⟨hP, h1, by omega, by rw [h3]; decide, by rw [slice_more (by omega) hb, hsl]; rfl⟩
    · exact go (ends_tok hP (by omega) h1 (by omega) (by rw [h3]; decide) hsl) hs
  | dot f =>
    obtain ⟨h1, h2, h3⟩ := h
    simp only [step] at hs
    have hsl : (l.take n).drop f = [46] := by
      have hf : l[f]? = some 46 := by
        rw [List.getD_eq_getElem?_getD] at h3
        cases hx : l[f]? with
        | none => rw [hx] at h3; exact absurd h3 (by decide)
        | some x => rw [hx] at h3; rw [← h3]; rfl
      rw [← h2]; exact slice_one hf
    split at hs
    · cases hs
      exact ⟨hP, h1, by omega, by rw [h3]; decide, by rw [slice_more (by omega) hb, hsl]; rfl⟩
    · exact go (ends_tok hP (by omega) h1 (by omega) (by rw [h3]; decide) hsl) hs
  | rem f =>
    have h' : lastTo ts ≤ n := h
    simp only [step] at hs
    split at hs <;> cases hs
    · exact ⟨hP, by show lastTo ts ≤ n + 1; omega⟩
    · exact ⟨hP, by show lastTo ts ≤ n + 1; omega⟩
  | star f =>
    have h' : lastTo ts ≤ n := h
    simp only [step] at hs
    split at hs
    · cases hs; exact ⟨hP, by show lastTo ts ≤ n + 1; omega⟩
    split at hs <;> cases hs
    · exact ⟨hP, by show lastTo ts ≤ n + 1; omega⟩
    · exact ⟨hP, by show lastTo ts ≤ n + 1; omega⟩
  | word c f acc =>
    obtain ⟨h1, h2, h3, h4⟩ := h
    simp only [step] at hs
    split at hs
    · cases hs
      exact ⟨hP, h1, by omega, h3, by rw [slice_more (by omega) hb, h4]⟩
    · exact go (ends_tok hP (by omega) h1 h2 h3 h4) hs
  | quo f acc =>
    obtain ⟨h1, h2, h3⟩ := h
    simp only [step] at hs
    split at hs
    · cases hs; exact ⟨hP, h1, h2, by omega⟩
    split at hs
    · cases hs; exact ⟨hP, h1, h2, by omega⟩
    split at hs <;> cases hs
    exact ⟨hP, h1, h2, by rw [List.length_append, List.length_singleton]; omega⟩
  | quoq f acc =>
    obtain ⟨h1, h2, h3⟩ := h
    simp only [step] at hs
    split at hs
    · cases hs; exact ⟨hP, h1, h2, by rw [List.length_append, List.length_singleton]; omega⟩
    · exact go (ends_quo hP (by omega) h1 h2 h3) hs
  | esc f acc =>
    obtain ⟨h1, h2, h3⟩ := h
    simp only [step] at hs
    split at hs
    · cases hs; exact ⟨hP, h1, h2, by rw [List.length_append, List.length_singleton]; omega⟩
    split at hs
    · cases hs; exact ⟨hP, h1, h2, by rw [List.length_append, List.length_singleton]; omega⟩
    split at hs <;> cases hs
    exact ⟨hP, h1, h2, by rw [List.length_append, List.length_singleton]; omega⟩
theorem inv_fin {M : Nat} {l : List UInt8} {ts out : List Tok} {m : Mode} (hP : PlAll l ts) (h : Inv l ts l.length m) (hs : fin M ts l.length m = .ok out) : PlAll l out := by
  cases m with
  | btw => cases hs; exact hP
  | line => cases hs; exact hP
  | slash f =>
    obtain ⟨h1, h2, h3⟩ := h
    simp only [fin] at hs
    split at hs <;> cases hs
    have hf : l[f]? = some 47 := by
      rw [List.getD_eq_getElem?_getD] at h3
      cases hx : l[f]? with
      | none => rw [hx] at h3; exact absurd h3 (by decide)
      | some x => rw [hx] at h3; rw [← h3]; rfl
    exact (ends_tok hP (Nat.le_refl _) h1 (by omega) (by rw [h3]; decide) (by rw [← h2]; exact slice_one hf)).1
  | dot f =>
    obtain ⟨h1, h2, h3⟩ := h
    cases hs
    have hf : l[f]? = some 46 := by
      rw [List.getD_eq_getElem?_getD] at h3
      cases hx : l[f]? with
      | none => rw [hx] at h3; exact absurd h3 (by decide)
      | some x => rw [hx] at h3; rw [← h3]; rfl
    exact (ends_tok hP (Nat.le_refl _) h1 (by omega) (by rw [h3]; decide) (by rw [← h2]; exact slice_one hf)).1
  | rem f => cases hs
  | star f => cases hs
  | word c f acc =>
    obtain ⟨h1, h2, h3, h4⟩ := h
    cases hs
    exact (ends_tok hP (Nat.le_refl _) h1 h2 h3 h4).1
  | quo f acc => cases hs
  | quoq f acc =>
    obtain ⟨h1, h2, h3⟩ := h
    cases hs
    exact (ends_quo hP (Nat.le_refl _) h1 h2 h3).1
  | esc f acc => cases hs
/-- the state behind k bytes -/
theorem inv_run {M : Nat} {l : List UInt8} : ∀ (k : List UInt8) (ts : List Tok) (n : Nat) (m : Mode) (ts' : List Tok) (m' : Mode), k <+: l.drop n → PlAll l ts → Inv l ts n m → run M k ts n m = .go ts' m' → PlAll l ts' ∧ Inv l ts' (n + k.length) m' := by
  intro k
  induction k with
  | nil => intro ts n m ts' m' _ hP hI hr; cases hr; exact ⟨hP, hI⟩
  | cons b k ih =>
    intro ts n m ts' m' hk hP hI hr
    have hb : l[n]? = some b := by
      obtain ⟨r, hr'⟩ := hk
      have : (l.drop n)[0]? = some b := by rw [← hr']; rfl
      rwa [List.getElem?_drop, Nat.add_zero] at this
    rw [run] at hr
    cases hs : step M ts n b m with
    | bad p e => rw [hs] at hr; cases hr
    | go ts1 m1 =>
      rw [hs] at hr
      obtain ⟨p1, p2⟩ := inv_step hP hI hb hs
      have hk' : k <+: l.drop (n + 1) := by
        obtain ⟨r, hr⟩ := hk
        have hlt := getD_lt hb
        rw [List.drop_eq_getElem_cons hlt, List.cons_append] at hr
        exact ⟨r, (List.cons.inj hr).2⟩
      have := ih ts1 (n + 1) m1 ts' m' hk' p1 p2 hr
      rw [List.length_cons, show n + (k.length + 1) = n + 1 + k.length from by omega]
      exact this
theorem places {M : Nat} {l : List UInt8} {out : List Tok} (h : ans M l [] 0 .btw = .ok out) : PlAll l out := by
  rw [ans_run] at h
  cases hr : run M l [] 0 .btw with
  | bad p e => rw [hr] at h; cases h
  | go ts m =>
    rw [hr] at h
    obtain ⟨p1, p2⟩ := inv_run l [] 0 .btw ts m (by simp) (plAll_nil l) (Nat.zero_le _) hr
    rw [Nat.zero_add] at p2 h
    exact inv_fin p1 p2 h
end Go.Proofs.Ytpihmockcjdafaa.lx
end
section
/- Texts one behind the other; quoted names. Plain lists. -/
namespace Go.Proofs.Ytpihmockcjdafaa.lx

/-! ### one text behind another -/
/-- the state behind a text that is tokens: a line feed comes next -/
theorem fin_feed {M : Nat} {ts a : List Tok} {n : Nat} {m : Mode} (h : fin M ts n m = .ok a) : step M ts n 10 m = .go a .btw := by
  have hst : ∀ (T : List Tok), start M T n 10 = .go T .btw := fun T => by unfold start; rw [if_pos (by decide)]
  cases m <;> simp only [fin] at h <;> simp only [step]
  case btw => cases h; exact hst _
  case line => cases h; rfl
  case slash f =>
    split at h
    · cases h
    · rename_i hl; cases h; rw [if_neg (by decide), if_neg hl, if_neg (by decide)]; exact hst _
  case dot f => cases h; rw [if_neg (by decide), if_pos (.inl (by decide))]; exact hst _
  case word c f acc =>
    cases h
    rw [if_neg, hst]
    have : joinB c (cl 10) = false := by
      unfold joinB
      repeat' split
      · decide
      · rename_i hc; rcases hc with rfl | rfl <;> decide
      · rfl
    rw [this]; decide
  case quoq f acc => cases h; rw [if_neg (by decide)]; exact hst _
  all_goals cases h
/-- .. a blank that is no line feed -/
theorem fin_blank {M : Nat} {ts a : List Tok} {n : Nat} {m : Mode} (h : fin M ts n m = .ok a) (hm : m ≠ .line) : step M ts n 32 m = .go a .btw := by
  have hst : ∀ (T : List Tok), start M T n 32 = .go T .btw := fun T => by unfold start; rw [if_pos (by decide)]
  cases m <;> simp only [fin] at h <;> simp only [step]
  case btw => cases h; exact hst _
  case line => exact absurd rfl hm
  case slash f =>
    split at h
    · cases h
    · rename_i hl; cases h; rw [if_neg (by decide), if_neg hl, if_neg (by decide)]; exact hst _
  case dot f => cases h; rw [if_neg (by decide), if_pos (.inl (by decide))]; exact hst _
  case word c f acc =>
    cases h
    rw [if_neg, hst]
    have : joinB c (cl 32) = false := by
      unfold joinB
      repeat' split
      · decide
      · rename_i hc; rcases hc with rfl | rfl <;> decide
      · rfl
    rw [this]; decide
  case quoq f acc => cases h; rw [if_neg (by decide)]; exact hst _
  all_goals cases h
theorem run_of {M : Nat} {l : List UInt8} {a : List Tok} (h : ans M l [] 0 .btw = .ok a) : ∃ ts m, run M l [] 0 .btw = .go ts m ∧ fin M ts l.length m = .ok a := by
  rw [ans_run] at h
  cases hr : run M l [] 0 .btw with
  | bad p e => rw [hr] at h; cases h
  | go ts m => rw [hr] at h; rw [Nat.zero_add] at h; exact ⟨ts, m, rfl, h⟩
theorem ahead_of {l : List UInt8} {a : List Tok} {d : Nat} (h : PlAll l a) (hd : l.length < d) : Ahead a d := by
  intro t ht
  have := plAll_last h
  unfold lastTo at this
  rw [ht] at this
  simp only at this
  omega
/-- from between two tokens on, behind others, a text is what it is alone -/
theorem ans_behind {T b : List Tok} {d : Nat} {l : List UInt8} (h : Ahead T d) (hl : toks l = .ok b) (hn : T.length + b.length ≤ 1000) : ans 1000 l T d .btw = .ok (T ++ b.map (shT d)) := by
  have h1 := (ans_less (M' := 1000 - T.length) l [] 0 .btw hl).2 (by omega)
  have h2 := ans_shift h (M := 1000) (by omega) l [] 0 .btw trivial
  rw [h1, List.map_nil, List.append_nil, Nat.zero_add] at h2
  exact h2
/-- P3.1: two texts with a line feed between -/
theorem between_feed {s t : List UInt8} {a b : List Tok} (hs : toks s = .ok a) (ht : toks t = .ok b) (hn : a.length + b.length ≤ 1000) : toks (s ++ 10 :: t) = .ok (a ++ b.map (shT (s.length + 1))) := by
  obtain ⟨ts, m, hr, hf⟩ := run_of hs
  unfold toks
  rw [ans_append, hr]
  simp only
  rw [Nat.zero_add, ans_cons, fin_feed hf]
  exact ans_behind (ahead_of (places hs) (by omega)) ht hn

/-! ### notes -/
theorem ans_line_all (M : Nat) (k l : List UInt8) (ts : List Tok) (n : Nat) (h : ∀ b ∈ k, b ≠ 10) : ans M (k ++ 10 :: l) ts n .line = ans M l ts (n + k.length + 1) .btw := by
  rw [ans_line M k _ ts n h, ans_cons, step, if_pos rfl]
theorem ans_space (M : Nat) (l : List UInt8) (ts : List Tok) (n : Nat) : ans M (32 :: l) ts n .btw = ans M l ts (n + 1) .btw := by
  rw [ans_cons, step, start, if_pos (by decide)]
theorem ans_rem_plain (M f : Nat) (k l : List UInt8) (ts : List Tok) (n : Nat) (h : ∀ b ∈ k, b ≠ 42) : ans M (k ++ 42 :: 47 :: l) ts n (.rem f) = ans M l ts (n + k.length + 2) .btw := by
  induction k generalizing n with
  | nil => rw [List.nil_append, ans_cons, step, if_pos rfl]; simp only; rw [ans_cons, step, if_pos rfl]; rfl
  | cons b k ih =>
    rw [List.cons_append, ans_cons, step, if_neg (h b (by simp))]
    simp only [ih (n + 1) (fun c hc => h c (by simp [hc]))]
    rw [List.length_cons, show n + (k.length + 1) + 2 = n + 1 + k.length + 2 from by omega]
theorem ans_remark2 (M : Nat) (l : List UInt8) (ts : List Tok) (n : Nat) : ans M (47 :: 42 :: l) ts n .btw = ans M l ts (n + 2) (.rem n) := by
  rw [ans_cons, step, start, if_neg (by decide), if_neg (by decide), if_pos rfl]
  simp only
  rw [ans_cons, step, if_pos rfl]
theorem ans_pct (M : Nat) (l : List UInt8) (ts : List Tok) (n : Nat) : ans M (37 :: l) ts n .btw = ans M l ts (n + 1) .line := by
  rw [ans_cons, step, start, if_neg (by decide), if_pos rfl]
theorem notes_plain {s : List UInt8} {a : List Tok} (hs : toks s = .ok a) (t : List UInt8) : toks (s ++ 32 :: 10 :: 32 :: t) = ans 1000 t a (s.length + 3) .btw := by
  obtain ⟨ts, m, hr, hf⟩ := run_of hs
  unfold toks
  rw [ans_append, hr]
  simp only
  rw [Nat.zero_add]
  by_cases hm : m = .line
  · subst hm
    cases hf
    rw [ans_cons, step, if_neg (by decide)]; simp only
    rw [ans_cons, step, if_pos rfl]; simp only
    rw [ans_space]
  · rw [ans_cons, fin_blank hf hm]; simp only
    rw [ans_cons, step, start, if_pos (by decide)]; simp only
    rw [ans_space]
theorem notes_full {s k : List UInt8} {a : List Tok} (hs : toks s = .ok a) (h10 : ∀ b ∈ k, b ≠ 10) (h42 : ∀ b ∈ k, b ≠ 42) (t : List UInt8) :
    toks (s ++ (32 :: 47 :: 42 :: (k ++ (42 :: 47 :: 32 :: 37 :: (k ++ (10 :: 32 :: t)))))) = ans 1000 t a (s.length + (2 * k.length + 9)) .btw := by
  obtain ⟨ts, m, hr, hf⟩ := run_of hs
  unfold toks
  rw [ans_append, hr]
  simp only
  rw [Nat.zero_add]
  by_cases hm : m = .line
  · subst hm
    cases hf
    have e : (32 :: 47 :: 42 :: (k ++ (42 :: 47 :: 32 :: 37 :: (k ++ (10 :: 32 :: t)))) : List UInt8) = (32 :: 47 :: 42 :: (k ++ (42 :: 47 :: 32 :: 37 :: k))) ++ 10 :: 32 :: t := by simp
    rw [e, ans_line_all _ _ _ _ _ (by
      intro b hb
      simp only [List.mem_cons, List.mem_append] at hb
      rcases hb with rfl | rfl | rfl | hb | rfl | rfl | rfl | rfl | hb
      all_goals first | decide | exact h10 b hb), ans_space]
    congr 1
    simp; omega
  · rw [ans_cons, fin_blank hf hm]; simp only
    rw [ans_remark2, ans_rem_plain _ _ _ _ _ _ h42, ans_space, ans_pct, ans_line_all _ _ _ _ _ h10, ans_space]
    congr 1
    omega
end Go.Proofs.Ytpihmockcjdafaa.lx
end
section
/- Texts behind tokens that open nothing: shifts. Plain lists. -/
namespace Go.Proofs.Ytpihmockcjdafaa.lx

/-- the last token of T, an atom, ends ahead of d -/
def Ahead2 (T : List Tok) (d : Nat) : Prop := ∀ t, T.getLast? = some t → t.kind = 1 → t.to < d
theorem opens_shift2 {T : List Tok} {d : Nat} (h : Ahead2 T d) (ts : List Tok) (n : Nat) : opens (T ++ ts.map (shT d)) (n + d) = opens ts n := by
  unfold opens
  rcases ts.eq_nil_or_concat with rfl | ⟨l, t, rfl⟩
  · simp only [List.map_nil, List.append_nil, List.getLast?_nil]
    cases hT : T.getLast? with
    | none => rfl
    | some t =>
      have := h t hT
      by_cases hk : t.kind = 1
      · have h2 := this hk
        have e : (t.to == n + d) = false := by simp; omega
        simp [e]
      · have e : (t.kind == 1) = false := by simpa using hk
        simp [e]
  · rw [List.concat_eq_append, List.map_append, ← List.append_assoc]
    simp only [List.map_cons, List.map_nil, List.getLast?_append, List.getLast?_singleton, Option.some_or]
    show ((shT d t).kind == 1 && (shT d t).to == n + d) = (t.kind == 1 && t.to == n)
    simp only [shT]
    congr 1
    rw [Bool.eq_iff_iff]; simp
theorem opening_shift2 {T : List Tok} {d : Nat} (h : Ahead2 T d) (ts : List Tok) (n : Nat) (b : UInt8) : opening (T ++ ts.map (shT d)) (n + d) b = shR T d (opening ts n b) := by
  unfold opening
  rw [opens_shift2 h]
  by_cases h6 : cl b = 6
  · rw [if_pos h6, if_pos h6]; rfl
  rw [if_neg h6, if_neg h6]
  by_cases h7 : cl b = 7
  · rw [if_pos h7, if_pos h7]; simp [shR, shM, shT]; omega
  rw [if_neg h7, if_neg h7]
  by_cases h8 : cl b = 8
  · rw [if_pos h8, if_pos h8]; simp [shR, shM, shT]; omega
  rw [if_neg h8, if_neg h8]
  by_cases h46 : b = 46
  · rw [if_pos h46, if_pos h46]; rfl
  rw [if_neg h46, if_neg h46]; rfl
theorem start_shift2 {T : List Tok} {d M : Nat} (h : Ahead2 T d) (hM : T.length ≤ M) (ts : List Tok) (n : Nat) (b : UInt8) : start M (T ++ ts.map (shT d)) (n + d) b = shR T d (start (M - T.length) ts n b) := by
  unfold start
  rw [opening_shift2 h]
  by_cases h1 : cl b = 1
  · rw [if_pos h1, if_pos h1]; rfl
  rw [if_neg h1, if_neg h1]
  by_cases h2 : b = 37
  · rw [if_pos h2, if_pos h2]; rfl
  rw [if_neg h2, if_neg h2]
  by_cases h3 : b = 47
  · rw [if_pos h3, if_pos h3]; rfl
  rw [if_neg h3, if_neg h3]
  by_cases h0 : cl b = 0
  · rw [if_pos h0, if_pos h0]; rfl
  rw [if_neg h0, if_neg h0]
  by_cases hl : ts.length = M - T.length
  · rw [if_pos ((len_shift T ts d M hM).2 hl), if_pos hl]; rfl
  rw [if_neg (mt (len_shift T ts d M hM).1 hl), if_neg hl]
theorem step_shift2 {T : List Tok} {d M : Nat} (h : Ahead2 T d) (hM : T.length ≤ M) (ts : List Tok) (n : Nat) (b : UInt8) (m : Mode) (hm : At n m) :
    step M (T ++ ts.map (shT d)) (n + d) b (shM d m) = shR T d (step (M - T.length) ts n b m) := by
  have key : ∀ (t : Tok), start M (T ++ ts.map (shT d) ++ [⟨t.kind, t.text, t.frm + d, t.to + d⟩]) (n + d) b = shR T d (start (M - T.length) (ts ++ [t]) n b) := fun t => by
    have := start_shift2 h hM (ts ++ [t]) n b
    rwa [← snoc_shift] at this
  cases m with
  | btw => exact start_shift2 h hM ts n b
  | line => simp only [shM, step]; split <;> rfl
  | slash f =>
    simp only [shM, step]
    by_cases h1 : b = 42
    · rw [if_pos h1, if_pos h1]; rfl
    rw [if_neg h1, if_neg h1]
    by_cases hl : ts.length = M - T.length
    · rw [if_pos ((len_shift T ts d M hM).2 hl), if_pos hl]; rfl
    rw [if_neg (mt (len_shift T ts d M hM).1 hl), if_neg hl]
    by_cases h5 : cl b = 5
    · rw [if_pos h5, if_pos h5]; rfl
    rw [if_neg h5, if_neg h5]; exact key ⟨1, [47], f, n⟩
  | dot f =>
    simp only [shM, step]
    by_cases h5 : cl b = 5
    · rw [if_pos h5, if_pos h5]; rfl
    rw [if_neg h5, if_neg h5]; exact key ⟨_, [46], f, n⟩
  | rem f => simp only [shM, step]; split <;> rfl
  | star f =>
    simp only [shM, step]
    split
    · rfl
    · split <;> rfl
  | word c f acc =>
    simp only [shM, step]
    split
    · rfl
    · exact key ⟨_, acc, f, n⟩
  | quo f acc =>
    simp only [shM, step]
    split
    · rfl
    · split
      · rfl
      · split <;> rfl
  | quoq f acc =>
    simp only [shM, step]
    split
    · rfl
    · exact key ⟨1, acc, f, n⟩
  | esc f acc =>
    have h1 : 1 ≤ n := hm
    simp only [shM, step]
    split
    · rfl
    · split
      · rfl
      · split
        · rfl
        · simp only [shR]; congr 1; omega
theorem ans_shift2 {T : List Tok} {d M : Nat} (h : Ahead2 T d) (hM : T.length ≤ M) : ∀ (l : List UInt8) (ts : List Tok) (n : Nat) (m : Mode), At n m →
    ans M l (T ++ ts.map (shT d)) (n + d) (shM d m) = shO T d (ans (M - T.length) l ts n m) := by
  intro l
  induction l with
  | nil => intro ts n m _; exact fin_shift hM ts n m
  | cons b l ih =>
    intro ts n m hm
    rw [ans_cons, ans_cons, step_shift2 h hM ts n b m hm]
    cases hs : step (M - T.length) ts n b m with
    | go ts' m' =>
      simp only [shR]
      rw [show n + d + 1 = n + 1 + d from by omega]
      exact ih ts' (n + 1) m' (by cases m' <;> simp [At])
    | bad p e => rfl


theorem sh_ok {T c : List Tok} {d : Nat} {o : Out} (h : shO T d o = .ok c) : ∃ b, o = .ok b ∧ c = T ++ b.map (shT d) := by
  cases o with
  | ok b => cases h; exact ⟨b, rfl, rfl⟩
  | bad p e => cases h
end Go.Proofs.Ytpihmockcjdafaa.lx
end
section
/- The bytes' classes: lex's class, joins; the reference's small, great, digit, named, blank, sign, mark. -/
namespace Go.Proofs.Ytpihmockcjdafaa.lx
open Go.RowKit

theorem ret_i {k : IntKind} {a b : Int} (h : a = b) : Ending.returned (.int k a) = .returned (.int k b) := by rw [h]
theorem ret_b {a b : Bool} (h : a = b) : Ending.returned (.bool a) = .returned (.bool b) := by rw [h]
theorem nat_beq {c k : Nat} (h : ((c : Int) == (k : Int)) = true) : c = k := by have := eq_of_beq h; omega
/-- all bytes at once -/
theorem all_bytes {P : Nat → Bool} (h : (List.range 256).all P = true) {c : Nat} (hc : c ≤ 255) : P c = true := by
  rw [List.all_eq_true] at h; exact h c (List.mem_range.2 (by omega))

set_option maxRecDepth 100000 in
set_option maxHeartbeats 4000000 in
theorem class_c (c : Nat) (_hc : c ≤ 255) (w : World) :
    Calls Try.prog 80 #[.int .u8 c] w fun e w' => e = .returned (.int .i64 (cls c : Nat)) ∧ w = w' := by
  go_enter Try.func80, Try.ntmps80
  go_wp2
  all_goals
    go_ret
    refine ⟨ret_i ?_, rfl⟩
    first
      | (have h : ((c : Int) == 32) = true := by assumption
         obtain rfl : c = 32 := nat_beq h
         rfl)
      | (have h : ((c : Int) == 9) = true := by assumption
         obtain rfl : c = 9 := nat_beq h
         rfl)
      | (have h : ((c : Int) == 10) = true := by assumption
         obtain rfl : c = 10 := nat_beq h
         rfl)
      | (have h : ((c : Int) == 13) = true := by assumption
         obtain rfl : c = 13 := nat_beq h
         rfl)
      | (have h : ((c : Int) == 43) = true := by assumption
         obtain rfl : c = 43 := nat_beq h
         rfl)
      | (have h : ((c : Int) == 45) = true := by assumption
         obtain rfl : c = 45 := nat_beq h
         rfl)
      | (have h : ((c : Int) == 42) = true := by assumption
         obtain rfl : c = 42 := nat_beq h
         rfl)
      | (have h : ((c : Int) == 47) = true := by assumption
         obtain rfl : c = 47 := nat_beq h
         rfl)
      | (have h : ((c : Int) == 92) = true := by assumption
         obtain rfl : c = 92 := nat_beq h
         rfl)
      | (have h : ((c : Int) == 94) = true := by assumption
         obtain rfl : c = 94 := nat_beq h
         rfl)
      | (have h : ((c : Int) == 60) = true := by assumption
         obtain rfl : c = 60 := nat_beq h
         rfl)
      | (have h : ((c : Int) == 62) = true := by assumption
         obtain rfl : c = 62 := nat_beq h
         rfl)
      | (have h : ((c : Int) == 61) = true := by assumption
         obtain rfl : c = 61 := nat_beq h
         rfl)
      | (have h : ((c : Int) == 58) = true := by assumption
         obtain rfl : c = 58 := nat_beq h
         rfl)
      | (have h : ((c : Int) == 46) = true := by assumption
         obtain rfl : c = 46 := nat_beq h
         rfl)
      | (have h : ((c : Int) == 63) = true := by assumption
         obtain rfl : c = 63 := nat_beq h
         rfl)
      | (have h : ((c : Int) == 64) = true := by assumption
         obtain rfl : c = 64 := nat_beq h
         rfl)
      | (have h : ((c : Int) == 35) = true := by assumption
         obtain rfl : c = 35 := nat_beq h
         rfl)
      | (have h : ((c : Int) == 36) = true := by assumption
         obtain rfl : c = 36 := nat_beq h
         rfl)
      | (have h : ((c : Int) == 38) = true := by assumption
         obtain rfl : c = 38 := nat_beq h
         rfl)
      | (have h : ((c : Int) == 126) = true := by assumption
         obtain rfl : c = 126 := nat_beq h
         rfl)
      | (have h : ((c : Int) == 39) = true := by assumption
         obtain rfl : c = 39 := nat_beq h
         rfl)
      | (have h : ((c : Int) == 33) = true := by assumption
         obtain rfl : c = 33 := nat_beq h
         rfl)
      | (have h : ((c : Int) == 59) = true := by assumption
         obtain rfl : c = 59 := nat_beq h
         rfl)
      | (have h : ((c : Int) == 40) = true := by assumption
         obtain rfl : c = 40 := nat_beq h
         rfl)
      | (have h : ((c : Int) == 41) = true := by assumption
         obtain rfl : c = 41 := nat_beq h
         rfl)
      | (have h : ((c : Int) == 91) = true := by assumption
         obtain rfl : c = 91 := nat_beq h
         rfl)
      | (have h : ((c : Int) == 93) = true := by assumption
         obtain rfl : c = 93 := nat_beq h
         rfl)
      | (have h : ((c : Int) == 123) = true := by assumption
         obtain rfl : c = 123 := nat_beq h
         rfl)
      | (have h : ((c : Int) == 125) = true := by assumption
         obtain rfl : c = 125 := nat_beq h
         rfl)
      | (have h : ((c : Int) == 44) = true := by assumption
         obtain rfl : c = 44 := nat_beq h
         rfl)
      | (have h : ((c : Int) == 124) = true := by assumption
         obtain rfl : c = 124 := nat_beq h
         rfl)
      | (try simp only [beq_iff_eq, beq_eq_false_iff_ne, ne_eq] at *
         unfold cls
         repeat' split
         all_goals omega)

theorem cls2 {c : Nat} (hc : c ≤ 255) : (cls c == 2) = (decide (97 ≤ c) && decide (c ≤ 122)) := by
  have := all_bytes (P := fun c => (cls c == 2) == (decide (97 ≤ c) && decide (c ≤ 122))) (by decide +kernel) hc
  exact eq_of_beq this
theorem cls3 {c : Nat} (hc : c ≤ 255) : (cls c == 3) = ((decide (65 ≤ c) && decide (c ≤ 90)) || c == 95) := by
  have := all_bytes (P := fun c => (cls c == 3) == ((decide (65 ≤ c) && decide (c ≤ 90)) || c == 95)) (by decide +kernel) hc
  exact eq_of_beq this
theorem cls4 {c : Nat} (hc : c ≤ 255) : (cls c == 4) = (decide (48 ≤ c) && decide (c ≤ 57)) := by
  have := all_bytes (P := fun c => (cls c == 4) == (decide (48 ≤ c) && decide (c ≤ 57))) (by decide +kernel) hc
  exact eq_of_beq this
theorem cls1 {c : Nat} (hc : c ≤ 255) : (cls c == 1) = (c == 32 || c == 9 || c == 10 || c == 13) := by
  have := all_bytes (P := fun c => (cls c == 1) == (c == 32 || c == 9 || c == 10 || c == 13)) (by decide +kernel) hc
  exact eq_of_beq this
theorem cls8 {c : Nat} (hc : c ≤ 255) : (cls c == 8) = (c == 40 || c == 41 || c == 91 || c == 93 || c == 123 || c == 125 || c == 44 || c == 124) := by
  have := all_bytes (P := fun c => (cls c == 8) == (c == 40 || c == 41 || c == 91 || c == 93 || c == 123 || c == 125 || c == 44 || c == 124)) (by decide +kernel) hc
  exact eq_of_beq this

/-- the reference's classes -/
theorem small_c (c : Nat) (hc : c ≤ 255) (w : World) :
    Calls Try.prog 28 #[.int .u8 c] w fun e w' => e = .returned (.bool (cls c == 2)) ∧ w = w' := by
  rw [cls2 hc]
  go_enter Try.func28, Try.ntmps28
  go_wp2
  all_goals
    go_ret
    refine ⟨ret_b ?_, rfl⟩
    rw [Bool.eq_iff_iff]
    simp
    try omega
theorem great_c (c : Nat) (hc : c ≤ 255) (w : World) :
    Calls Try.prog 30 #[.int .u8 c] w fun e w' => e = .returned (.bool (cls c == 3)) ∧ w = w' := by
  rw [cls3 hc]
  go_enter Try.func30, Try.ntmps30
  go_wp2
  all_goals
    go_ret
    refine ⟨ret_b ?_, rfl⟩
    rw [Bool.eq_iff_iff]
    simp
    try omega
theorem digit_c (c : Nat) (hc : c ≤ 255) (w : World) :
    Calls Try.prog 31 #[.int .u8 c] w fun e w' => e = .returned (.bool (cls c == 4)) ∧ w = w' := by
  rw [cls4 hc]
  go_enter Try.func31, Try.ntmps31
  go_wp2
  all_goals
    go_ret
    refine ⟨ret_b ?_, rfl⟩
    rw [Bool.eq_iff_iff]
    simp
    try omega
theorem blank_c (c : Nat) (hc : c ≤ 255) (w : World) :
    Calls Try.prog 27 #[.int .u8 c] w fun e w' => e = .returned (.bool (cls c == 1)) ∧ w = w' := by
  rw [cls1 hc]
  go_enter Try.func27, Try.ntmps27
  go_wp2
  all_goals
    go_ret
    refine ⟨ret_b ?_, rfl⟩
    rw [Bool.eq_iff_iff]
    simp
    try omega
theorem mark_c (c : Nat) (hc : c ≤ 255) (w : World) :
    Calls Try.prog 33 #[.int .u8 c] w fun e w' => e = .returned (.bool (cls c == 8)) ∧ w = w' := by
  rw [cls8 hc]
  go_enter Try.func33, Try.ntmps33
  go_wp2
  all_goals
    go_ret
    refine ⟨ret_b ?_, rfl⟩
    rw [Bool.eq_iff_iff]
    simp
    try omega
/-- a class that a word is made of -/
theorem joinB_name (y : Nat) : joinB 2 y = (y == 2 || y == 3 || y == 4) ∧ joinB 3 y = (y == 2 || y == 3 || y == 4) ∧ joinB 4 y = (y == 4) ∧ joinB 5 y = (y == 5) := ⟨rfl, rfl, rfl, rfl⟩
theorem joins_c (x y : Nat) (w : World) :
    Calls Try.prog 94 #[.int .i64 x, .int .i64 y] w fun e w' => e = .returned (.bool (joinB x y)) ∧ w = w' := by
  go_enter Try.func94, Try.ntmps94
  go_wp2
  all_goals
    go_ret
    refine ⟨ret_b ?_, rfl⟩
    simp only [beq_iff_eq, beq_eq_false_iff_ne, ne_eq] at *
    rw [Bool.eq_iff_iff]
    unfold joinB
    repeat' split
    all_goals (simp; try omega)
/-- the reference's name bytes -/
theorem named_c (c : Nat) (hc : c ≤ 255) (w : World) :
    Calls Try.prog 51 #[.int .u8 c] w fun e w' => e = .returned (.bool (joinB 2 (cls c))) ∧ w = w' := by
  rw [(joinB_name _).1]
  have k2 := small_c c hc
  have k3 := great_c c hc
  have k4 := digit_c c hc
  cases h2 : cls c == 2 <;> cases h3 : cls c == 3 <;> (rw [h2] at k2; rw [h3] at k3)
  all_goals
    go_enter Try.func51, Try.ntmps51
    go_wp2_with (first | (go_at_call 28; (with_reducible refine (k2 _).mono ?_); rintro e w' ⟨rfl, rfl⟩) | (go_at_call 30; (with_reducible refine (k3 _).mono ?_); rintro e w' ⟨rfl, rfl⟩) | (go_at_call 31; (with_reducible refine (k4 _).mono ?_); rintro e w' ⟨rfl, rfl⟩))
    go_ret
    exact ⟨ret_b (by simp), rfl⟩

end Go.Proofs.Ytpihmockcjdafaa.lx
end
section
/- The scanner in memory; what only reads it: ends, opens, behindIs. -/
namespace Go.Proofs.Ytpihmockcjdafaa.lx
open Go.RowKit

/-! ### frames -/
/-- all but block c is as it was; new blocks may have come -/
def Kp (c : Nat) (w w' : World) : Prop := w.grownBy w' (some c)
theorem Kp.refl (c : Nat) (w : World) : Kp c w w := World.grownBy.refl _ _
theorem Kp.trans {c : Nat} {w w1 w2 : World} (h : Kp c w w1) (h2 : Kp c w1 w2) : Kp c w w2 :=
  ⟨h2.os.trans h.os, h2.tape.trans h.tape, h2.output.trans h.output, Nat.le_trans h.size h2.size, fun k hk hne => (h2.block k (Nat.lt_of_lt_of_le hk h.size) hne).trans (h.block k hk hne)⟩
theorem Kp.drew {c : Nat} {w w1 : World} (h : Kp c w w1) (k : Nat) : Kp c w (w1.drewN k) := h.trans ⟨rfl, rfl, rfl, Nat.le_refl _, fun _ _ _ => rfl⟩
theorem Kp.drawn (c : Nat) (w : World) (k : Nat) : Kp c w (w.drewN k) := (Kp.refl c w).drew k
theorem Kp.set {c : Nat} {w w1 : World} (h : Kp c w w1) (j : Nat) (v : Value) : Kp c w (w1.setCell ⟨c, j, none⟩ v) :=
  h.trans ⟨rfl, rfl, rfl, by simp [World.setCell], fun k _ hk => Below.heap_setCell _ _ _ _ (fun e => hk (by simp [e]))⟩
theorem Kp.alloc {c : Nat} {w w1 : World} (h : Kp c w w1) (o : Obj) : Kp c w (w1.alloc o) := h.trans (World.grownBy_alloc w1 o _)
theorem Kp.of_below {c : Nat} {w w1 w2 : World} (h : Kp c w w1) (hb : Below w1.heap.size w1 w2) : Kp c w w2 :=
  h.trans ⟨hb.os, hb.tape, hb.output, hb.size, fun k hk _ => hb.block k hk⟩
theorem Kp.below {B c : Nat} {w w1 w2 : World} (h : Kp c w1 w2) (hb : Below B w w1) (hB : B ≤ c) (hs : B ≤ w1.heap.size) : Below B w w2 :=
  hb.grown h hs (fun k hk => by cases hk; exact hB)
/-- a new block's changes are none of the old ones' -/
theorem below_new {b : Nat} {w w1 : World} (hb : Below b w w1) (_hs : b ≤ w.heap.size) {k : Nat} (hk : k < b) : w1.heap[k]? = w.heap[k]? := hb.block k hk

/-! ### tokens in memory -/
def tcell (t : Tok) : List Value := [.int .i64 (t.kind : Nat), .string ⟨t.text.toArray⟩, .int .i64 (t.frm : Nat), .int .i64 (t.to : Nat)]
def tcells (ts : List Tok) : List Value := ts.flatMap tcell
theorem tcells_append (a b : List Tok) : tcells (a ++ b) = tcells a ++ tcells b := by simp [tcells]
theorem tcells_len (ts : List Tok) : (tcells ts).length = ts.length * 4 := by
  induction ts with
  | nil => rfl
  | cons t ts ih => rw [tcells, List.flatMap_cons, List.length_append, List.length_cons]; rw [tcells] at ih; rw [ih]; simp [tcell]; omega
theorem tcells_get (ts : List Tok) (i j : Nat) (hi : i < ts.length) (hj : j < 4) : (tcells ts)[i * 4 + j]? = (tcell ts[i])[j]? := by
  induction ts generalizing i with
  | nil => exact absurd hi (Nat.not_lt_zero _)
  | cons t ts ih =>
    rw [tcells, List.flatMap_cons]
    cases i with
    | zero => rw [List.getElem?_append_left (by simp [tcell]; omega)]; simp
    | succ i =>
      rw [List.getElem?_append_right (by simp [tcell]; omega)]
      rw [show (i + 1) * 4 + j - (tcell t).length = i * 4 + j from by simp [tcell]; omega]
      rw [tcells] at ih
      rw [ih i (by simpa using hi)]; rfl
/-- a slice of the call's own holds these tokens -/
def Tk (B : Nat) (w : World) (v : Value) (ts : List Tok) : Prop := w.ownsRow B 48 4 v ts.length (tcells ts)
theorem Tk.nil (B : Nat) (w : World) : Tk B w (.slice none 0 0) [] := World.ownsRow_nil w B _ 4
theorem Tk.shape {B : Nat} {w : World} {v : Value} {ts : List Tok} (h : Tk B w v ts) : ∃ a cap, v = .slice a ts.length cap := by
  rcases h.2 with ⟨h1, h2⟩ | ⟨g, cap, cur, h1, _⟩
  · exact ⟨none, 0, by rw [h2]; exact h1⟩
  · exact ⟨_, _, h1⟩
theorem Tk.row {B : Nat} {w : World} {v : Value} {ts : List Tok} (h : Tk B w v ts) (h0 : 0 < ts.length) : ∃ g cap, v = .slice (some ⟨g, 0, none⟩) ts.length cap ∧ ts.length ≤ cap ∧ B ≤ g ∧ g < w.heap.size ∧
    ∀ i (hi : i < ts.length), w.cell? ⟨g, i * 4, none⟩ = some (.int .i64 (ts[i].kind : Nat)) ∧ w.cell? ⟨g, i * 4 + 1, none⟩ = some (.string ⟨ts[i].text.toArray⟩) ∧
      w.cell? ⟨g, i * 4 + 2, none⟩ = some (.int .i64 (ts[i].frm : Nat)) ∧ w.cell? ⟨g, i * 4 + 3, none⟩ = some (.int .i64 (ts[i].to : Nat)) := by
  rcases h.2 with ⟨h1, h2⟩ | ⟨g, cap, cur, h1, hB, h3, h4, _⟩
  · omega
  · have hlt := (World.ownsRow.lt h) g (by rw [h1]; rfl)
    refine ⟨g, cap, h1, h4, hB, hlt.2, fun i hi => ?_⟩
    have hg := World.ownsRow.cells h (g := g) (by rw [h1]; rfl)
    have key : ∀ j (u : Value), j < 4 → (tcell ts[i])[j]? = some u → w.cell? ⟨g, i * 4 + j, none⟩ = some u := fun j u hj hu => by
      have e : (⟨g, 0, none⟩ : Addr).add (i * 4 + j) = ⟨g, i * 4 + j, none⟩ := by
        unfold Addr.add
        split
        · rename_i h0; simp at h0; simp
        · simp
      rw [← e]
      exact hg (i * 4 + j) u (by rw [tcells_get ts i j hi hj]; exact hu)
    exact ⟨key 0 _ (by omega) rfl, key 1 _ (by omega) rfl, key 2 _ (by omega) rfl, key 3 _ (by omega) rfl⟩
theorem Tk.mono {B B' : Nat} {w : World} {v : Value} {ts : List Tok} (h : Tk B w v ts) (hB : B' ≤ B) : Tk B' w v ts := by
  refine ⟨h.1, ?_⟩
  rcases h.2 with h1 | ⟨g', cap', cur, h1, h2, h3⟩
  · exact .inl h1
  · exact .inr ⟨g', cap', cur, h1, Nat.le_trans hB h2, h3⟩
theorem Tk.stay {B : Nat} {w w' : World} {v : Value} {ts : List Tok} (h : Tk B w v ts) (hb : Below w.heap.size w w') : Tk B w' v ts :=
  World.ownsRow.kept (row := none) h ⟨hb.os, hb.tape, hb.output, hb.size, fun k hk _ => hb.block k hk⟩ (by cases v.ownBlock <;> simp)
theorem Tk.kp {B c : Nat} {w w' : World} {v : Value} {ts : List Tok} (h : Tk B w v ts) (hk : Kp c w w') (hne : v.ownBlock ≠ some c) : Tk B w' v ts :=
  World.ownsRow.kept h hk (.inr hne)

/-! ### the scanner -/
/-- block c is a scanner of the text s at the place n that has these tokens -/
structure Sc (B c : Nat) (s : ByteArray) (n : Nat) (v : Value) (ts : List Tok) (w : World) : Prop where
  base : B ≤ c
  block : w.heap[c]? = some (.cells #[.string s, .int .i64 (n : Nat), v] 113 (0, 0))
  row : Tk B w v ts
  other : v.ownBlock ≠ some c
section
variable {B c n : Nat} {s : ByteArray} {v : Value} {ts : List Tok} {w : World}
theorem cell_at {cs : Array Value} {T : TypeId} {fr : Nat × Nat} (hb : w.heap[c]? = some (.cells cs T fr)) (j : Nat) : w.cell? ⟨c, j, none⟩ = cs[j]? := by
  simp [World.cell?, hb]
theorem Sc.lt (h : Sc B c s n v ts w) : c < w.heap.size := by
  rcases Nat.lt_or_ge c w.heap.size with h' | h'
  · exact h'
  · have := h.block; simp [Array.getElem?_eq_none h'] at this
theorem Sc.c0 (h : Sc B c s n v ts w) : w.cell? ⟨c, 0, none⟩ = some (.string s) := by rw [cell_at h.block]; rfl
theorem Sc.c1 (h : Sc B c s n v ts w) : w.cell? ⟨c, 1, none⟩ = some (.int .i64 (n : Nat)) := by rw [cell_at h.block]; rfl
theorem Sc.c2 (h : Sc B c s n v ts w) : w.cell? ⟨c, 2, none⟩ = some v := by rw [cell_at h.block]; rfl
theorem Sc.free (h : Sc B c s n v ts w) (j : Nat) : w.frozen? ⟨c, j, none⟩ = false := by simp [World.frozen?, h.block]
theorem Sc.drew (h : Sc B c s n v ts w) (k : Nat) : Sc B c s n v ts (w.drewN k) := ⟨h.base, h.block, h.row, h.other⟩
theorem Sc.alloc (h : Sc B c s n v ts w) (o : Obj) : Sc B c s n v ts (w.alloc o) :=
  ⟨h.base, (Lib.alloc_old w o c h.lt).trans h.block, World.ownsRow.alloc h.row o, h.other⟩
theorem Sc.stay {w' : World} (h : Sc B c s n v ts w) (hb : Below w.heap.size w w') : Sc B c s n v ts w' :=
  ⟨h.base, (hb.block c h.lt).trans h.block, h.row.stay hb, h.other⟩
/-- it moves on -/
theorem Sc.move (h : Sc B c s n v ts w) (m : Nat) {e : Int} (he : e = (m : Nat)) : Sc B c s m v ts (w.setCell ⟨c, 1, none⟩ (.int .i64 e)) := by
  subst he
  refine ⟨h.base, ?_, h.row.kp ((Kp.refl c w).set 1 _) h.other, h.other⟩
  simp [World.setCell, Array.getElem?_modify, h.block]
end

/-! ### bytes of a string -/
/-- byte k of a text -/
def bA (s : ByteArray) (k : Nat) : UInt8 := s.data.toList.getD k 0
theorem get_bA (s : ByteArray) : ∀ (k : Nat) (h : k < s.size), s[k]'h = bA s k := fun k h => by
  unfold bA
  rw [List.getD_eq_getElem?_getD, List.getElem?_eq_getElem (by simpa using h)]
  rfl
theorem drop_bA {s : ByteArray} {k : Nat} (h : k < s.size) : s.data.toList.drop k = bA s k :: s.data.toList.drop (k + 1) := by
  rw [List.drop_eq_getElem_cons (by simpa using h)]
  congr 1
  exact get_bA s k h
theorem drop_end {s : ByteArray} {k : Nat} (h : s.size ≤ k) : s.data.toList.drop k = [] := List.drop_eq_nil_of_le (by simpa using h)
theorem bA_le (s : ByteArray) (k : Nat) : (bA s k).toNat ≤ 255 := by have := (bA s k).toNat_lt; omega
theorem ieq_yes {a : Nat} (k : Int) (h : (a : Int) = k) : ((a : Int) == k) = true ∧ ((a : Int) != k) = false := by subst h; simp
theorem ieq_no {a : Nat} (k : Int) (h : (a : Int) ≠ k) : ((a : Int) == k) = false ∧ ((a : Int) != k) = true := by simp [h]

/-- a callee that changes nothing, asked in a region that reads, behind another such region -/
theorem still {f : FuncId} {args : Array Value} {w : World} {p q : Nat} {v : Value} (h : ∀ W, Calls Try.prog f args W fun e w' => e = .returned v ∧ W = w') :
    Calls Try.prog f args (w.drewN (p + q)) fun e w'' => e = .returned v ∧ ∃ m, w'' = w.drewN (p + m) := by
  refine (h _).mono ?_
  rintro e w' ⟨rfl, rfl⟩
  exact ⟨rfl, q, rfl⟩
/-- .. in the first one -/
theorem still0 {f : FuncId} {args : Array Value} {w : World} {q : Nat} {v : Value} (h : ∀ W, Calls Try.prog f args W fun e w' => e = .returned v ∧ W = w') :
    Calls Try.prog f args (w.drewN q) fun e w'' => e = .returned v ∧ ∃ m, w'' = w.drewN m := by
  refine (h _).mono ?_
  rintro e w' ⟨rfl, rfl⟩
  exact ⟨rfl, q, rfl⟩
end Go.Proofs.Ytpihmockcjdafaa.lx
end
section
/- The library's string builder as this program has it (its copy check's panic is not run): copyCheck, WriteByte, WriteString; String by the shelf. -/
namespace Go.Proofs.Ytpihmockcjdafaa.lx
open Go.RowKit

/-- block b is a builder that holds the bytes l -/
abbrev Bl (B b : Nat) (l : List UInt8) (w : World) : Prop := Lib.IsBuilderF 55 5 B b (Lib.byteCells l) w
theorem bl_info : (Try.prog.info? 55).map (·.size) = some 2 := by kernel_rfl
theorem bl_lies : liesAt Try.prog Try.prog.depth 55 (2 / Try.prog.cellsOf 55) 0 55 1 = true := by kernel_rfl
theorem u8_info : (Try.prog.info? 5).map (fun i => (i.zero, i.size, i.bytes)) = some (some (.int .u8 0), 1, 1) := by kernel_rfl

set_option maxRecDepth 20000 in
theorem check_used (b : Nat) (w : World) (h0 : w.cell? ⟨b, 0, none⟩ = some (.pointer (some ⟨b, 0, none⟩))) :
    Calls Try.prog 57 #[.pointer (some ⟨b, 0, none⟩)] w fun e w' => e = .returned (.tuple #[]) ∧ w = w' := by
  obtain ⟨j, hj, _⟩ := Option.map_eq_some_iff.1 bl_info
  go_enter Try.func57, Try.ntmps57
  go_wp2
  rw [Lib.run_neq_ptr_same w _ Try.underlying52 hj]
  go_wp2
  go_end0
  exact ⟨rfl, rfl⟩
set_option maxRecDepth 20000 in
theorem check_fresh (b : Nat) (w : World) (h0 : w.cell? ⟨b, 0, none⟩ = some (.pointer none)) (hsh : w.shape? b = some (55, 2)) (hfz : w.frozen? ⟨b, 0, none⟩ = false) :
    Calls Try.prog 57 #[.pointer (some ⟨b, 0, none⟩)] w fun e w' => e = .returned (.tuple #[]) ∧ w' = w.setCell ⟨b, 0, none⟩ (.pointer (some ⟨b, 0, none⟩)) := by
  obtain ⟨j, hj, hjs⟩ := Option.map_eq_some_iff.1 bl_info
  go_enter Try.func57, Try.ntmps57
  go_wp2
  rw [Lib.run_to_unsafe w ⟨b, 0, none⟩ Try.underlying52 Try.underlying100 hj (by rw [hjs]; decide) hsh (Nat.zero_lt_succ 1)]
  simp only [Result.andThen]
  rw [Oper.upon_value]
  go_wp2
  rw [run_callFunc_extern Try.func70 (by kernel_rfl) (by kernel_rfl) (by kernel_rfl) (e := Extern.AbiNoEscape.same) (by kernel_rfl)]
  rw [Lib.run_noEscape]
  simp only [Result.andThen]
  rw [Oper.upon_value]
  go_wp2
  rw [Lib.run_from_unsafe w ⟨b, 0, none⟩ Try.underlying100 Try.underlying52 hj hsh bl_lies]
  simp only [Result.andThen]
  rw [Oper.upon_value]
  go_wp2
  go_end0
  exact ⟨rfl, rfl⟩
theorem check_c (B b : Nat) (bs : List Value) (w : World) (h : Lib.IsBuilderF 55 5 B b bs w) :
    Calls Try.prog 57 #[.pointer (some ⟨b, 0, none⟩)] w fun e w' => e = .returned (.tuple #[]) ∧ Lib.BuilderAtF 55 5 B b (.pointer (some ⟨b, 0, none⟩)) bs w' ∧ Below B w w' := by
  rcases h with h | h
  · refine (check_fresh b w h.cell0 h.shape h.frozen0).mono ?_
    rintro e w' ⟨rfl, rfl⟩
    exact ⟨rfl, h.used _, (Below.refl B w).setCell (p := ⟨b, 0, none⟩) h.1 _⟩
  · refine (check_used b w h.cell0).mono ?_
    rintro e w' ⟨rfl, rfl⟩
    exact ⟨rfl, h, Below.refl B _⟩

/-- an opened builder: block b, used before; its bytes l lie in the slice v -/
structure Bu (B b : Nat) (v : Value) (l : List UInt8) (w : World) : Prop where
  low : B ≤ b
  head : w.heap[b]? = some (.cells #[.pointer (some ⟨b, 0, none⟩), v] 55 (0, 0))
  row : w.ownsRowF B 5 1 v l.length (Lib.byteCells l)
  apart : v.ownBlock ≠ some b
section
variable {B b : Nat} {v v' : Value} {l m : List UInt8} {w0 w W w2 : World}
theorem Bu.opened (h : Lib.BuilderAtF 55 5 B b (.pointer (some ⟨b, 0, none⟩)) (Lib.byteCells l) w) : ∃ v, Bu B b v l w :=
  h.2.elim fun v q => ⟨v, h.1, q.1, Lib.byteCells_length l ▸ q.2.1, q.2.2⟩
/-- what the walk reads of it -/
theorem Bu.reads (hh : w.heap[b]? = some (.cells #[.pointer (some ⟨b, 0, none⟩), v] 55 (0, 0))) :
    w.cell? ⟨b, 0, none⟩ = some (.pointer (some ⟨b, 0, none⟩)) ∧ w.cell? ⟨b, 1, none⟩ = some v ∧ w.frozen? ⟨b, 1, none⟩ = false :=
  ⟨(cell_at hh 0).trans rfl, (cell_at hh 1).trans rfl, by simp [World.frozen?, hh]⟩
/-- its slice was appended to, new blocks ahead of that or none: the head is as it was -/
theorem Bu.grew (h : Bu B b v l w) (hW : ∀ k, k < w.heap.size → W.heap[k]? = w.heap[k]?) (hz : w.heap.size ≤ W.heap.size) (hg : W.grownBy w2 v.ownBlock) : w2.heap[b]? = w.heap[b]? := by
  have hlt : b < w.heap.size := (Array.getElem?_eq_some_iff.1 h.head).1
  exact (hg.block b (Nat.lt_of_lt_of_le hlt hz) h.apart.symm).trans (hW b hlt)
/-- the longer slice is stored -/
theorem Bu.stored (h : Bu B b v l w) (h2 : w2.heap[b]? = w.heap[b]?) (n : Nat) (cs : List Value) (hn : n = (l ++ m).length) (hcs : cs = Lib.byteCells (l ++ m)) (ho : w2.ownsRowF B 5 1 v' n cs) : Bl B b (l ++ m) (w2.setCell ⟨b, 1, none⟩ v') := by
  subst hn hcs
  rw [← Lib.byteCells_length] at ho
  exact .inr (Lib.BuilderAtF.put h.low (h2.trans h.head) ho (by decide))
theorem Bu.frame (h : Bu B b v l w) (h0 : Below B w0 W) (hB : B ≤ W.heap.size) (hg : W.grownBy w2 v.ownBlock) : Below B w0 (w2.setCell ⟨b, 1, none⟩ v') :=
  (h0.grown hg hB fun k hk => (h.row.lt k hk).1).setCell (p := ⟨b, 1, none⟩) h.low _
/-- an own slice is a slice -/
theorem owns_slice {n : Nat} {cs : List Value} (h : w.ownsRowF B 5 1 v n cs) : ∃ a k c, v = .slice a k c := by
  rcases h.2 with h1 | ⟨g, c, _, _, h1, _⟩
  · exact ⟨none, 0, 0, h1.1⟩
  · exact ⟨_, _, c, h1⟩
end
theorem byte_new (w : World) (x : UInt8) (j : Nat) (u : Value) (hj : (Lib.byteCells [x])[j]? = some u) : (w.alloc (.cells #[.int .u8 (x.toNat : Nat)] 5)).cell? ((⟨w.heap.size, 0, none⟩ : Addr).add j) = some u := by
  obtain rfl : j = 0 := by
    have := (List.getElem?_eq_some_iff.1 hj).1
    rw [Lib.byteCells_length, List.length_singleton] at this; omega
  exact (cell_at (heap_alloc_new w _) 0).trans hj
theorem byte_one (x : UInt8) : ∀ u ∈ Lib.byteCells [x], u.oneCell' = true := fun u hu => by rw [List.mem_singleton.1 hu]; rfl

set_option maxHeartbeats 1000000 in
theorem writeByte_c (B b : Nat) (l : List UInt8) (x : UInt8) (w : World) (h : Bl B b l w) (hlen : l.length ≤ 1000000) (hBw : B ≤ w.heap.size) :
    Calls Try.prog 60 #[.pointer (some ⟨b, 0, none⟩), .int .u8 (x.toNat : Nat)] w fun e w' => e = .returned .nilIface ∧ Bl B b (l ++ [x]) w' ∧ Below B w w' := by
  obtain ⟨i0, hi, hz0, hz1, hz2⟩ := info_parts u8_info
  go_enter Try.func60, Try.ntmps60
  go_wp2_with (go_at_call 57; refine (check_c B b _ _ h).mono ?_)
  rintro e w1 ⟨rfl, h1, hb1⟩
  obtain ⟨v, hu⟩ := Bu.opened h1
  have HU := Lib.hid hu
  obtain ⟨c0, c1, _⟩ := Bu.reads hu.head
  have hz := hb1.size
  have HB1 := Lib.hid hb1
  clear hu h1 hb1
  go_wp2_with (at_builtin; refine wpList_append_ownF _ rfl _ _ 53 rfl B 5 i0 (.int .u8 0) 1 1 Try.underlying53 hi hz0 hz1 hz2 rfl (by decide) _ _ _ rfl (HU.out.row.alloc _) ⟨w1.heap.size, 0, none⟩ 1 1 (Lib.byteCells [x]) rfl rfl (byte_new w1 x) (byte_one x) (by unfold maxLen; omega) (by omega) (by simp; omega) ?_)
  intro v2 w2 ho hg _
  have hh := HU.out.grew (fun k hk => Lib.alloc_old w1 _ k hk) (by simp) hg
  obtain ⟨d0, d1, f1⟩ := Bu.reads (hh.trans HU.out.head)
  obtain ⟨sa, sl, sc, rfl⟩ := owns_slice ho
  have HO := Lib.hid ho
  have HH := Lib.hid hh
  have HG := Lib.hid hg
  clear ho hh hg
  go_wp2
  go_ret
  exact ⟨rfl, HU.out.stored HH.out _ _ (by simp) (by simp [Lib.byteCells]) HO.out, HU.out.frame (HB1.out.alloc (by omega) _) (by simp; omega) HG.out⟩

set_option maxHeartbeats 1000000 in
theorem writeString_c (B b : Nat) (l : List UInt8) (s : ByteArray) (w : World) (h : Bl B b l w) (hlen : l.length ≤ 1000000) (hs : s.size ≤ 1000000) (hBw : B ≤ w.heap.size) :
    Calls Try.prog 39 #[.pointer (some ⟨b, 0, none⟩), .string s] w fun e w' => e = .returned (.tuple #[.int .i64 s.size, .nilIface]) ∧ Bl B b (l ++ s.data.toList) w' ∧ Below B w w' := by
  obtain ⟨i0, hi, hz0, hz1, hz2⟩ := info_parts u8_info
  go_enter Try.func39, Try.ntmps39
  go_wp2_with (go_at_call 57; refine (check_c B b _ _ h).mono ?_)
  rintro e w1 ⟨rfl, h1, hb1⟩
  obtain ⟨v, hu⟩ := Bu.opened h1
  have HU := Lib.hid hu
  obtain ⟨c0, c1, _⟩ := Bu.reads hu.head
  have hz := hb1.size
  have HB1 := Lib.hid hb1
  clear hu h1 hb1
  go_wp2_with (at_builtin; refine Lib.wpList_append_own_stringF _ rfl _ _ 53 9 rfl B 5 i0 Try.underlying53 Try.underlying9 hi hz0 hz1 hz2 _ _ _ rfl HU.out.row s rfl (by unfold maxLen; omega) (by omega) (by omega) ?_)
  intro v2 w2 ho hg _
  have hh := HU.out.grew (fun k _ => rfl) (Nat.le_refl _) hg
  obtain ⟨d0, d1, f1⟩ := Bu.reads (hh.trans HU.out.head)
  obtain ⟨sa, sl, sc, rfl⟩ := owns_slice ho
  have HO := Lib.hid ho
  have HH := Lib.hid hh
  have HG := Lib.hid hg
  clear ho hh hg
  go_wp2
  go_ret2
  exact ⟨rfl, HU.out.stored HH.out _ _ (by simp) (by rw [Lib.strCells_eq]; simp [Lib.byteCells]) HO.out, HU.out.frame HB1.out (by omega) HG.out⟩

theorem bString_c (B b : Nat) (l : List UInt8) (w : World) (h : Bl B b l w) (hBw : B ≤ w.heap.size) :
    Calls Try.prog 23 #[.pointer (some ⟨b, 0, none⟩)] w fun e w' => e = .returned (.string ⟨l.toArray⟩) ∧ Below B w w' :=
  (Try.Builder_String_any_k B b l w h hBw).mono fun _ _ ⟨h1, _, h2, _⟩ => ⟨h1, h2⟩
/-- a builder that was just made -/
theorem bl_new (w : World) : Bl w.heap.size w.heap.size [] (w.alloc (.cells #[.pointer none, .slice none 0 0] 55)) :=
  .inl ⟨Nat.le_refl _, .slice none 0 0, heap_alloc_new w _, ⟨rfl, .inl ⟨rfl, rfl⟩⟩, by simp [Value.ownBlock]⟩
end Go.Proofs.Ytpihmockcjdafaa.lx
end
section
/- The scanner's methods that only read: ends, behindIs, opens, kind. -/
namespace Go.Proofs.Ytpihmockcjdafaa.lx
open Go.RowKit

/-- a '.' here ends a sentence -/
def endsB (s : ByteArray) (n : Nat) : Bool := bA s n == 46 && (n + 1 == s.size || bA s (n + 1) == 37 || cl (bA s (n + 1)) == 1)
theorem u8_eq (b : UInt8) (k : Nat) (hk : k < 256) : (b == UInt8.ofNat k) = (b.toNat == k) := by
  rw [Bool.eq_iff_iff, beq_iff_eq, beq_iff_eq]
  constructor
  · intro h; rw [h]; simp; omega
  · intro h; rw [← h]; simp

set_option maxHeartbeats 1000000 in
theorem ends_c {B c n : Nat} {s : ByteArray} {v : Value} {ts : List Tok} {w : World} (h : Sc B c s n v ts w) (hn : n < s.size) (hs : s.size ≤ 4096) :
    Calls Try.prog 93 #[.pointer (some ⟨c, 0, none⟩)] w fun e w' => e = .returned (.bool (endsB s n)) ∧ ∃ k, w' = w.drewN k := by
  have c0 := h.c0
  have c1 := h.c1
  clear h
  have hgt := get_bA s
  have hE : endsB s n = ((bA s n).toNat == 46 && (n + 1 == s.size || (bA s (n + 1)).toNat == 37 || cls (bA s (n + 1)).toNat == 1)) := by
    unfold endsB
    rw [show (46 : UInt8) = UInt8.ofNat 46 from rfl, show (37 : UInt8) = UInt8.ofNat 37 from rfl, u8_eq _ _ (by omega), u8_eq _ _ (by omega)]
  rw [hE]; clear hE
  have kc := class_c (bA s (n + 1)).toNat (bA_le s _)
  have i1 : IntKind.i64.wrap ((n : Int) + 1) = (n : Int) + 1 := IntWalk.i64_in _ (by omega)
  have i2 : ((n : Int) + 1).toNat = n + 1 := by omega
  have i3 : (0 : Int) ≤ (n : Int) + 1 := by omega
  have n1 : (n : Int) < s.size := by omega
  have n2 : (n : Int) + 1 ≤ s.size := by omega
  by_cases h1 : (bA s n).toNat = 46
  · obtain ⟨a1, a2⟩ := ieq_yes (a := (bA s n).toNat) 46 (by omega)
    have H1 := Lib.hid (show ((bA s n).toNat == 46) = true by simpa using h1)
    clear h1
    by_cases h2 : n + 1 = s.size
    · have b1 : ((n : Int) + 1 == (s.size : Int)) = true := by simp; omega
      have H2 := Lib.hid (show (n + 1 == s.size) = true by simpa using h2)
      clear h2
      go_enter Try.func93, Try.ntmps93
      go_wp2
      go_quiet (fail)
      go_wp2_with (go_at_call 80; (with_reducible refine (kc _).mono ?_); rintro e w' ⟨rfl, rfl⟩)
      go_ret
      exact ⟨ret_b (by rw [H1.out, H2.out]; rfl), _, rfl⟩
    · have b1 : ((n : Int) + 1 == (s.size : Int)) = false := by simp; omega
      have H2 := Lib.hid (show (n + 1 == s.size) = false by simpa using h2)
      have n3 : n + 1 < s.size := by omega
      have n4 : (n : Int) + 1 < s.size := by omega
      clear h2
      by_cases h3 : (bA s (n + 1)).toNat = 37
      · obtain ⟨d1, d2⟩ := ieq_yes (a := (bA s (n + 1)).toNat) 37 (by omega)
        have H3 := Lib.hid (show ((bA s (n + 1)).toNat == 37) = true by simpa using h3)
        clear h3
        go_enter Try.func93, Try.ntmps93
        go_wp2
        go_quiet (fail)
        go_wp2_with (go_at_call 80; (with_reducible refine (kc _).mono ?_); rintro e w' ⟨rfl, rfl⟩)
        go_ret
        exact ⟨ret_b (by rw [H1.out, H2.out, H3.out]; rfl), _, rfl⟩
      · obtain ⟨d1, d2⟩ := ieq_no (a := (bA s (n + 1)).toNat) 37 (by omega)
        have H3 := Lib.hid (show ((bA s (n + 1)).toNat == 37) = false by simpa using h3)
        clear h3
        by_cases h4 : cls (bA s (n + 1)).toNat = 1
        · obtain ⟨g1, g2⟩ := ieq_yes (a := cls (bA s (n + 1)).toNat) 1 (by omega)
          have H4 := Lib.hid (show (cls (bA s (n + 1)).toNat == 1) = true by simpa using h4)
          clear h4
          go_enter Try.func93, Try.ntmps93
          go_wp2
          go_quiet (fail)
          go_wp2_with (go_at_call 80; (with_reducible refine (kc _).mono ?_); rintro e w' ⟨rfl, rfl⟩)
          go_ret
          exact ⟨ret_b (by rw [H1.out, H2.out, H3.out, H4.out]; rfl), _, rfl⟩
        · obtain ⟨g1, g2⟩ := ieq_no (a := cls (bA s (n + 1)).toNat) 1 (by omega)
          have H4 := Lib.hid (show (cls (bA s (n + 1)).toNat == 1) = false by simpa using h4)
          clear h4
          go_enter Try.func93, Try.ntmps93
          go_wp2
          go_quiet (fail)
          go_wp2_with (go_at_call 80; (with_reducible refine (kc _).mono ?_); rintro e w' ⟨rfl, rfl⟩)
          go_ret
          exact ⟨ret_b (by rw [H1.out, H2.out, H3.out, H4.out]; rfl), _, rfl⟩
  · obtain ⟨a1, a2⟩ := ieq_no (a := (bA s n).toNat) 46 (by omega)
    have H1 := Lib.hid (show ((bA s n).toNat == 46) = false by simpa using h1)
    clear h1 kc
    go_enter Try.func93, Try.ntmps93
    go_wp2
    go_quiet (fail)
    go_wp2
    go_ret
    exact ⟨ret_b (by rw [H1.out]; rfl), _, rfl⟩

theorem behindIs_c {B c n : Nat} {s : ByteArray} {v : Value} {ts : List Tok} {w : World} (h : Sc B c s n v ts w) (hn : n < s.size) (hs : s.size ≤ 4096) (b : Nat) :
    Calls Try.prog 90 #[.pointer (some ⟨c, 0, none⟩), .int .u8 b] w fun e w' => e = .returned (.bool (decide (n + 1 < s.size) && (bA s (n + 1)).toNat == b)) ∧ w = w' := by
  have c0 := h.c0
  have c1 := h.c1
  clear h
  have hgt := get_bA s
  by_cases h2 : n + 1 < s.size
  · have H2 := Lib.hid (show decide (n + 1 < s.size) = true by simpa using h2)
    go_enter Try.func90, Try.ntmps90
    go_wp2
    go_ret
    refine ⟨ret_b ?_, rfl⟩
    rw [H2.out, Bool.true_and, Bool.eq_iff_iff]; simp; omega
  · have H2 := Lib.hid (show decide (n + 1 < s.size) = false by simpa using h2)
    go_enter Try.func90, Try.ntmps90
    go_wp2
    go_ret
    exact ⟨rfl, rfl⟩
end Go.Proofs.Ytpihmockcjdafaa.lx
end
