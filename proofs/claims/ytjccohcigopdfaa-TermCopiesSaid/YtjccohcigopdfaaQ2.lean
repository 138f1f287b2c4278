/- What the machine of modes says of whole texts: places, shifts, limits. Plain lists.; Plain arithmetic of 64-bit integers, for the layer num: no program in sight.; Decimal digits as bytes: plain lemmas, no program in sight.; A row of tokens as terms: the document's answer, as functions of lists: no program in sight.; The bytes' classes: lex's class, joins; the reference's small, great, digit, named, blank, sign, mark.; The scanner in memory; what only reads it: ends, opens, behindIs.; The library's string builder as this program has it (its copy check's panic is not run): copyCheck, WriteByte, WriteString; String by the shelf.; The scanner's methods that only read: ends, behindIs, opens, kind.; The scanner's opens: whether a '(' opens what stands right ahead of it.; The scanner's word: goes past a token without quotes.; What stands between tokens: the scanner's skipLine, skipRemark. -/
import Derived.Test.YtjccohcigopdfaaQ1
import Derived.WalkKit
import Derived.Test.YtjccohcigopdfaaProg
import Derived.Handy
import Derived.Outline
import Derived.PlainAid
import Derived.Lib.Hide
import Derived.BigQuiet
import Derived.Deep.QuietTactic
import Derived.WalkSmall
import Derived.WalkLawsBesides
import Derived.Laws.MakeOwn
import Derived.Laws.AppendOwn
import Derived.OwnWalk
import Derived.Carry
import Derived.RegionTactic
import Derived.BigRegion
import Derived.ChangeAlike
import Derived.Lib.Strings
import Derived.WideShapes
import Derived.Lib.FrozenHead
import Derived.Lib.FrozenHead2
import Derived.Laws.Externs
import Derived.Deep.RegionHeld3
import Derived.StillTailTactics
import Derived.Deep.Fields
import Derived.Deep.WholeRow
import Derived.Deep.LoopGhost
import Derived.Lib.CutLaws
import Derived.Lib.IndexMore
set_option linter.unusedVariables false
set_option linter.unusedSimpArgs false
section
/- What the machine of modes says of whole texts: places, shifts, limits. Plain lists. -/
namespace Go.Proofs.Ytjccohcigopdfaa.lx

/-! ### tokens shifted, and behind others -/
def shT (d : Nat) (t : Tok) : Tok := ⟨t.kind, t.text, t.frm + d, t.to + d⟩
def shM (d : Nat) : Mode → Mode
  | .btw => .btw
  | .line => .line
  | .slash f => .slash (f + d)
  | .dot f => .dot (f + d)
  | .rem f => .rem (f + d)
  | .star f => .star (f + d)
  | .word c f acc => .word c (f + d) acc
  | .quo f acc => .quo (f + d) acc
  | .quoq f acc => .quoq (f + d) acc
  | .esc f acc => .esc (f + d) acc
def shR (T : List Tok) (d : Nat) : R → R
  | .go ts m => .go (T ++ ts.map (shT d)) (shM d m)
  | .bad p e => .bad (p + d) e
def shO (T : List Tok) (d : Nat) : Out → Out
  | .ok ts => .ok (T ++ ts.map (shT d))
  | .bad p e => .bad (p + d) e
/-- the last token of T ends ahead of d -/
def Ahead (T : List Tok) (d : Nat) : Prop := ∀ t, T.getLast? = some t → t.to < d
theorem opens_shift {T : List Tok} {d : Nat} (h : Ahead T d) (ts : List Tok) (n : Nat) : opens (T ++ ts.map (shT d)) (n + d) = opens ts n := by
  unfold opens
  rcases ts.eq_nil_or_concat with rfl | ⟨l, t, rfl⟩
  · simp only [List.map_nil, List.append_nil, List.getLast?_nil]
    cases hT : T.getLast? with
    | none => rfl
    | some t =>
      have := h t hT
      have e : (t.to == n + d) = false := by simp; omega
      simp [e]
  · rw [List.concat_eq_append, List.map_append, ← List.append_assoc]
    simp only [List.map_cons, List.map_nil, List.getLast?_append, List.getLast?_singleton, Option.some_or]
    show ((shT d t).kind == 1 && (shT d t).to == n + d) = (t.kind == 1 && t.to == n)
    simp only [shT]
    congr 1
    rw [Bool.eq_iff_iff]; simp
theorem len_shift (T ts : List Tok) (d M : Nat) (hM : T.length ≤ M) : (T ++ ts.map (shT d)).length = M ↔ ts.length = M - T.length := by
  rw [List.length_append, List.length_map]; omega
theorem opening_shift {T : List Tok} {d : Nat} (h : Ahead T d) (ts : List Tok) (n : Nat) (b : UInt8) : opening (T ++ ts.map (shT d)) (n + d) b = shR T d (opening ts n b) := by
  unfold opening
  rw [opens_shift h]
  by_cases h6 : cl b = 6
  · rw [if_pos h6, if_pos h6]; rfl
  rw [if_neg h6, if_neg h6]
  by_cases h7 : cl b = 7
  · rw [if_pos h7, if_pos h7]; simp [shR, shM, shT]; omega
  rw [if_neg h7, if_neg h7]
  by_cases h8 : cl b = 8
  · rw [if_pos h8, if_pos h8]; simp [shR, shM, shT]; omega
  rw [if_neg h8, if_neg h8]
  by_cases h46 : b = 46
  · rw [if_pos h46, if_pos h46]; rfl
  rw [if_neg h46, if_neg h46]; rfl
theorem start_shift {T : List Tok} {d M : Nat} (h : Ahead T d) (hM : T.length ≤ M) (ts : List Tok) (n : Nat) (b : UInt8) : start M (T ++ ts.map (shT d)) (n + d) b = shR T d (start (M - T.length) ts n b) := by
  unfold start
  rw [opening_shift h]
  by_cases h1 : cl b = 1
  · rw [if_pos h1, if_pos h1]; rfl
  rw [if_neg h1, if_neg h1]
  by_cases h2 : b = 37
  · rw [if_pos h2, if_pos h2]; rfl
  rw [if_neg h2, if_neg h2]
  by_cases h3 : b = 47
  · rw [if_pos h3, if_pos h3]; rfl
  rw [if_neg h3, if_neg h3]
  by_cases h0 : cl b = 0
  · rw [if_pos h0, if_pos h0]; rfl
  rw [if_neg h0, if_neg h0]
  by_cases hl : ts.length = M - T.length
  · rw [if_pos ((len_shift T ts d M hM).2 hl), if_pos hl]; rfl
  rw [if_neg (mt (len_shift T ts d M hM).1 hl), if_neg hl]
theorem snoc_shift (T ts : List Tok) (d : Nat) (t : Tok) : T ++ ts.map (shT d) ++ [shT d t] = T ++ (ts ++ [t]).map (shT d) := by simp
/-- a mode that may stand at n -/
def At (n : Nat) : Mode → Prop
  | .esc _ _ => 1 ≤ n
  | _ => True
theorem step_shift {T : List Tok} {d M : Nat} (h : Ahead T d) (hM : T.length ≤ M) (ts : List Tok) (n : Nat) (b : UInt8) (m : Mode) (hm : At n m) :
    step M (T ++ ts.map (shT d)) (n + d) b (shM d m) = shR T d (step (M - T.length) ts n b m) := by
  have key : ∀ (t : Tok), start M (T ++ ts.map (shT d) ++ [⟨t.kind, t.text, t.frm + d, t.to + d⟩]) (n + d) b = shR T d (start (M - T.length) (ts ++ [t]) n b) := fun t => by
    have := start_shift h hM (ts ++ [t]) n b
    rwa [← snoc_shift] at this
  cases m with
  | btw => exact start_shift h hM ts n b
  | line => simp only [shM, step]; split <;> rfl
  | slash f =>
    simp only [shM, step]
    by_cases h1 : b = 42
    · rw [if_pos h1, if_pos h1]; rfl
    rw [if_neg h1, if_neg h1]
    by_cases hl : ts.length = M - T.length
    · rw [if_pos ((len_shift T ts d M hM).2 hl), if_pos hl]; rfl
    rw [if_neg (mt (len_shift T ts d M hM).1 hl), if_neg hl]
    by_cases h5 : cl b = 5
    · rw [if_pos h5, if_pos h5]; rfl
    rw [if_neg h5, if_neg h5]; exact key ⟨1, [47], f, n⟩
  | dot f =>
    simp only [shM, step]
    by_cases h5 : cl b = 5
    · rw [if_pos h5, if_pos h5]; rfl
    rw [if_neg h5, if_neg h5]; exact key ⟨_, [46], f, n⟩
  | rem f => simp only [shM, step]; split <;> rfl
  | star f =>
    simp only [shM, step]
    split
    · rfl
    · split <;> rfl
  | word c f acc =>
    simp only [shM, step]
    split
    · rfl
    · exact key ⟨_, acc, f, n⟩
  | quo f acc =>
    simp only [shM, step]
    split
    · rfl
    · split
      · rfl
      · split <;> rfl
  | quoq f acc =>
    simp only [shM, step]
    split
    · rfl
    · exact key ⟨1, acc, f, n⟩
  | esc f acc =>
    have h1 : 1 ≤ n := hm
    simp only [shM, step]
    split
    · rfl
    · split
      · rfl
      · split
        · rfl
        · simp only [shR]; congr 1; omega
theorem fin_shift {T : List Tok} {d M : Nat} (hM : T.length ≤ M) (ts : List Tok) (n : Nat) (m : Mode) : fin M (T ++ ts.map (shT d)) (n + d) (shM d m) = shO T d (fin (M - T.length) ts n m) := by
  have key : ∀ (t : Tok), Out.ok (T ++ ts.map (shT d) ++ [⟨t.kind, t.text, t.frm + d, t.to + d⟩]) = shO T d (.ok (ts ++ [t])) := fun t => by
    have := snoc_shift T ts d t
    simp only [shT] at this
    simp only [shO]; rw [this]
  cases m with
  | slash f =>
    simp only [shM, fin]
    by_cases hl : ts.length = M - T.length
    · rw [if_pos ((len_shift T ts d M hM).2 hl), if_pos hl]; rfl
    rw [if_neg (mt (len_shift T ts d M hM).1 hl), if_neg hl]; exact key ⟨1, [47], f, n⟩
  | dot f => exact key ⟨6, [46], f, n⟩
  | word c f acc => exact key ⟨_, acc, f, n⟩
  | quoq f acc => exact key ⟨1, acc, f, n⟩
  | btw => rfl
  | line => rfl
  | rem f => rfl
  | star f => rfl
  | quo f acc => rfl
  | esc f acc => rfl
theorem ans_shift {T : List Tok} {d M : Nat} (h : Ahead T d) (hM : T.length ≤ M) : ∀ (l : List UInt8) (ts : List Tok) (n : Nat) (m : Mode), At n m →
    ans M l (T ++ ts.map (shT d)) (n + d) (shM d m) = shO T d (ans (M - T.length) l ts n m) := by
  intro l
  induction l with
  | nil => intro ts n m _; exact fin_shift hM ts n m
  | cons b l ih =>
    intro ts n m hm
    rw [ans_cons, ans_cons, step_shift h hM ts n b m hm]
    cases hs : step (M - T.length) ts n b m with
    | go ts' m' =>
      simp only [shR]
      rw [show n + d + 1 = n + 1 + d from by omega]
      exact ih ts' (n + 1) m' (by cases m' <;> simp [At])
    | bad p e => rfl

/-! ### no more tokens than there may be -/
def pend : Mode → Nat
  | .dot _ => 1
  | .word _ _ _ => 1
  | .quo _ _ => 1
  | .quoq _ _ => 1
  | .esc _ _ => 1
  | _ => 0
theorem opening_more {ts ts' : List Tok} {n : Nat} {b : UInt8} {m' : Mode} (h : opening ts n b = .go ts' m') : ts.length + 1 ≤ ts'.length + pend m' := by
  unfold opening at h
  split at h
  · cases h; exact Nat.le_refl _
  · split at h
    · cases h; simp [pend]
    · split at h
      · cases h; simp [pend]
      · split at h <;> cases h <;> exact Nat.le_refl _
theorem opening_go (ts : List Tok) (n : Nat) (b : UInt8) : ∃ ts' m', opening ts n b = .go ts' m' := by
  unfold opening
  repeat' split
  all_goals exact ⟨_, _, rfl⟩
/-- with fewer tokens let in: the same, as long as they are enough -/
theorem start_less {M M' : Nat} {ts ts' : List Tok} {n : Nat} {b : UInt8} {m' : Mode} (h : start M ts n b = .go ts' m') : ts.length ≤ ts'.length + pend m' ∧ (ts'.length + pend m' ≤ M' → start M' ts n b = .go ts' m') := by
  unfold start at h ⊢
  by_cases h1 : cl b = 1
  · rw [if_pos h1] at h ⊢; cases h; exact ⟨by simp [pend], fun _ => rfl⟩
  rw [if_neg h1] at h ⊢
  by_cases h2 : b = 37
  · rw [if_pos h2] at h ⊢; cases h; exact ⟨by simp [pend], fun _ => rfl⟩
  rw [if_neg h2] at h ⊢
  by_cases h3 : b = 47
  · rw [if_pos h3] at h ⊢; cases h; exact ⟨by simp [pend], fun _ => rfl⟩
  rw [if_neg h3] at h ⊢
  by_cases h0 : cl b = 0
  · rw [if_pos h0] at h; cases h
  rw [if_neg h0] at h ⊢
  by_cases hl : ts.length = M
  · rw [if_pos hl] at h; cases h
  rw [if_neg hl] at h
  have hm := opening_more h
  exact ⟨by omega, fun hle => by rw [if_neg (by omega)]; exact h⟩
theorem step_less {M M' : Nat} {ts ts' : List Tok} {n : Nat} {b : UInt8} {m m' : Mode} (h : step M ts n b m = .go ts' m') :
    ts.length + pend m ≤ ts'.length + pend m' ∧ (ts'.length + pend m' ≤ M' → step M' ts n b m = .go ts' m') := by
  cases m with
  | btw => exact start_less h
  | line => simp only [step] at h ⊢; split at h <;> cases h <;> simp_all [pend]
  | slash f =>
    simp only [step] at h ⊢
    by_cases h1 : b = 42
    · rw [if_pos h1] at h ⊢; cases h; exact ⟨by simp [pend], fun _ => rfl⟩
    rw [if_neg h1] at h ⊢
    by_cases hl : ts.length = M
    · rw [if_pos hl] at h; cases h
    rw [if_neg hl] at h
    by_cases h5 : cl b = 5
    · rw [if_pos h5] at h ⊢; cases h
      exact ⟨by simp [pend], fun hle => by rw [if_neg (by simp [pend] at hle; omega)]⟩
    rw [if_neg h5] at h ⊢
    obtain ⟨k1, k2⟩ := start_less (M' := M') h
    rw [List.length_append, List.length_singleton] at k1
    exact ⟨by show ts.length + 0 ≤ _; omega, fun hle => by rw [if_neg (by omega)]; exact k2 hle⟩
  | dot f =>
    simp only [step] at h ⊢
    by_cases h5 : cl b = 5
    · rw [if_pos h5] at h ⊢; cases h; exact ⟨Nat.le_refl _, fun _ => rfl⟩
    rw [if_neg h5] at h ⊢
    obtain ⟨k1, k2⟩ := start_less (M' := M') h
    rw [List.length_append, List.length_singleton] at k1
    exact ⟨k1, k2⟩
  | rem f => simp only [step] at h ⊢; split at h <;> cases h <;> simp_all [pend]
  | star f =>
    simp only [step] at h ⊢
    split at h
    · cases h; simp_all [pend]
    · split at h <;> cases h <;> simp_all [pend]
  | word c f acc =>
    simp only [step] at h ⊢
    by_cases h5 : joinB c (cl b) = true
    · rw [if_pos h5] at h ⊢; cases h; exact ⟨Nat.le_refl _, fun _ => rfl⟩
    rw [if_neg h5] at h ⊢
    obtain ⟨k1, k2⟩ := start_less (M' := M') h
    rw [List.length_append, List.length_singleton] at k1
    exact ⟨k1, k2⟩
  | quo f acc =>
    simp only [step] at h ⊢
    split at h
    · cases h; simp_all [pend]
    · split at h
      · cases h; simp_all [pend]
      · split at h <;> cases h; simp_all [pend]
  | quoq f acc =>
    simp only [step] at h ⊢
    by_cases h5 : b = 39
    · rw [if_pos h5] at h ⊢; cases h; exact ⟨Nat.le_refl _, fun _ => rfl⟩
    rw [if_neg h5] at h ⊢
    obtain ⟨k1, k2⟩ := start_less (M' := M') h
    rw [List.length_append, List.length_singleton] at k1
    exact ⟨k1, k2⟩
  | esc f acc =>
    simp only [step] at h ⊢
    split at h
    · cases h; simp_all [pend]
    · split at h
      · cases h; simp_all [pend]
      · split at h <;> cases h; simp_all [pend]
theorem fin_less {M M' : Nat} {ts out : List Tok} {n : Nat} {m : Mode} (h : fin M ts n m = .ok out) : ts.length + pend m ≤ out.length ∧ (out.length ≤ M' → fin M' ts n m = .ok out) := by
  cases m <;> simp only [fin] at h ⊢
  case slash f =>
    split at h
    · cases h
    · cases h
      exact ⟨by simp [pend], fun hle => by rw [if_neg (by simp at hle; omega)]⟩
  all_goals first | (cases h; done) | (cases h; simp [pend])
theorem ans_less {M M' : Nat} {out : List Tok} : ∀ (l : List UInt8) (ts : List Tok) (n : Nat) (m : Mode), ans M l ts n m = .ok out → ts.length + pend m ≤ out.length ∧ (out.length ≤ M' → ans M' l ts n m = .ok out) := by
  intro l
  induction l with
  | nil => intro ts n m h; exact fin_less h
  | cons b l ih =>
    intro ts n m h
    rw [ans_cons] at h ⊢
    cases hs : step M ts n b m with
    | bad p e => rw [hs] at h; cases h
    | go ts' m' =>
      rw [hs] at h
      obtain ⟨k1, k2⟩ := ih ts' (n + 1) m' h
      obtain ⟨s1, s2⟩ := step_less (M' := M') hs
      exact ⟨by omega, fun hle => by rw [s2 (by omega)]; exact k2 hle⟩

theorem run_shift {T : List Tok} {d M : Nat} (h : Ahead T d) (hM : T.length ≤ M) : ∀ (l : List UInt8) (ts : List Tok) (n : Nat) (m : Mode), At n m → ∀ ts' m', run (M - T.length) l ts n m = .go ts' m' →
    run M l (T ++ ts.map (shT d)) (n + d) (shM d m) = .go (T ++ ts'.map (shT d)) (shM d m') := by
  intro l
  induction l with
  | nil => intro ts n m _ ts' m' hr; cases hr; rfl
  | cons b l ih =>
    intro ts n m hm ts' m' hr
    rw [run] at hr ⊢
    rw [step_shift h hM ts n b m hm]
    cases hs : step (M - T.length) ts n b m with
    | go ts1 m1 =>
      rw [hs] at hr
      simp only [shR]
      rw [show n + d + 1 = n + 1 + d from by omega]
      exact ih ts1 (n + 1) m1 (by cases m1 <;> simp [At]) ts' m' hr
    | bad p e => rw [hs] at hr; cases hr
theorem run_more {M : Nat} : ∀ (l : List UInt8) (ts : List Tok) (n : Nat) (m : Mode) (ts' : List Tok) (m' : Mode), run M l ts n m = .go ts' m' → ts.length + pend m ≤ ts'.length + pend m' := by
  intro l
  induction l with
  | nil => intro ts n m ts' m' hr; cases hr; exact Nat.le_refl _
  | cons b l ih =>
    intro ts n m ts' m' hr
    rw [run] at hr
    cases hs : step M ts n b m with
    | go ts1 m1 => rw [hs] at hr; exact Nat.le_trans (step_less (M' := M) hs).1 (ih _ _ _ _ _ hr)
    | bad p e => rw [hs] at hr; cases hr
theorem run_less {M M' : Nat} : ∀ (l : List UInt8) (ts : List Tok) (n : Nat) (m : Mode) (ts' : List Tok) (m' : Mode), run M l ts n m = .go ts' m' → ts'.length + pend m' ≤ M' → run M' l ts n m = .go ts' m' := by
  intro l
  induction l with
  | nil => intro ts n m ts' m' hr _; exact hr
  | cons b l ih =>
    intro ts n m ts' m' hr hle
    rw [run] at hr ⊢
    cases hs : step M ts n b m with
    | go ts1 m1 =>
      rw [hs] at hr
      rw [(step_less (M' := M') hs).2 (Nat.le_trans (run_more _ _ _ _ _ _ hr) hle)]
      exact ih _ _ _ _ _ hr hle
    | bad p e => rw [hs] at hr; cases hr
end Go.Proofs.Ytjccohcigopdfaa.lx
end
section
/- Plain arithmetic of 64-bit integers, for the layer num: no program in sight. -/
namespace Go.Proofs.Ytjccohcigopdfaa.nm
open Go.RowKit

/-- it fits 64 bits -/
def Fit (n : Int) : Prop := -9223372036854775808 ≤ n ∧ n ≤ 9223372036854775807
instance (n : Int) : Decidable (Fit n) := by unfold Fit; infer_instance

theorem fit_wf {n : Int} (h : (Lit.int .i64 n).wf = true) : Fit n := by
  simpa [Lit.wf, IntKind.min, IntKind.max, IntKind.signed, IntKind.bits, Fit] using h

/-- a result, or 0 beyond 64 bits; its error -/
def val (n : Int) : Int := if Fit n then n else 0
def err (n : Int) : Int := if Fit n then 0 else 10

theorem val_fit (n : Int) : Fit (val n) := by
  unfold val; split
  · assumption
  · unfold Fit; omega
theorem val_of {n : Int} (h : Fit n) : val n = n := if_pos h
theorem err_of {n : Int} (h : Fit n) : err n = 0 := if_pos h
theorem val_no {n : Int} (h : ¬ Fit n) : val n = 0 := if_neg h
theorem err_no {n : Int} (h : ¬ Fit n) : err n = 10 := if_neg h
theorem err_cases (n : Int) : err n = 0 ∧ val n = n ∧ Fit n ∨ err n = 10 ∧ val n = 0 ∧ ¬ Fit n := by
  by_cases h : Fit n
  · exact .inl ⟨err_of h, val_of h, h⟩
  · exact .inr ⟨err_no h, val_no h, h⟩

theorem wrap_fit {n : Int} (h : Fit n) : wrap64 n = n := by unfold wrap64; unfold Fit at h; omega
theorem wrap_is_fit (n : Int) : Fit (wrap64 n) := by unfold wrap64 Fit; omega
theorem wrap_mod (n : Int) : ∃ k : Int, wrap64 n = n + 18446744073709551616 * k := by
  unfold wrap64; exact ⟨-((n + 9223372036854775808) / 18446744073709551616), by omega⟩
theorem least_fit : Fit (-9223372036854775808) := by unfold Fit; omega
theorem small_fit {n : Int} (h : -1000000 ≤ n ∧ n ≤ 1000000) : Fit n := by unfold Fit; omega

/-! ### dividing -/
theorem tdiv_abs_le (a b : Int) (hb : b ≠ 0) (hb1 : b ≠ -1) (ha : Fit a) : Fit (a.tdiv b) := by
  have h := Int.natAbs_tdiv a b
  by_cases h1 : b = 1
  · subst h1; rw [Int.tdiv_one]; exact ha
  · have h2 : a.natAbs.div b.natAbs ≤ a.natAbs / 2 := Nat.div_le_div_left (by omega) (by omega)
    unfold Fit at *; omega
theorem tdiv_neg_one (a : Int) : a.tdiv (-1) = -a := by
  rw [Int.tdiv_neg, Int.tdiv_one]
theorem tdiv_fit {a b : Int} (ha : Fit a) (hb : b ≠ 0) (h : ¬ (a = -9223372036854775808 ∧ b = -1)) : Fit (a.tdiv b) := by
  by_cases h1 : b = -1
  · subst h1; rw [tdiv_neg_one]; unfold Fit at *; omega
  · exact tdiv_abs_le a b hb h1 ha
theorem tdiv_least : ¬ Fit ((-9223372036854775808 : Int).tdiv (-1)) := by rw [tdiv_neg_one]; unfold Fit; omega
theorem natAbs_tmod_lt (a b : Int) (hb : b ≠ 0) : (a.tmod b).natAbs < b.natAbs := by
  rw [Int.natAbs_tmod]; exact Nat.mod_lt _ (by omega)
theorem tmod_fit {a b : Int} (ha : Fit a) : Fit (a.tmod b) := by
  have h := Int.natAbs_tmod a b
  have h2 : a.natAbs % b.natAbs ≤ a.natAbs := Nat.mod_le _ _
  have h3 : 0 ≤ a → 0 ≤ a.tmod b := fun h => Int.tmod_nonneg b h
  have h4 : a ≤ 0 → a.tmod b ≤ 0 := fun h => by
    have := Int.tmod_nonneg (a := -a) b (by omega)
    rw [Int.neg_tmod] at this; omega
  unfold Fit at *; omega

/-- whether the cut-off quotient lies above the true one -/
def lean (r b : Int) : Bool := decide (r ≠ 0) && (decide (r < 0) != decide (b < 0))
theorem tmod_sign (a b : Int) : (0 ≤ a → 0 ≤ a.tmod b) ∧ (a ≤ 0 → a.tmod b ≤ 0) := by
  refine ⟨fun h => Int.tmod_nonneg b h, fun h => ?_⟩
  have := Int.tmod_nonneg (a := -a) b (by omega)
  rw [Int.neg_tmod] at this; omega
theorem fdiv_is (a b : Int) (hb : b ≠ 0) : a.fdiv b = if lean (a.tmod b) b then a.tdiv b - 1 else a.tdiv b := by
  rw [Int.fdiv_eq_tdiv]
  have hs := tmod_sign a b
  have hd : b ∣ a ↔ a.tmod b = 0 := Int.dvd_iff_tmod_eq_zero
  unfold lean
  by_cases h0 : a.tmod b = 0
  · simp [h0, hd]
  · have hd' : ¬ b ∣ a := by rw [hd]; exact h0
    have ha0 : a ≠ 0 := by intro h; subst h; simp at h0
    rw [if_neg hd']
    rcases Int.lt_or_gt_of_ne hb with h1 | h1
    · have hsg : b.sign = -1 := Int.sign_eq_neg_one_of_neg h1
      by_cases h2 : 0 ≤ a
      · have := hs.1 h2; simp [h2, h0, h1, show ¬ (0 ≤ b) from by omega, show ¬ a.tmod b < 0 from by omega]
      · have := hs.2 (by omega); simp [h2, h0, h1, show ¬ (0 ≤ b) from by omega, show a.tmod b < 0 from by omega, hsg]
    · have hsg : b.sign = 1 := Int.sign_eq_one_of_pos h1
      by_cases h2 : 0 ≤ a
      · have := hs.1 h2; simp [h2, h0, show ¬ b < 0 from by omega, show 0 ≤ b from by omega, show ¬ a.tmod b < 0 from by omega]
      · have := hs.2 (by omega); simp [h2, h0, show ¬ b < 0 from by omega, show 0 ≤ b from by omega, show a.tmod b < 0 from by omega, hsg]
theorem fmod_is (a b : Int) (hb : b ≠ 0) : a.fmod b = if lean (a.tmod b) b then a.tmod b + b else a.tmod b := by
  have h1 := Int.mul_fdiv_add_fmod a b
  have h2 := Int.mul_tdiv_add_tmod a b
  have h3 := fdiv_is a b hb
  split at h3 <;> rename_i hl
  · rw [if_pos hl]; rw [h3, Int.mul_sub] at h1; omega
  · rw [if_neg hl]; rw [h3] at h1; omega
theorem lean_bd (a b : Int) (hb : b ≠ 0) (h : lean (a.tmod b) b = true) : a.tmod b ≠ 0 ∧ (a.tmod b < 0 ∧ 0 < b ∨ 0 < a.tmod b ∧ b < 0) := by
  unfold lean at h
  simp at h
  refine ⟨h.1, ?_⟩
  have h2 := h.2
  by_cases c1 : a.tmod b < 0 <;> by_cases c2 : b < 0 <;> simp [c1, c2] at h2 <;> omega
theorem fdiv_fit {a b : Int} (ha : Fit a) (hb : b ≠ 0) (h : ¬ (a = -9223372036854775808 ∧ b = -1)) : Fit (a.fdiv b) := by
  rw [fdiv_is a b hb]
  have hq := tdiv_fit ha hb h
  split
  · rename_i hl
    have h3 := lean_bd a b hb hl
    by_cases h1 : b = 1
    · subst h1; simp at h3
    · by_cases h2 : b = -1
      · subst h2; simp at h3
      · have h4 := Int.natAbs_tdiv a b
        have h5 : a.natAbs.div b.natAbs ≤ a.natAbs / 2 := Nat.div_le_div_left (by omega) (by omega)
        unfold Fit at *; omega
  · exact hq
theorem fmod_fit {a b : Int} (ha : Fit a) (hbf : Fit b) (hb : b ≠ 0) : Fit (a.fmod b) := by
  rw [fmod_is a b hb]
  have hq := tmod_fit (b := b) ha
  split
  · rename_i hl; have h3 := lean_bd a b hb hl; unfold Fit at *; omega
  · exact hq
theorem fdiv_least : ¬ Fit ((-9223372036854775808 : Int).fdiv (-1)) := by
  have : (-9223372036854775808 : Int).fdiv (-1) = 9223372036854775808 := by decide
  rw [this]; unfold Fit; omega

/-- what the four come to, and their errors -/
def quoV (a b : Int) : Int := if b = 0 then 0 else val (a.tdiv b)
def quoE (a b : Int) : Int := if b = 0 then 11 else err (a.tdiv b)
def remV (a b : Int) : Int := if b = 0 then 0 else a.tmod b
def remE (b : Int) : Int := if b = 0 then 11 else 0
def divV (a b : Int) : Int := if b = 0 then 0 else val (a.fdiv b)
def divE (a b : Int) : Int := if b = 0 then 11 else err (a.fdiv b)
def modV (a b : Int) : Int := if b = 0 then 0 else a.fmod b

/-! ### a product, divided back -/
theorem mul_back {a b : Int} (ha : Fit a) (hb : Fit b) (hb0 : b ≠ 0) (h : ¬ (a = -9223372036854775808 ∧ b = -1)) (hf : ¬ Fit (a * b)) :
    wrap64 ((wrap64 (a * b)).tdiv b) ≠ a := by
  have hb1 : b ≠ -1 := by
    intro h1; subst h1; apply hf
    unfold Fit at *; omega
  rw [wrap_fit (tdiv_abs_le _ _ hb0 hb1 (wrap_is_fit _))]
  intro h2
  have h3 := Int.mul_tdiv_add_tmod (wrap64 (a * b)) b
  rw [h2] at h3
  obtain ⟨k, hk⟩ := wrap_mod (a * b)
  have h4 := natAbs_tmod_lt (wrap64 (a * b)) b hb0
  have h5 : (wrap64 (a * b)).tmod b = 18446744073709551616 * k := by
    have : b * a = a * b := Int.mul_comm _ _
    omega
  have h6 : k = 0 := by rw [h5] at h4; unfold Fit at hb; omega
  subst h6
  apply hf
  have := wrap_is_fit (a * b)
  rw [hk] at this
  simpa using this
theorem mul_least : ¬ Fit ((-9223372036854775808 : Int) * (-1)) := by unfold Fit; omega

end Go.Proofs.Ytjccohcigopdfaa.nm
end
section
/- Decimal digits as bytes: plain lemmas, no program in sight. -/
namespace Go.Proofs.Ytjccohcigopdfaa.tx
open Go.RowKit Go.Proofs.Ytjccohcigopdfaa.nm

/-- the byte of a digit -/
def dig (n : Nat) : UInt8 := UInt8.ofNat (48 + n % 10)
theorem dig_nat (n : Nat) : (dig n).toNat = 48 + n % 10 := by
  unfold dig; rw [UInt8.toNat_ofNat_of_lt' (by show 48 + n % 10 < 256; omega)]

/-- a number's decimal digits, the highest first, ahead of r -/
def decTo (n : Nat) (r : List UInt8) : List UInt8 := if h : n < 10 then dig n :: r else decTo (n / 10) (dig n :: r)
termination_by n
decreasing_by omega
def dec (n : Nat) : List UInt8 := decTo n []
theorem decTo_lt {n : Nat} (h : n < 10) (r : List UInt8) : decTo n r = dig n :: r := by rw [decTo, dif_pos h]
theorem decTo_ge {n : Nat} (h : ¬ n < 10) (r : List UInt8) : decTo n r = decTo (n / 10) (dig n :: r) := by rw [decTo, dif_neg h]
theorem decTo_append (n : Nat) (r : List UInt8) : decTo n r = dec n ++ r := by
  unfold dec
  induction n using Nat.strongRecOn generalizing r with
  | ind n ih =>
    by_cases h : n < 10
    · rw [decTo_lt h, decTo_lt h]; rfl
    · rw [decTo_ge h, decTo_ge h, ih _ (by omega), ih _ (by omega) [dig n]]; simp

/-- what a list of digits comes to, from a number on -/
def valF (l : List UInt8) (n : Nat) : Nat := l.foldl (fun n c => 10 * n + (c.toNat - 48)) n
theorem valF_nil (n : Nat) : valF [] n = n := by unfold valF; rw [List.foldl_nil]
theorem valF_cons (c : UInt8) (l : List UInt8) (n : Nat) : valF (c :: l) n = valF l (10 * n + (c.toNat - 48)) := by unfold valF; rw [List.foldl_cons]
theorem valF_append (a b : List UInt8) (n : Nat) : valF (a ++ b) n = valF b (valF a n) := by unfold valF; rw [List.foldl_append]
theorem valF_mono (l : List UInt8) : ∀ n, n ≤ valF l n := by
  induction l with
  | nil => intro n; exact Nat.le_refl _
  | cons c l ih => intro n; rw [valF_cons]; have := ih (10 * n + (c.toNat - 48)); omega
/-- digits alone -/
def Digs (l : List UInt8) : Prop := ∀ c ∈ l, 48 ≤ c.toNat ∧ c.toNat ≤ 57
theorem digs_decTo (n : Nat) (r : List UInt8) (h : Digs r) : Digs (decTo n r) := by
  induction n using Nat.strongRecOn generalizing r with
  | ind n ih =>
    have hd : Digs (dig n :: r) := fun c hc => by
      rcases List.mem_cons.1 hc with rfl | hc
      · rw [dig_nat]; omega
      · exact h c hc
    by_cases h1 : n < 10
    · rw [decTo_lt h1]; exact hd
    · rw [decTo_ge h1]; exact ih _ (by omega) _ hd
theorem digs_dec (n : Nat) : Digs (dec n) := digs_decTo n [] (fun _ h => nomatch h)
theorem val_decTo (n : Nat) (r : List UInt8) : valF (decTo n r) 0 = valF r n := by
  induction n using Nat.strongRecOn generalizing r with
  | ind n ih =>
    by_cases h1 : n < 10
    · rw [decTo_lt h1, valF_cons, dig_nat, show 10 * 0 + (48 + n % 10 - 48) = n from by omega]
    · rw [decTo_ge h1, ih _ (by omega), valF_cons, dig_nat, show 10 * (n / 10) + (48 + n % 10 - 48) = n from by omega]
theorem val_dec (n : Nat) : valF (dec n) 0 = n := val_decTo n []
theorem dec_ne (n : Nat) : dec n ≠ [] := by
  unfold dec
  have : ∀ n r, (decTo n r).length ≥ 1 + r.length := by
    intro n
    induction n using Nat.strongRecOn with
    | ind n ih =>
      intro r
      by_cases h1 : n < 10
      · rw [decTo_lt h1]; simp; omega
      · rw [decTo_ge h1]; have := ih _ (show n / 10 < n by omega) (dig n :: r); simp at this; omega
  intro h; have := this n []; rw [h] at this; simp at this
theorem dec_len_lt {n k : Nat} (h : n < 10 ^ k) (hk : 0 < k) : (dec n).length ≤ k := by
  have : ∀ k n r, 0 < k → n < 10 ^ k → (decTo n r).length ≤ k + r.length := by
    intro k
    induction k with
    | zero => intro n r h; omega
    | succ k ih =>
      intro n r _ h
      by_cases h1 : n < 10
      · rw [decTo_lt h1]; simp; omega
      · rw [decTo_ge h1]
        have hk : 0 < k := by
          rcases Nat.eq_zero_or_pos k with rfl | hk
          · simp at h; omega
          · exact hk
        have := ih (n / 10) (dig n :: r) hk (by rw [Nat.pow_succ] at h; omega)
        simp at this; omega
  have := this k n [] hk h; simpa [dec] using this

/-- the text of an integer -/
def text (a : Int) : List UInt8 := if a < 0 then 45 :: dec a.natAbs else dec a.natAbs
theorem text_neg {a : Int} (h : a < 0) : text a = 45 :: dec a.natAbs := if_pos h
theorem text_pos {a : Int} (h : ¬ a < 0) : text a = dec a.natAbs := if_neg h
theorem dec_head {n : Nat} {c : UInt8} {l : List UInt8} (h : dec n = c :: l) : c ≠ 45 := by
  have := digs_dec n c (by rw [h]; exact List.mem_cons_self ..)
  intro e; subst e; simp at this
theorem text_inj {a b : Int} (h : text a = text b) : a = b := by
  by_cases ha : a < 0 <;> by_cases hb : b < 0
  · rw [text_neg ha, text_neg hb] at h
    have h2 := (List.cons.inj h).2
    have := val_dec a.natAbs; rw [h2, val_dec] at this; omega
  · rw [text_neg ha, text_pos hb] at h
    exact absurd rfl (dec_head h.symm)
  · rw [text_pos ha, text_neg hb] at h
    exact absurd rfl (dec_head h)
  · rw [text_pos ha, text_pos hb] at h
    have := val_dec a.natAbs; rw [h, val_dec] at this; omega
theorem text_len {a : Int} (h : Fit a) : (text a).length ≤ 20 ∧ 1 ≤ (text a).length := by
  have h1 : (dec a.natAbs).length ≤ 19 := dec_len_lt (by unfold Fit at h; omega) (by omega)
  have h2 : 1 ≤ (dec a.natAbs).length := by
    have := dec_ne a.natAbs
    rcases hd : dec a.natAbs with _ | ⟨c, l⟩
    · exact absurd hd this
    · simp
  by_cases c : a < 0
  · rw [text_neg c]; simp; omega
  · rw [text_pos c]; omega

open Classical in
/-- the number whose text this is, or 0; the error -/
noncomputable def parseV (s : List UInt8) : Int := if h : ∃ a, Fit a ∧ text a = s then Classical.choose h else 0
open Classical in
noncomputable def parseE (s : List UInt8) : Int := if ∃ a, Fit a ∧ text a = s then 0 else 12
theorem parse_yes {s : List UInt8} {a : Int} (h : Fit a) (ht : text a = s) : parseV s = a ∧ parseE s = 0 := by
  have he : ∃ a, Fit a ∧ text a = s := ⟨a, h, ht⟩
  unfold parseV parseE
  rw [dif_pos he, if_pos he]
  exact ⟨text_inj ((Classical.choose_spec he).2.trans ht.symm), rfl⟩
theorem parse_no {s : List UInt8} (h : ∀ a, Fit a → text a ≠ s) : parseV s = 0 ∧ parseE s = 12 := by
  have he : ¬ ∃ a, Fit a ∧ text a = s := fun ⟨a, h1, h2⟩ => h a h1 h2
  unfold parseV parseE
  rw [dif_neg he, if_neg he]
  exact ⟨rfl, rfl⟩

end Go.Proofs.Ytjccohcigopdfaa.tx
end
section
/- A row of tokens as terms: the document's answer, as functions of lists: no program in sight. -/
namespace Go.Proofs.Ytjccohcigopdfaa.rd
open Go.Proofs.Ytjccohcigopdfaa.op (progI progP)
open Go.Proofs.Ytjccohcigopdfaa.tx (parseV parseE)
open Go.Proofs.Ytjccohcigopdfaa.lx (Tok)

/-- a term: of no parts, its kind, number and name; or of parts -/
inductive T where
  | leaf (k : Nat) (n : Int) (s : List UInt8)
  | cmp (s : List UInt8) (l : List T)

/-- what the reader looks at: a token's kind and text; does the next one begin right behind an atom -/
structure K where
  kind : Nat
  text : List UInt8
  near : Bool
deriving DecidableEq
def K0 : K := ⟨0, [], false⟩
/-- the token that comes -/
def nx (l : List K) : K := l.headD K0
def nearB (a b : Tok) : Bool := a.kind == 1 && b.frm == a.to
/-- tokens as the reader looks at them -/
def ab : List Tok → List K
  | [] => []
  | [a] => [⟨a.kind, a.text, false⟩]
  | a :: b :: l => ⟨a.kind, a.text, nearB a b⟩ :: ab (b :: l)

abbrev St := List K × List (List UInt8)
abbrev Res (α : Type) := Except Nat (α × St)
/-- a term of at most some priority, within some others -/
abbrev W := Int → St → Res T

def isM (k : K) (m : List UInt8) : Bool := k.kind == 5 && k.text == m
def infixK (k : K) : Int × Int × Int × Bool := if k.kind = 1 ∨ isM k [44] = true then progI k.text else (0, 0, 0, false)
def mayB (k : K) : Bool :=
  if k.kind = 2 ∨ k.kind = 3 then true
  else if k.kind = 5 then k.text == [40] || k.text == [91] || k.text == [123]
  else if k.kind = 1 then (progP k.text).2.2 || !(progI k.text).2.2.2
  else false
def expectP (m : List UInt8) (s : St) : Except Nat St := if isM (nx s.1) m = true then .ok (s.1.tail, s.2) else .error 50
def varP (s : St) : T × St :=
  let name := (nx s.1).text
  let i := s.2.idxOf name
  if i = s.2.length ∨ name = [95] then (.leaf 1 (s.2.length : Nat) [], (s.1.tail, s.2 ++ [name])) else (.leaf 1 (i : Nat) [], (s.1.tail, s.2))
def trim (l : List UInt8) : List UInt8 := l.dropWhile (· == 48)
noncomputable def intP (sign : List UInt8) (s : St) : Res T :=
  let d := trim (nx s.1).text
  if d = [] then .ok (.leaf 2 0 [], (s.1.tail, s.2))
  else if parseE (sign ++ d) = 0 then .ok (.leaf 2 (parseV (sign ++ d)) [], (s.1.tail, s.2)) else .error 51
def rowGo (w : W) : Nat → List T → St → Res (List T)
  | 0, l, s => .ok (l, s)
  | f + 1, l, s => if isM (nx s.1) [44] = true then
      match w 999 (s.1.tail, s.2) with
      | .error e => .error e
      | .ok (t, s') => rowGo w f (l ++ [t]) s'
    else .ok (l, s)
def rowP (w : W) (s : St) : Res (List T) :=
  match w 999 s with
  | .error e => .error e
  | .ok (t, s') => rowGo w s'.1.length [t] s'
def bracketP (w : W) (m : List UInt8) (s : St) : Res T :=
  match w 1200 s with
  | .error e => .error e
  | .ok (t, s') => match expectP m s' with
    | .error e => .error e
    | .ok s'' => .ok (t, s'')
def consAll (l : List T) (r : T) : T := l.foldr (fun t r => .cmp [46] [t, r]) r
def nilT : T := .leaf 3 0 [91, 93]
def listP (w : W) (s : St) : Res T :=
  if isM (nx s.1) [93] = true then .ok (nilT, (s.1.tail, s.2)) else
  match rowP w s with
  | .error e => .error e
  | .ok (l, s1) =>
    match (if isM (nx s1.1) [124] = true then w 999 (s1.1.tail, s1.2) else .ok (nilT, s1) : Res T) with
    | .error e => .error e
    | .ok (r, s2) => match expectP [93] s2 with
      | .error e => .error e
      | .ok s3 => .ok (consAll l r, s3)
def markedP (w : W) (s : St) : Res T :=
  if isM (nx s.1) [40] = true then bracketP w [41] (s.1.tail, s.2)
  else if isM (nx s.1) [91] = true then listP w (s.1.tail, s.2)
  else if isM (nx s.1) [123] = true then
    if isM (nx s.1.tail) [125] = true then .ok (.leaf 3 0 [123, 125], (s.1.tail.tail, s.2))
    else match bracketP w [125] (s.1.tail, s.2) with
      | .error e => .error e
      | .ok (t, s') => .ok (.cmp [123, 125] [t], s')
  else .error 50
def zeroP (r : Res T) : Res (T × Int) := match r with | .error e => .error e | .ok (t, s) => .ok ((t, 0), s)
noncomputable def namedP (w : W) (most : Int) (s : St) : Res (T × Int) :=
  let k := nx s.1
  let s1 : St := (s.1.tail, s.2)
  let b := nx s1.1
  if b.kind = 4 then
    match rowP w (s1.1.tail, s1.2) with
    | .error e => .error e
    | .ok (l, s2) => match expectP [41] s2 with
      | .error e => .error e
      | .ok s3 => .ok ((.cmp k.text l, 0), s3)
  else if k.text = [45] ∧ b.kind = 3 ∧ k.near = true then zeroP (intP [45] s1)
  else if (progP k.text).2.2 = true ∧ (progP k.text).1 ≤ most ∧ mayB b = true then
    match w (progP k.text).2.1 s1 with
    | .error e => .error e
    | .ok (t, s2) => .ok ((.cmp k.text [t], (progP k.text).1), s2)
  else .ok ((.leaf 3 0 k.text, 0), s1)
noncomputable def operandP (w : W) (most : Int) (s : St) : Res (T × Int) :=
  let k := nx s.1
  if k.kind = 1 then namedP w most s
  else if k.kind = 2 then .ok (((varP s).1, 0), (varP s).2)
  else if k.kind = 3 then zeroP (intP [] s)
  else if k.kind = 4 then zeroP (bracketP w [41] (s.1.tail, s.2))
  else zeroP (markedP w s)
def loopP (w : W) (most : Int) : Nat → T → Int → St → Res T
  | 0, t, _, s => .ok (t, s)
  | f + 1, t, prio, s =>
    let k := nx s.1
    let q := infixK k
    if q.2.2.2 = false ∨ most < q.1 ∨ q.2.1 < prio then .ok (t, s)
    else match w q.2.2.1 (s.1.tail, s.2) with
      | .error e => .error e
      | .ok (u, s') => loopP w most f (.cmp k.text [t, u]) q.1 s'
/-- a term that may stand within d others less one; none: nested too deeply -/
noncomputable def termP : Nat → W
  | 0 => fun _ _ => .error 52
  | d + 1 => fun most s => match operandP (termP d) most s with
    | .error e => .error e
    | .ok ((t, prio), s') => loopP (termP d) most s'.1.length t prio s'
/-- one sentence: its term, and its variables' names -/
noncomputable def sentP (l : List K) : Except Nat ((T × List (List UInt8)) × List K) :=
  match termP 65 1200 (l, []) with
  | .error e => .error e
  | .ok (t, s) => if (nx s.1).kind = 6 then .ok ((t, s.2), s.1.tail) else .error 50
noncomputable def sentsP : Nat → List K → Except Nat (List (T × List (List UInt8)))
  | 0, _ => .ok []
  | f + 1, l => if l = [] then .ok [] else match sentP l with
    | .error e => .error e
    | .ok (t, r) => match sentsP f r with
      | .error e => .error e
      | .ok ts => .ok (t :: ts)
open Go.Proofs.Ytjccohcigopdfaa.lx (toks Out)
/-- a text's sentences, or its error -/
noncomputable def readP (o : Out) : Except Nat (List (T × List (List UInt8))) := match o with
  | .bad _ e => .error e
  | .ok ts => sentsP ts.length (ab ts)
end Go.Proofs.Ytjccohcigopdfaa.rd
end
section
/- The bytes' classes: lex's class, joins; the reference's small, great, digit, named, blank, sign, mark. -/
namespace Go.Proofs.Ytjccohcigopdfaa.lx
open Go.RowKit

theorem ret_i {k : IntKind} {a b : Int} (h : a = b) : Ending.returned (.int k a) = .returned (.int k b) := by rw [h]
theorem ret_b {a b : Bool} (h : a = b) : Ending.returned (.bool a) = .returned (.bool b) := by rw [h]
theorem nat_beq {c k : Nat} (h : ((c : Int) == (k : Int)) = true) : c = k := by have := eq_of_beq h; omega
/-- all bytes at once -/
theorem all_bytes {P : Nat → Bool} (h : (List.range 256).all P = true) {c : Nat} (hc : c ≤ 255) : P c = true := by
  rw [List.all_eq_true] at h; exact h c (List.mem_range.2 (by omega))

theorem cls2 {c : Nat} (hc : c ≤ 255) : (cls c == 2) = (decide (97 ≤ c) && decide (c ≤ 122)) := by
  have := all_bytes (P := fun c => (cls c == 2) == (decide (97 ≤ c) && decide (c ≤ 122))) (by decide +kernel) hc
  exact eq_of_beq this
theorem cls3 {c : Nat} (hc : c ≤ 255) : (cls c == 3) = ((decide (65 ≤ c) && decide (c ≤ 90)) || c == 95) := by
  have := all_bytes (P := fun c => (cls c == 3) == ((decide (65 ≤ c) && decide (c ≤ 90)) || c == 95)) (by decide +kernel) hc
  exact eq_of_beq this
theorem cls4 {c : Nat} (hc : c ≤ 255) : (cls c == 4) = (decide (48 ≤ c) && decide (c ≤ 57)) := by
  have := all_bytes (P := fun c => (cls c == 4) == (decide (48 ≤ c) && decide (c ≤ 57))) (by decide +kernel) hc
  exact eq_of_beq this
theorem cls1 {c : Nat} (hc : c ≤ 255) : (cls c == 1) = (c == 32 || c == 9 || c == 10 || c == 13) := by
  have := all_bytes (P := fun c => (cls c == 1) == (c == 32 || c == 9 || c == 10 || c == 13)) (by decide +kernel) hc
  exact eq_of_beq this
theorem cls8 {c : Nat} (hc : c ≤ 255) : (cls c == 8) = (c == 40 || c == 41 || c == 91 || c == 93 || c == 123 || c == 125 || c == 44 || c == 124) := by
  have := all_bytes (P := fun c => (cls c == 8) == (c == 40 || c == 41 || c == 91 || c == 93 || c == 123 || c == 125 || c == 44 || c == 124)) (by decide +kernel) hc
  exact eq_of_beq this

/-- the reference's classes -/
theorem small_c (c : Nat) (hc : c ≤ 255) (w : World) :
    Calls Try.prog 62 #[.int .u8 c] w fun e w' => e = .returned (.bool (cls c == 2)) ∧ w = w' := by
  rw [cls2 hc]
  go_enter Try.func62, Try.ntmps62
  go_wp2
  all_goals
    go_ret
    refine ⟨ret_b ?_, rfl⟩
    rw [Bool.eq_iff_iff]
    simp
    try omega
theorem great_c (c : Nat) (hc : c ≤ 255) (w : World) :
    Calls Try.prog 64 #[.int .u8 c] w fun e w' => e = .returned (.bool (cls c == 3)) ∧ w = w' := by
  rw [cls3 hc]
  go_enter Try.func64, Try.ntmps64
  go_wp2
  all_goals
    go_ret
    refine ⟨ret_b ?_, rfl⟩
    rw [Bool.eq_iff_iff]
    simp
    try omega
theorem digit_c (c : Nat) (hc : c ≤ 255) (w : World) :
    Calls Try.prog 65 #[.int .u8 c] w fun e w' => e = .returned (.bool (cls c == 4)) ∧ w = w' := by
  rw [cls4 hc]
  go_enter Try.func65, Try.ntmps65
  go_wp2
  all_goals
    go_ret
    refine ⟨ret_b ?_, rfl⟩
    rw [Bool.eq_iff_iff]
    simp
    try omega
theorem blank_c (c : Nat) (hc : c ≤ 255) (w : World) :
    Calls Try.prog 61 #[.int .u8 c] w fun e w' => e = .returned (.bool (cls c == 1)) ∧ w = w' := by
  rw [cls1 hc]
  go_enter Try.func61, Try.ntmps61
  go_wp2
  all_goals
    go_ret
    refine ⟨ret_b ?_, rfl⟩
    rw [Bool.eq_iff_iff]
    simp
    try omega
theorem mark_c (c : Nat) (hc : c ≤ 255) (w : World) :
    Calls Try.prog 67 #[.int .u8 c] w fun e w' => e = .returned (.bool (cls c == 8)) ∧ w = w' := by
  rw [cls8 hc]
  go_enter Try.func67, Try.ntmps67
  go_wp2
  all_goals
    go_ret
    refine ⟨ret_b ?_, rfl⟩
    rw [Bool.eq_iff_iff]
    simp
    try omega
/-- a class that a word is made of -/
theorem joinB_name (y : Nat) : joinB 2 y = (y == 2 || y == 3 || y == 4) ∧ joinB 3 y = (y == 2 || y == 3 || y == 4) ∧ joinB 4 y = (y == 4) ∧ joinB 5 y = (y == 5) := ⟨rfl, rfl, rfl, rfl⟩
/-- the reference's name bytes -/
theorem named_c (c : Nat) (hc : c ≤ 255) (w : World) :
    Calls Try.prog 87 #[.int .u8 c] w fun e w' => e = .returned (.bool (joinB 2 (cls c))) ∧ w = w' := by
  rw [(joinB_name _).1]
  have k2 := small_c c hc
  have k3 := great_c c hc
  have k4 := digit_c c hc
  cases h2 : cls c == 2 <;> cases h3 : cls c == 3 <;> (rw [h2] at k2; rw [h3] at k3)
  all_goals
    go_enter Try.func87, Try.ntmps87
    go_wp2_with (first | (go_at_call 62; (with_reducible refine (k2 _).mono ?_); rintro e w' ⟨rfl, rfl⟩) | (go_at_call 64; (with_reducible refine (k3 _).mono ?_); rintro e w' ⟨rfl, rfl⟩) | (go_at_call 65; (with_reducible refine (k4 _).mono ?_); rintro e w' ⟨rfl, rfl⟩))
    go_ret
    exact ⟨ret_b (by simp), rfl⟩

end Go.Proofs.Ytjccohcigopdfaa.lx
end
section
/- The scanner in memory; what only reads it: ends, opens, behindIs. -/
namespace Go.Proofs.Ytjccohcigopdfaa.lx
open Go.RowKit

/-! ### frames -/
/-- all but block c is as it was; new blocks may have come -/
def Kp (c : Nat) (w w' : World) : Prop := w.grownBy w' (some c)
theorem Kp.refl (c : Nat) (w : World) : Kp c w w := World.grownBy.refl _ _
theorem Kp.trans {c : Nat} {w w1 w2 : World} (h : Kp c w w1) (h2 : Kp c w1 w2) : Kp c w w2 :=
  ⟨h2.os.trans h.os, h2.tape.trans h.tape, h2.output.trans h.output, Nat.le_trans h.size h2.size, fun k hk hne => (h2.block k (Nat.lt_of_lt_of_le hk h.size) hne).trans (h.block k hk hne)⟩
theorem Kp.drew {c : Nat} {w w1 : World} (h : Kp c w w1) (k : Nat) : Kp c w (w1.drewN k) := h.trans ⟨rfl, rfl, rfl, Nat.le_refl _, fun _ _ _ => rfl⟩
theorem Kp.drawn (c : Nat) (w : World) (k : Nat) : Kp c w (w.drewN k) := (Kp.refl c w).drew k
theorem Kp.set {c : Nat} {w w1 : World} (h : Kp c w w1) (j : Nat) (v : Value) : Kp c w (w1.setCell ⟨c, j, none⟩ v) :=
  h.trans ⟨rfl, rfl, rfl, by simp [World.setCell], fun k _ hk => Below.heap_setCell _ _ _ _ (fun e => hk (by simp [e]))⟩
theorem Kp.alloc {c : Nat} {w w1 : World} (h : Kp c w w1) (o : Obj) : Kp c w (w1.alloc o) := h.trans (World.grownBy_alloc w1 o _)
theorem Kp.of_below {c : Nat} {w w1 w2 : World} (h : Kp c w w1) (hb : Below w1.heap.size w1 w2) : Kp c w w2 :=
  h.trans ⟨hb.os, hb.tape, hb.output, hb.size, fun k hk _ => hb.block k hk⟩
theorem Kp.below {B c : Nat} {w w1 w2 : World} (h : Kp c w1 w2) (hb : Below B w w1) (hB : B ≤ c) (hs : B ≤ w1.heap.size) : Below B w w2 :=
  hb.grown h hs (fun k hk => by cases hk; exact hB)
/-- a new block's changes are none of the old ones' -/
theorem below_new {b : Nat} {w w1 : World} (hb : Below b w w1) (_hs : b ≤ w.heap.size) {k : Nat} (hk : k < b) : w1.heap[k]? = w.heap[k]? := hb.block k hk

/-! ### tokens in memory -/
def tcell (t : Tok) : List Value := [.int .i64 (t.kind : Nat), .string ⟨t.text.toArray⟩, .int .i64 (t.frm : Nat), .int .i64 (t.to : Nat)]
def tcells (ts : List Tok) : List Value := ts.flatMap tcell
theorem tcells_append (a b : List Tok) : tcells (a ++ b) = tcells a ++ tcells b := by simp [tcells]
theorem tcells_len (ts : List Tok) : (tcells ts).length = ts.length * 4 := by
  induction ts with
  | nil => rfl
  | cons t ts ih => rw [tcells, List.flatMap_cons, List.length_append, List.length_cons]; rw [tcells] at ih; rw [ih]; simp [tcell]; omega
theorem tcells_get (ts : List Tok) (i j : Nat) (hi : i < ts.length) (hj : j < 4) : (tcells ts)[i * 4 + j]? = (tcell ts[i])[j]? := by
  induction ts generalizing i with
  | nil => exact absurd hi (Nat.not_lt_zero _)
  | cons t ts ih =>
    rw [tcells, List.flatMap_cons]
    cases i with
    | zero => rw [List.getElem?_append_left (by simp [tcell]; omega)]; simp
    | succ i =>
      rw [List.getElem?_append_right (by simp [tcell]; omega)]
      rw [show (i + 1) * 4 + j - (tcell t).length = i * 4 + j from by simp [tcell]; omega]
      rw [tcells] at ih
      rw [ih i (by simpa using hi)]; rfl
/-- a slice of the call's own holds these tokens -/
def Tk (B : Nat) (w : World) (v : Value) (ts : List Tok) : Prop := w.ownsRow B 73 4 v ts.length (tcells ts)
theorem Tk.nil (B : Nat) (w : World) : Tk B w (.slice none 0 0) [] := World.ownsRow_nil w B _ 4
theorem Tk.shape {B : Nat} {w : World} {v : Value} {ts : List Tok} (h : Tk B w v ts) : ∃ a cap, v = .slice a ts.length cap := by
  rcases h.2 with ⟨h1, h2⟩ | ⟨g, cap, cur, h1, _⟩
  · exact ⟨none, 0, by rw [h2]; exact h1⟩
  · exact ⟨_, _, h1⟩
theorem Tk.row {B : Nat} {w : World} {v : Value} {ts : List Tok} (h : Tk B w v ts) (h0 : 0 < ts.length) : ∃ g cap, v = .slice (some ⟨g, 0, none⟩) ts.length cap ∧ ts.length ≤ cap ∧ B ≤ g ∧ g < w.heap.size ∧
    ∀ i (hi : i < ts.length), w.cell? ⟨g, i * 4, none⟩ = some (.int .i64 (ts[i].kind : Nat)) ∧ w.cell? ⟨g, i * 4 + 1, none⟩ = some (.string ⟨ts[i].text.toArray⟩) ∧
      w.cell? ⟨g, i * 4 + 2, none⟩ = some (.int .i64 (ts[i].frm : Nat)) ∧ w.cell? ⟨g, i * 4 + 3, none⟩ = some (.int .i64 (ts[i].to : Nat)) := by
  rcases h.2 with ⟨h1, h2⟩ | ⟨g, cap, cur, h1, hB, h3, h4, _⟩
  · omega
  · have hlt := (World.ownsRow.lt h) g (by rw [h1]; rfl)
    refine ⟨g, cap, h1, h4, hB, hlt.2, fun i hi => ?_⟩
    have hg := World.ownsRow.cells h (g := g) (by rw [h1]; rfl)
    have key : ∀ j (u : Value), j < 4 → (tcell ts[i])[j]? = some u → w.cell? ⟨g, i * 4 + j, none⟩ = some u := fun j u hj hu => by
      have e : (⟨g, 0, none⟩ : Addr).add (i * 4 + j) = ⟨g, i * 4 + j, none⟩ := by
        unfold Addr.add
        split
        · rename_i h0; simp at h0; simp
        · simp
      rw [← e]
      exact hg (i * 4 + j) u (by rw [tcells_get ts i j hi hj]; exact hu)
    exact ⟨key 0 _ (by omega) rfl, key 1 _ (by omega) rfl, key 2 _ (by omega) rfl, key 3 _ (by omega) rfl⟩
theorem Tk.mono {B B' : Nat} {w : World} {v : Value} {ts : List Tok} (h : Tk B w v ts) (hB : B' ≤ B) : Tk B' w v ts := by
  refine ⟨h.1, ?_⟩
  rcases h.2 with h1 | ⟨g', cap', cur, h1, h2, h3⟩
  · exact .inl h1
  · exact .inr ⟨g', cap', cur, h1, Nat.le_trans hB h2, h3⟩
theorem Tk.stay {B : Nat} {w w' : World} {v : Value} {ts : List Tok} (h : Tk B w v ts) (hb : Below w.heap.size w w') : Tk B w' v ts :=
  World.ownsRow.kept (row := none) h ⟨hb.os, hb.tape, hb.output, hb.size, fun k hk _ => hb.block k hk⟩ (by cases v.ownBlock <;> simp)
theorem Tk.kp {B c : Nat} {w w' : World} {v : Value} {ts : List Tok} (h : Tk B w v ts) (hk : Kp c w w') (hne : v.ownBlock ≠ some c) : Tk B w' v ts :=
  World.ownsRow.kept h hk (.inr hne)

/-! ### the scanner -/
section
variable {B c n : Nat} {s : ByteArray} {v : Value} {ts : List Tok} {w : World}
theorem cell_at {cs : Array Value} {T : TypeId} {fr : Nat × Nat} (hb : w.heap[c]? = some (.cells cs T fr)) (j : Nat) : w.cell? ⟨c, j, none⟩ = cs[j]? := by
  simp [World.cell?, hb]
end

/-! ### bytes of a string -/
/-- byte k of a text -/
def bA (s : ByteArray) (k : Nat) : UInt8 := s.data.toList.getD k 0
theorem get_bA (s : ByteArray) : ∀ (k : Nat) (h : k < s.size), s[k]'h = bA s k := fun k h => by
  unfold bA
  rw [List.getD_eq_getElem?_getD, List.getElem?_eq_getElem (by simpa using h)]
  rfl
theorem drop_bA {s : ByteArray} {k : Nat} (h : k < s.size) : s.data.toList.drop k = bA s k :: s.data.toList.drop (k + 1) := by
  rw [List.drop_eq_getElem_cons (by simpa using h)]
  congr 1
  exact get_bA s k h
theorem drop_end {s : ByteArray} {k : Nat} (h : s.size ≤ k) : s.data.toList.drop k = [] := List.drop_eq_nil_of_le (by simpa using h)
theorem bA_le (s : ByteArray) (k : Nat) : (bA s k).toNat ≤ 255 := by have := (bA s k).toNat_lt; omega
theorem ieq_yes {a : Nat} (k : Int) (h : (a : Int) = k) : ((a : Int) == k) = true ∧ ((a : Int) != k) = false := by subst h; simp
theorem ieq_no {a : Nat} (k : Int) (h : (a : Int) ≠ k) : ((a : Int) == k) = false ∧ ((a : Int) != k) = true := by simp [h]

/-- a callee that changes nothing, asked in a region that reads, behind another such region -/
theorem still {f : FuncId} {args : Array Value} {w : World} {p q : Nat} {v : Value} (h : ∀ W, Calls Try.prog f args W fun e w' => e = .returned v ∧ W = w') :
    Calls Try.prog f args (w.drewN (p + q)) fun e w'' => e = .returned v ∧ ∃ m, w'' = w.drewN (p + m) := by
  refine (h _).mono ?_
  rintro e w' ⟨rfl, rfl⟩
  exact ⟨rfl, q, rfl⟩
/-- .. in the first one -/
theorem still0 {f : FuncId} {args : Array Value} {w : World} {q : Nat} {v : Value} (h : ∀ W, Calls Try.prog f args W fun e w' => e = .returned v ∧ W = w') :
    Calls Try.prog f args (w.drewN q) fun e w'' => e = .returned v ∧ ∃ m, w'' = w.drewN m := by
  refine (h _).mono ?_
  rintro e w' ⟨rfl, rfl⟩
  exact ⟨rfl, q, rfl⟩
end Go.Proofs.Ytjccohcigopdfaa.lx
end
section
/- The library's string builder as this program has it (its copy check's panic is not run): copyCheck, WriteByte, WriteString; String by the shelf. -/
namespace Go.Proofs.Ytjccohcigopdfaa.lx
open Go.RowKit

theorem u8_info : (Try.prog.info? 5).map (fun i => (i.zero, i.size, i.bytes)) = some (some (.int .u8 0), 1, 1) := by kernel_rfl

section
variable {B b : Nat} {v v' : Value} {l m : List UInt8} {w0 w W w2 : World}
/-- an own slice is a slice -/
theorem owns_slice {n : Nat} {cs : List Value} (h : w.ownsRowF B 5 1 v n cs) : ∃ a k c, v = .slice a k c := by
  rcases h.2 with h1 | ⟨g, c, _, _, h1, _⟩
  · exact ⟨none, 0, 0, h1.1⟩
  · exact ⟨_, _, c, h1⟩
end
theorem byte_new (w : World) (x : UInt8) (j : Nat) (u : Value) (hj : (Lib.byteCells [x])[j]? = some u) : (w.alloc (.cells #[.int .u8 (x.toNat : Nat)] 5)).cell? ((⟨w.heap.size, 0, none⟩ : Addr).add j) = some u := by
  obtain rfl : j = 0 := by
    have := (List.getElem?_eq_some_iff.1 hj).1
    rw [Lib.byteCells_length, List.length_singleton] at this; omega
  exact (cell_at (heap_alloc_new w _) 0).trans hj
theorem byte_one (x : UInt8) : ∀ u ∈ Lib.byteCells [x], u.oneCell' = true := fun u hu => by rw [List.mem_singleton.1 hu]; rfl

end Go.Proofs.Ytjccohcigopdfaa.lx
end
section
/- The scanner's methods that only read: ends, behindIs, opens, kind. -/
namespace Go.Proofs.Ytjccohcigopdfaa.lx
open Go.RowKit

/-- a '.' here ends a sentence -/
def endsB (s : ByteArray) (n : Nat) : Bool := bA s n == 46 && (n + 1 == s.size || bA s (n + 1) == 37 || cl (bA s (n + 1)) == 1)
theorem u8_eq (b : UInt8) (k : Nat) (hk : k < 256) : (b == UInt8.ofNat k) = (b.toNat == k) := by
  rw [Bool.eq_iff_iff, beq_iff_eq, beq_iff_eq]
  constructor
  · intro h; rw [h]; simp; omega
  · intro h; rw [← h]; simp

end Go.Proofs.Ytjccohcigopdfaa.lx
end
section
/- The scanner's opens: whether a '(' opens what stands right ahead of it. -/
namespace Go.Proofs.Ytjccohcigopdfaa.lx
open Go.RowKit

theorem below_drawn (B : Nat) (w : World) (k : Nat) : Below B w (w.drewN k) := ⟨rfl, rfl, rfl, Nat.le_refl _, fun _ _ => rfl⟩
theorem opens_nil (n : Nat) : opens [] n = false := rfl
theorem opens_snoc (l : List Tok) (t : Tok) (n : Nat) : opens (l ++ [t]) n = (t.kind == 1 && t.to == n) := by simp [opens]

/-- the kind of what begins at n, with a byte of the class y -/
def kindS (s : ByteArray) (n : Nat) (ts : List Tok) (y : Nat) : Nat :=
  if y = 3 then 2 else if y = 4 then 3 else if y = 8 then (if (decide (bA s n = 40) && opens ts n) = true then 4 else 5) else if y = 5 then (if endsB s n = true then 6 else 1) else 1

end Go.Proofs.Ytjccohcigopdfaa.lx
end
section
/- The scanner's word: goes past a token without quotes. -/
namespace Go.Proofs.Ytjccohcigopdfaa.lx
open Go.RowKit

/-- what goes on with a word of class y, behind the place n -/
def wordL (s : ByteArray) (n y : Nat) : List UInt8 := (s.data.toList.drop (n + 1)).takeWhile fun b => joinB y (cl b)
theorem wordL_is {s : ByteArray} {n m y : Nat} (hn : n < m) (hm : m ≤ s.size) (h1 : ∀ j, n + 1 ≤ j → j < m → joinB y (cl (bA s j)) = true) (h2 : m < s.size → joinB y (cl (bA s m)) = false) :
    wordL s n y = (s.data.toList.drop (n + 1)).take (m - (n + 1)) ∧ (wordL s n y).length = m - (n + 1) := by
  have e : wordL s n y = (s.data.toList.drop (n + 1)).take (m - (n + 1)) := by
    have hsp := List.take_append_drop (m - (n + 1)) (s.data.toList.drop (n + 1))
    unfold wordL
    conv => lhs; rw [← hsp]
    rw [List.takeWhile_append_of_pos, List.drop_drop, show n + 1 + (m - (n + 1)) = m from by omega]
    · by_cases h : m < s.size
      · rw [drop_bA h, List.takeWhile_cons, if_neg (by rw [h2 h]; decide), List.append_nil]
      · rw [drop_end (k := m) (by omega), List.takeWhile_nil, List.append_nil]
    · intro b hb
      obtain ⟨i, hi, rfl⟩ := List.mem_iff_getElem.1 hb
      have hl := List.length_take_le (m - (n + 1)) (s.data.toList.drop (n + 1))
      rw [List.getElem_take, List.getElem_drop]
      have := h1 (n + 1 + i) (by omega) (by omega)
      unfold bA at this
      rwa [List.getD_eq_getElem?_getD, List.getElem?_eq_getElem (by simp; omega)] at this
  refine ⟨e, ?_⟩
  rw [e, List.length_take, List.length_drop]
  have : s.data.toList.length = s.size := by simp
  omega
theorem wordL_text {s : ByteArray} {n m y : Nat} (hn : n < m) (hm : m ≤ s.size) (h1 : ∀ j, n + 1 ≤ j → j < m → joinB y (cl (bA s j)) = true) (h2 : m < s.size → joinB y (cl (bA s m)) = false) :
    s.extract n m = ⟨(bA s n :: wordL s n y).toArray⟩ := by
  rw [(wordL_is hn hm h1 h2).1, Lib.extract_eq, drop_bA (by omega), show m - n = (m - (n + 1)) + 1 from by omega, List.take_succ_cons]

end Go.Proofs.Ytjccohcigopdfaa.lx
end
section
/- What stands between tokens: the scanner's skipLine, skipRemark. -/
namespace Go.Proofs.Ytjccohcigopdfaa.lx
open Go.RowKit

/-! ### lists -/
/-- how long a line goes on -/
def lineLen (l : List UInt8) : Nat := (l.takeWhile fun b => b != 10).length
theorem lineLen_le (l : List UInt8) : lineLen l ≤ l.length := (List.takeWhile_prefix _).length_le
theorem lineLen_cons (b : UInt8) (l : List UInt8) (h : b ≠ 10) : lineLen (b :: l) = lineLen l + 1 := by
  unfold lineLen; rw [List.takeWhile_cons, if_pos (by simpa using h)]; rfl
theorem ans_comment (M : Nat) (l : List UInt8) (ts : List Tok) : ∀ n, ans M l ts n .line = ans M (l.drop (lineLen l)) ts (n + lineLen l) .btw := by
  induction l with
  | nil => intro n; rfl
  | cons b l ih =>
    intro n
    by_cases h : b = 10
    · subst h; rw [ans_line_end]; rfl
    · rw [lineLen_cons b l h, ans_cons, step, if_neg h, show n + (lineLen l + 1) = n + 1 + lineLen l from by omega]; exact ih (n + 1)
theorem ans_percent (M : Nat) (l : List UInt8) (ts : List Tok) (n : Nat) : ans M (37 :: l) ts n .btw = ans M ((37 :: l).drop (lineLen (37 :: l))) ts (n + lineLen (37 :: l)) .btw := by
  have h : ans M (37 :: l) ts n .btw = ans M l ts (n + 1) .line := by rw [ans_cons, step, start, if_neg (by decide), if_pos rfl]
  rw [h, ans_comment, lineLen_cons _ _ (by decide), List.drop_succ_cons, show n + (lineLen l + 1) = n + 1 + lineLen l from by omega]
theorem index_line (l : List UInt8) : (Lib.indexByte l 10 = -1 ∧ lineLen l = l.length) ∨ (Lib.indexByte l 10 = (lineLen l : Nat) ∧ lineLen l < l.length) := by
  induction l with
  | nil => exact .inl ⟨rfl, rfl⟩
  | cons b l ih =>
    by_cases h : b = 10
    · subst h; exact .inr ⟨rfl, Nat.succ_pos _⟩
    · rw [lineLen_cons b l h, Lib.indexByte, if_neg (by simpa using h), List.length_cons]
      rcases ih with ⟨h1, h2⟩ | ⟨h1, h2⟩
      · left; rw [h1]; exact ⟨rfl, by rw [h2]⟩
      · right; rw [h1, if_neg (by simp)]; exact ⟨by omega, by omega⟩
theorem cut_rem (l : List UInt8) : (Lib.cut l [42, 47] = (l, [], false) ∧ cutRem l = none) ∨ (∃ r, (∃ b, Lib.cut l [42, 47] = (b, r, true)) ∧ cutRem l = some r ∧ r.length + 2 ≤ l.length ∧ r = l.drop (l.length - r.length)) := by
  have key : (Lib.index l [42, 47] = -1 ∧ cutRem l = none) ∨ (∃ i : Nat, Lib.index l [42, 47] = i ∧ i + 2 ≤ l.length ∧ cutRem l = some (l.drop (i + 2))) := by
    induction l with
    | nil => exact .inl ⟨rfl, rfl⟩
    | cons a l ih =>
      cases l with
      | nil =>
        left
        refine ⟨?_, rfl⟩
        rw [Lib.index, if_neg (by simp), Lib.index]; rfl
      | cons b r =>
        rw [cutRem]
        by_cases h : a = 42 ∧ b = 47
        · obtain ⟨rfl, rfl⟩ := h
          right
          exact ⟨0, by rw [Lib.index, if_pos (by simp)]; rfl, by simp, by simp⟩
        · rw [if_neg h, Lib.index, if_neg (by simp; exact fun e1 e2 => h ⟨e1.symm, e2.symm⟩)]
          rcases ih with ⟨h1, h2⟩ | ⟨i, h1, h2, h3⟩
          · left; rw [h1]; exact ⟨rfl, h2⟩
          · right
            refine ⟨i + 1, by rw [h1, if_neg (by simp)]; omega, by simp at h2 ⊢; omega, by rw [h3]; rfl⟩
  unfold Lib.cut
  rcases key with ⟨h1, h2⟩ | ⟨i, h1, h2, h3⟩
  · left; rw [h1]; exact ⟨rfl, h2⟩
  · right
    have hl : (l.drop (i + 2)).length = l.length - (i + 2) := by simp
    refine ⟨l.drop (i + 2), ⟨l.take i, ?_⟩, h3, by omega, ?_⟩
    · rw [h1, if_pos (by omega)]; simp
    · rw [hl, show l.length - (l.length - (i + 2)) = i + 2 from by omega]

theorem size_of {s : ByteArray} {l : List UInt8} (h : s.data.toList = l) : s.size = l.length := by rw [← h]; simp

end Go.Proofs.Ytjccohcigopdfaa.lx
end
