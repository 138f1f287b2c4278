/- What the machine of modes says of whole texts: places, shifts, limits. Plain lists.; Plain arithmetic of 64-bit integers, for the layer num: no program in sight.; Decimal digits as bytes: plain lemmas, no program in sight.; A row of tokens as terms: the document's answer, as functions of lists: no program in sight.; Terms read of two rows of tokens that are alike as far as they are read. -/
import Derived.Test.YtpihmockcjdafaaQ1
import Derived.WalkKit
set_option linter.unusedVariables false
set_option linter.unusedSimpArgs false
section
/- What the machine of modes says of whole texts: places, shifts, limits. Plain lists. -/
namespace Go.Proofs.Ytpihmockcjdafaa.lx

/-! ### tokens shifted, and behind others -/
def shT (d : Nat) (t : Tok) : Tok := ⟨t.kind, t.text, t.frm + d, t.to + d⟩
def shM (d : Nat) : Mode → Mode
  | .btw => .btw
  | .line => .line
  | .slash f => .slash (f + d)
  | .dot f => .dot (f + d)
  | .rem f => .rem (f + d)
  | .star f => .star (f + d)
  | .word c f acc => .word c (f + d) acc
  | .quo f acc => .quo (f + d) acc
  | .quoq f acc => .quoq (f + d) acc
  | .esc f acc => .esc (f + d) acc
def shR (T : List Tok) (d : Nat) : R → R
  | .go ts m => .go (T ++ ts.map (shT d)) (shM d m)
  | .bad p e => .bad (p + d) e
def shO (T : List Tok) (d : Nat) : Out → Out
  | .ok ts => .ok (T ++ ts.map (shT d))
  | .bad p e => .bad (p + d) e
/-- the last token of T ends ahead of d -/
def Ahead (T : List Tok) (d : Nat) : Prop := ∀ t, T.getLast? = some t → t.to < d
theorem opens_shift {T : List Tok} {d : Nat} (h : Ahead T d) (ts : List Tok) (n : Nat) : opens (T ++ ts.map (shT d)) (n + d) = opens ts n := by
  unfold opens
  rcases ts.eq_nil_or_concat with rfl | ⟨l, t, rfl⟩
  · simp only [List.map_nil, List.append_nil, List.getLast?_nil]
    cases hT : T.getLast? with
    | none => rfl
    | some t =>
      have := h t hT
      have e : (t.to == n + d) = false := by simp; omega
      simp [e]
  · rw [List.concat_eq_append, List.map_append, ← List.append_assoc]
    simp only [List.map_cons, List.map_nil, List.getLast?_append, List.getLast?_singleton, Option.some_or]
    show ((shT d t).kind == 1 && (shT d t).to == n + d) = (t.kind == 1 && t.to == n)
    simp only [shT]
    congr 1
    rw [Bool.eq_iff_iff]; simp
theorem len_shift (T ts : List Tok) (d M : Nat) (hM : T.length ≤ M) : (T ++ ts.map (shT d)).length = M ↔ ts.length = M - T.length := by
  rw [List.length_append, List.length_map]; omega
theorem opening_shift {T : List Tok} {d : Nat} (h : Ahead T d) (ts : List Tok) (n : Nat) (b : UInt8) : opening (T ++ ts.map (shT d)) (n + d) b = shR T d (opening ts n b) := by
  unfold opening
  rw [opens_shift h]
  by_cases h6 : cl b = 6
  · rw [if_pos h6, if_pos h6]; rfl
  rw [if_neg h6, if_neg h6]
  by_cases h7 : cl b = 7
  · rw [if_pos h7, if_pos h7]; simp [shR, shM, shT]; omega
  rw [if_neg h7, if_neg h7]
  by_cases h8 : cl b = 8
  · rw [if_pos h8, if_pos h8]; simp [shR, shM, shT]; omega
  rw [if_neg h8, if_neg h8]
  by_cases h46 : b = 46
  · rw [if_pos h46, if_pos h46]; rfl
  rw [if_neg h46, if_neg h46]; rfl
theorem start_shift {T : List Tok} {d M : Nat} (h : Ahead T d) (hM : T.length ≤ M) (ts : List Tok) (n : Nat) (b : UInt8) : start M (T ++ ts.map (shT d)) (n + d) b = shR T d (start (M - T.length) ts n b) := by
  unfold start
  rw [opening_shift h]
  by_cases h1 : cl b = 1
  · rw [if_pos h1, if_pos h1]; rfl
  rw [if_neg h1, if_neg h1]
  by_cases h2 : b = 37
  · rw [if_pos h2, if_pos h2]; rfl
  rw [if_neg h2, if_neg h2]
  by_cases h3 : b = 47
  · rw [if_pos h3, if_pos h3]; rfl
  rw [if_neg h3, if_neg h3]
  by_cases h0 : cl b = 0
  · rw [if_pos h0, if_pos h0]; rfl
  rw [if_neg h0, if_neg h0]
  by_cases hl : ts.length = M - T.length
  · rw [if_pos ((len_shift T ts d M hM).2 hl), if_pos hl]; rfl
  rw [if_neg (mt (len_shift T ts d M hM).1 hl), if_neg hl]
theorem snoc_shift (T ts : List Tok) (d : Nat) (t : Tok) : T ++ ts.map (shT d) ++ [shT d t] = T ++ (ts ++ [t]).map (shT d) := by simp
/-- a mode that may stand at n -/
def At (n : Nat) : Mode → Prop
  | .esc _ _ => 1 ≤ n
  | _ => True
theorem step_shift {T : List Tok} {d M : Nat} (h : Ahead T d) (hM : T.length ≤ M) (ts : List Tok) (n : Nat) (b : UInt8) (m : Mode) (hm : At n m) :
    step M (T ++ ts.map (shT d)) (n + d) b (shM d m) = shR T d (step (M - T.length) ts n b m) := by
  have key : ∀ (t : Tok), start M (T ++ ts.map (shT d) ++ [⟨t.kind, t.text, t.frm + d, t.to + d⟩]) (n + d) b = shR T d (start (M - T.length) (ts ++ [t]) n b) := fun t => by
    have := start_shift h hM (ts ++ [t]) n b
    rwa [← snoc_shift] at this
  cases m with
  | btw => exact start_shift h hM ts n b
  | line => simp only [shM, step]; split <;> rfl
  | slash f =>
    simp only [shM, step]
    by_cases h1 : b = 42
    · rw [if_pos h1, if_pos h1]; rfl
    rw [if_neg h1, if_neg h1]
    by_cases hl : ts.length = M - T.length
    · rw [if_pos ((len_shift T ts d M hM).2 hl), if_pos hl]; rfl
    rw [if_neg (mt (len_shift T ts d M hM).1 hl), if_neg hl]
    by_cases h5 : cl b = 5
    · rw [if_pos h5, if_pos h5]; rfl
    rw [if_neg h5, if_neg h5]; exact key ⟨1, [47], f, n⟩
  | dot f =>
    simp only [shM, step]
    by_cases h5 : cl b = 5
    · rw [if_pos h5, if_pos h5]; rfl
    rw [if_neg h5, if_neg h5]; exact key ⟨_, [46], f, n⟩
  | rem f => simp only [shM, step]; split <;> rfl
  | star f =>
    simp only [shM, step]
    split
    · rfl
    · split <;> rfl
  | word c f acc =>
    simp only [shM, step]
    split
    · rfl
    · exact key ⟨_, acc, f, n⟩
  | quo f acc =>
    simp only [shM, step]
    split
    · rfl
    · split
      · rfl
      · split <;> rfl
  | quoq f acc =>
    simp only [shM, step]
    split
    · rfl
    · exact key ⟨1, acc, f, n⟩
  | esc f acc =>
    have h1 : 1 ≤ n := hm
    simp only [shM, step]
    split
    · rfl
    · split
      · rfl
      · split
        · rfl
        · simp only [shR]; congr 1; omega
theorem fin_shift {T : List Tok} {d M : Nat} (hM : T.length ≤ M) (ts : List Tok) (n : Nat) (m : Mode) : fin M (T ++ ts.map (shT d)) (n + d) (shM d m) = shO T d (fin (M - T.length) ts n m) := by
  have key : ∀ (t : Tok), Out.ok (T ++ ts.map (shT d) ++ [⟨t.kind, t.text, t.frm + d, t.to + d⟩]) = shO T d (.ok (ts ++ [t])) := fun t => by
    have := snoc_shift T ts d t
    simp only [shT] at this
    simp only [shO]; rw [this]
  cases m with
  | slash f =>
    simp only [shM, fin]
    by_cases hl : ts.length = M - T.length
    · rw [if_pos ((len_shift T ts d M hM).2 hl), if_pos hl]; rfl
    rw [if_neg (mt (len_shift T ts d M hM).1 hl), if_neg hl]; exact key ⟨1, [47], f, n⟩
  | dot f => exact key ⟨6, [46], f, n⟩
  | word c f acc => exact key ⟨_, acc, f, n⟩
  | quoq f acc => exact key ⟨1, acc, f, n⟩
  | btw => rfl
  | line => rfl
  | rem f => rfl
  | star f => rfl
  | quo f acc => rfl
  | esc f acc => rfl
theorem ans_shift {T : List Tok} {d M : Nat} (h : Ahead T d) (hM : T.length ≤ M) : ∀ (l : List UInt8) (ts : List Tok) (n : Nat) (m : Mode), At n m →
    ans M l (T ++ ts.map (shT d)) (n + d) (shM d m) = shO T d (ans (M - T.length) l ts n m) := by
  intro l
  induction l with
  | nil => intro ts n m _; exact fin_shift hM ts n m
  | cons b l ih =>
    intro ts n m hm
    rw [ans_cons, ans_cons, step_shift h hM ts n b m hm]
    cases hs : step (M - T.length) ts n b m with
    | go ts' m' =>
      simp only [shR]
      rw [show n + d + 1 = n + 1 + d from by omega]
      exact ih ts' (n + 1) m' (by cases m' <;> simp [At])
    | bad p e => rfl

/-! ### no more tokens than there may be -/
def pend : Mode → Nat
  | .dot _ => 1
  | .word _ _ _ => 1
  | .quo _ _ => 1
  | .quoq _ _ => 1
  | .esc _ _ => 1
  | _ => 0
theorem opening_more {ts ts' : List Tok} {n : Nat} {b : UInt8} {m' : Mode} (h : opening ts n b = .go ts' m') : ts.length + 1 ≤ ts'.length + pend m' := by
  unfold opening at h
  split at h
  · cases h; exact Nat.le_refl _
  · split at h
    · cases h; simp [pend]
    · split at h
      · cases h; simp [pend]
      · split at h <;> cases h <;> exact Nat.le_refl _
theorem opening_go (ts : List Tok) (n : Nat) (b : UInt8) : ∃ ts' m', opening ts n b = .go ts' m' := by
  unfold opening
  repeat' split
  all_goals exact ⟨_, _, rfl⟩
/-- with fewer tokens let in: the same, as long as they are enough -/
theorem start_less {M M' : Nat} {ts ts' : List Tok} {n : Nat} {b : UInt8} {m' : Mode} (h : start M ts n b = .go ts' m') : ts.length ≤ ts'.length + pend m' ∧ (ts'.length + pend m' ≤ M' → start M' ts n b = .go ts' m') := by
  unfold start at h ⊢
  by_cases h1 : cl b = 1
  · rw [if_pos h1] at h ⊢; cases h; exact ⟨by simp [pend], fun _ => rfl⟩
  rw [if_neg h1] at h ⊢
  by_cases h2 : b = 37
  · rw [if_pos h2] at h ⊢; cases h; exact ⟨by simp [pend], fun _ => rfl⟩
  rw [if_neg h2] at h ⊢
  by_cases h3 : b = 47
  · rw [if_pos h3] at h ⊢; cases h; exact ⟨by simp [pend], fun _ => rfl⟩
  rw [if_neg h3] at h ⊢
  by_cases h0 : cl b = 0
  · rw [if_pos h0] at h; cases h
  rw [if_neg h0] at h ⊢
  by_cases hl : ts.length = M
  · rw [if_pos hl] at h; cases h
  rw [if_neg hl] at h
  have hm := opening_more h
  exact ⟨by omega, fun hle => by rw [if_neg (by omega)]; exact h⟩
theorem step_less {M M' : Nat} {ts ts' : List Tok} {n : Nat} {b : UInt8} {m m' : Mode} (h : step M ts n b m = .go ts' m') :
    ts.length + pend m ≤ ts'.length + pend m' ∧ (ts'.length + pend m' ≤ M' → step M' ts n b m = .go ts' m') := by
  cases m with
  | btw => exact start_less h
  | line => simp only [step] at h ⊢; split at h <;> cases h <;> simp_all [pend]
  | slash f =>
    simp only [step] at h ⊢
    by_cases h1 : b = 42
    · rw [if_pos h1] at h ⊢; cases h; exact ⟨by simp [pend], fun _ => rfl⟩
    rw [if_neg h1] at h ⊢
    by_cases hl : ts.length = M
    · rw [if_pos hl] at h; cases h
    rw [if_neg hl] at h
    by_cases h5 : cl b = 5
    · rw [if_pos h5] at h ⊢; cases h
      exact ⟨by simp [pend], fun hle => by rw [if_neg (by simp [pend] at hle; omega)]⟩
    rw [if_neg h5] at h ⊢
    obtain ⟨k1, k2⟩ := start_less (M' := M') h
    rw [List.length_append, List.length_singleton] at k1
    exact ⟨by show ts.length + 0 ≤ _; omega, fun hle => by rw [if_neg (by omega)]; exact k2 hle⟩
  | dot f =>
    simp only [step] at h ⊢
    by_cases h5 : cl b = 5
    · rw [if_pos h5] at h ⊢; cases h; exact ⟨Nat.le_refl _, fun _ => rfl⟩
    rw [if_neg h5] at h ⊢
    obtain ⟨k1, k2⟩ := start_less (M' := M') h
    rw [List.length_append, List.length_singleton] at k1
    exact ⟨k1, k2⟩
  | rem f => simp only [step] at h ⊢; split at h <;> cases h <;> simp_all [pend]
  | star f =>
    simp only [step] at h ⊢
    split at h
    · cases h; simp_all [pend]
    · split at h <;> cases h <;> simp_all [pend]
  | word c f acc =>
    simp only [step] at h ⊢
    by_cases h5 : joinB c (cl b) = true
    · rw [if_pos h5] at h ⊢; cases h; exact ⟨Nat.le_refl _, fun _ => rfl⟩
    rw [if_neg h5] at h ⊢
    obtain ⟨k1, k2⟩ := start_less (M' := M') h
    rw [List.length_append, List.length_singleton] at k1
    exact ⟨k1, k2⟩
  | quo f acc =>
    simp only [step] at h ⊢
    split at h
    · cases h; simp_all [pend]
    · split at h
      · cases h; simp_all [pend]
      · split at h <;> cases h; simp_all [pend]
  | quoq f acc =>
    simp only [step] at h ⊢
    by_cases h5 : b = 39
    · rw [if_pos h5] at h ⊢; cases h; exact ⟨Nat.le_refl _, fun _ => rfl⟩
    rw [if_neg h5] at h ⊢
    obtain ⟨k1, k2⟩ := start_less (M' := M') h
    rw [List.length_append, List.length_singleton] at k1
    exact ⟨k1, k2⟩
  | esc f acc =>
    simp only [step] at h ⊢
    split at h
    · cases h; simp_all [pend]
    · split at h
      · cases h; simp_all [pend]
      · split at h <;> cases h; simp_all [pend]
theorem fin_less {M M' : Nat} {ts out : List Tok} {n : Nat} {m : Mode} (h : fin M ts n m = .ok out) : ts.length + pend m ≤ out.length ∧ (out.length ≤ M' → fin M' ts n m = .ok out) := by
  cases m <;> simp only [fin] at h ⊢
  case slash f =>
    split at h
    · cases h
    · cases h
      exact ⟨by simp [pend], fun hle => by rw [if_neg (by simp at hle; omega)]⟩
  all_goals first | (cases h; done) | (cases h; simp [pend])
theorem ans_less {M M' : Nat} {out : List Tok} : ∀ (l : List UInt8) (ts : List Tok) (n : Nat) (m : Mode), ans M l ts n m = .ok out → ts.length + pend m ≤ out.length ∧ (out.length ≤ M' → ans M' l ts n m = .ok out) := by
  intro l
  induction l with
  | nil => intro ts n m h; exact fin_less h
  | cons b l ih =>
    intro ts n m h
    rw [ans_cons] at h ⊢
    cases hs : step M ts n b m with
    | bad p e => rw [hs] at h; cases h
    | go ts' m' =>
      rw [hs] at h
      obtain ⟨k1, k2⟩ := ih ts' (n + 1) m' h
      obtain ⟨s1, s2⟩ := step_less (M' := M') hs
      exact ⟨by omega, fun hle => by rw [s2 (by omega)]; exact k2 hle⟩

theorem run_shift {T : List Tok} {d M : Nat} (h : Ahead T d) (hM : T.length ≤ M) : ∀ (l : List UInt8) (ts : List Tok) (n : Nat) (m : Mode), At n m → ∀ ts' m', run (M - T.length) l ts n m = .go ts' m' →
    run M l (T ++ ts.map (shT d)) (n + d) (shM d m) = .go (T ++ ts'.map (shT d)) (shM d m') := by
  intro l
  induction l with
  | nil => intro ts n m _ ts' m' hr; cases hr; rfl
  | cons b l ih =>
    intro ts n m hm ts' m' hr
    rw [run] at hr ⊢
    rw [step_shift h hM ts n b m hm]
    cases hs : step (M - T.length) ts n b m with
    | go ts1 m1 =>
      rw [hs] at hr
      simp only [shR]
      rw [show n + d + 1 = n + 1 + d from by omega]
      exact ih ts1 (n + 1) m1 (by cases m1 <;> simp [At]) ts' m' hr
    | bad p e => rw [hs] at hr; cases hr
theorem run_more {M : Nat} : ∀ (l : List UInt8) (ts : List Tok) (n : Nat) (m : Mode) (ts' : List Tok) (m' : Mode), run M l ts n m = .go ts' m' → ts.length + pend m ≤ ts'.length + pend m' := by
  intro l
  induction l with
  | nil => intro ts n m ts' m' hr; cases hr; exact Nat.le_refl _
  | cons b l ih =>
    intro ts n m ts' m' hr
    rw [run] at hr
    cases hs : step M ts n b m with
    | go ts1 m1 => rw [hs] at hr; exact Nat.le_trans (step_less (M' := M) hs).1 (ih _ _ _ _ _ hr)
    | bad p e => rw [hs] at hr; cases hr
theorem run_less {M M' : Nat} : ∀ (l : List UInt8) (ts : List Tok) (n : Nat) (m : Mode) (ts' : List Tok) (m' : Mode), run M l ts n m = .go ts' m' → ts'.length + pend m' ≤ M' → run M' l ts n m = .go ts' m' := by
  intro l
  induction l with
  | nil => intro ts n m ts' m' hr _; exact hr
  | cons b l ih =>
    intro ts n m ts' m' hr hle
    rw [run] at hr ⊢
    cases hs : step M ts n b m with
    | go ts1 m1 =>
      rw [hs] at hr
      rw [(step_less (M' := M') hs).2 (Nat.le_trans (run_more _ _ _ _ _ _ hr) hle)]
      exact ih _ _ _ _ _ hr hle
    | bad p e => rw [hs] at hr; cases hr
end Go.Proofs.Ytpihmockcjdafaa.lx
end
section
/- Plain arithmetic of 64-bit integers, for the layer num: no program in sight. -/
namespace Go.Proofs.Ytpihmockcjdafaa.nm
open Go.RowKit

/-- it fits 64 bits -/
def Fit (n : Int) : Prop := -9223372036854775808 ≤ n ∧ n ≤ 9223372036854775807
instance (n : Int) : Decidable (Fit n) := by unfold Fit; infer_instance

theorem fit_wf {n : Int} (h : (Lit.int .i64 n).wf = true) : Fit n := by
  simpa [Lit.wf, IntKind.min, IntKind.max, IntKind.signed, IntKind.bits, Fit] using h

/-- a result, or 0 beyond 64 bits; its error -/
def val (n : Int) : Int := if Fit n then n else 0
def err (n : Int) : Int := if Fit n then 0 else 10

theorem val_fit (n : Int) : Fit (val n) := by
  unfold val; split
  · assumption
  · unfold Fit; omega
theorem val_of {n : Int} (h : Fit n) : val n = n := if_pos h
theorem err_of {n : Int} (h : Fit n) : err n = 0 := if_pos h
theorem val_no {n : Int} (h : ¬ Fit n) : val n = 0 := if_neg h
theorem err_no {n : Int} (h : ¬ Fit n) : err n = 10 := if_neg h
theorem err_cases (n : Int) : err n = 0 ∧ val n = n ∧ Fit n ∨ err n = 10 ∧ val n = 0 ∧ ¬ Fit n := by
  by_cases h : Fit n
  · exact .inl ⟨err_of h, val_of h, h⟩
  · exact .inr ⟨err_no h, val_no h, h⟩

theorem wrap_fit {n : Int} (h : Fit n) : wrap64 n = n := by unfold wrap64; unfold Fit at h; omega
theorem wrap_is_fit (n : Int) : Fit (wrap64 n) := by unfold wrap64 Fit; omega
theorem wrap_mod (n : Int) : ∃ k : Int, wrap64 n = n + 18446744073709551616 * k := by
  unfold wrap64; exact ⟨-((n + 9223372036854775808) / 18446744073709551616), by omega⟩
theorem least_fit : Fit (-9223372036854775808) := by unfold Fit; omega
theorem small_fit {n : Int} (h : -1000000 ≤ n ∧ n ≤ 1000000) : Fit n := by unfold Fit; omega

/-! ### dividing -/
theorem tdiv_abs_le (a b : Int) (hb : b ≠ 0) (hb1 : b ≠ -1) (ha : Fit a) : Fit (a.tdiv b) := by
  have h := Int.natAbs_tdiv a b
  by_cases h1 : b = 1
  · subst h1; rw [Int.tdiv_one]; exact ha
  · have h2 : a.natAbs.div b.natAbs ≤ a.natAbs / 2 := Nat.div_le_div_left (by omega) (by omega)
    unfold Fit at *; omega
theorem tdiv_neg_one (a : Int) : a.tdiv (-1) = -a := by
  rw [Int.tdiv_neg, Int.tdiv_one]
theorem tdiv_fit {a b : Int} (ha : Fit a) (hb : b ≠ 0) (h : ¬ (a = -9223372036854775808 ∧ b = -1)) : Fit (a.tdiv b) := by
  by_cases h1 : b = -1
  · subst h1; rw [tdiv_neg_one]; unfold Fit at *; omega
  · exact tdiv_abs_le a b hb h1 ha
theorem tdiv_least : ¬ Fit ((-9223372036854775808 : Int).tdiv (-1)) := by rw [tdiv_neg_one]; unfold Fit; omega
theorem natAbs_tmod_lt (a b : Int) (hb : b ≠ 0) : (a.tmod b).natAbs < b.natAbs := by
  rw [Int.natAbs_tmod]; exact Nat.mod_lt _ (by omega)
theorem tmod_fit {a b : Int} (ha : Fit a) : Fit (a.tmod b) := by
  have h := Int.natAbs_tmod a b
  have h2 : a.natAbs % b.natAbs ≤ a.natAbs := Nat.mod_le _ _
  have h3 : 0 ≤ a → 0 ≤ a.tmod b := fun h => Int.tmod_nonneg b h
  have h4 : a ≤ 0 → a.tmod b ≤ 0 := fun h => by
    have := Int.tmod_nonneg (a := -a) b (by omega)
    rw [Int.neg_tmod] at this; omega
  unfold Fit at *; omega

/-- whether the cut-off quotient lies above the true one -/
def lean (r b : Int) : Bool := decide (r ≠ 0) && (decide (r < 0) != decide (b < 0))
theorem tmod_sign (a b : Int) : (0 ≤ a → 0 ≤ a.tmod b) ∧ (a ≤ 0 → a.tmod b ≤ 0) := by
  refine ⟨fun h => Int.tmod_nonneg b h, fun h => ?_⟩
  have := Int.tmod_nonneg (a := -a) b (by omega)
  rw [Int.neg_tmod] at this; omega
theorem fdiv_is (a b : Int) (hb : b ≠ 0) : a.fdiv b = if lean (a.tmod b) b then a.tdiv b - 1 else a.tdiv b := by
  rw [Int.fdiv_eq_tdiv]
  have hs := tmod_sign a b
  have hd : b ∣ a ↔ a.tmod b = 0 := Int.dvd_iff_tmod_eq_zero
  unfold lean
  by_cases h0 : a.tmod b = 0
  · simp [h0, hd]
  · have hd' : ¬ b ∣ a := by rw [hd]; exact h0
    have ha0 : a ≠ 0 := by intro h; subst h; simp at h0
    rw [if_neg hd']
    rcases Int.lt_or_gt_of_ne hb with h1 | h1
    · have hsg : b.sign = -1 := Int.sign_eq_neg_one_of_neg h1
      by_cases h2 : 0 ≤ a
      · have := hs.1 h2; simp [h2, h0, h1, show ¬ (0 ≤ b) from by omega, show ¬ a.tmod b < 0 from by omega]
      · have := hs.2 (by omega); simp [h2, h0, h1, show ¬ (0 ≤ b) from by omega, show a.tmod b < 0 from by omega, hsg]
    · have hsg : b.sign = 1 := Int.sign_eq_one_of_pos h1
      by_cases h2 : 0 ≤ a
      · have := hs.1 h2; simp [h2, h0, show ¬ b < 0 from by omega, show 0 ≤ b from by omega, show ¬ a.tmod b < 0 from by omega]
      · have := hs.2 (by omega); simp [h2, h0, show ¬ b < 0 from by omega, show 0 ≤ b from by omega, show a.tmod b < 0 from by omega, hsg]
theorem fmod_is (a b : Int) (hb : b ≠ 0) : a.fmod b = if lean (a.tmod b) b then a.tmod b + b else a.tmod b := by
  have h1 := Int.mul_fdiv_add_fmod a b
  have h2 := Int.mul_tdiv_add_tmod a b
  have h3 := fdiv_is a b hb
  split at h3 <;> rename_i hl
  · rw [if_pos hl]; rw [h3, Int.mul_sub] at h1; omega
  · rw [if_neg hl]; rw [h3] at h1; omega
theorem lean_bd (a b : Int) (hb : b ≠ 0) (h : lean (a.tmod b) b = true) : a.tmod b ≠ 0 ∧ (a.tmod b < 0 ∧ 0 < b ∨ 0 < a.tmod b ∧ b < 0) := by
  unfold lean at h
  simp at h
  refine ⟨h.1, ?_⟩
  have h2 := h.2
  by_cases c1 : a.tmod b < 0 <;> by_cases c2 : b < 0 <;> simp [c1, c2] at h2 <;> omega
theorem fdiv_fit {a b : Int} (ha : Fit a) (hb : b ≠ 0) (h : ¬ (a = -9223372036854775808 ∧ b = -1)) : Fit (a.fdiv b) := by
  rw [fdiv_is a b hb]
  have hq := tdiv_fit ha hb h
  split
  · rename_i hl
    have h3 := lean_bd a b hb hl
    by_cases h1 : b = 1
    · subst h1; simp at h3
    · by_cases h2 : b = -1
      · subst h2; simp at h3
      · have h4 := Int.natAbs_tdiv a b
        have h5 : a.natAbs.div b.natAbs ≤ a.natAbs / 2 := Nat.div_le_div_left (by omega) (by omega)
        unfold Fit at *; omega
  · exact hq
theorem fmod_fit {a b : Int} (ha : Fit a) (hbf : Fit b) (hb : b ≠ 0) : Fit (a.fmod b) := by
  rw [fmod_is a b hb]
  have hq := tmod_fit (b := b) ha
  split
  · rename_i hl; have h3 := lean_bd a b hb hl; unfold Fit at *; omega
  · exact hq
theorem fdiv_least : ¬ Fit ((-9223372036854775808 : Int).fdiv (-1)) := by
  have : (-9223372036854775808 : Int).fdiv (-1) = 9223372036854775808 := by decide
  rw [this]; unfold Fit; omega

/-- what the four come to, and their errors -/
def quoV (a b : Int) : Int := if b = 0 then 0 else val (a.tdiv b)
def quoE (a b : Int) : Int := if b = 0 then 11 else err (a.tdiv b)
def remV (a b : Int) : Int := if b = 0 then 0 else a.tmod b
def remE (b : Int) : Int := if b = 0 then 11 else 0
def divV (a b : Int) : Int := if b = 0 then 0 else val (a.fdiv b)
def divE (a b : Int) : Int := if b = 0 then 11 else err (a.fdiv b)
def modV (a b : Int) : Int := if b = 0 then 0 else a.fmod b

/-! ### a product, divided back -/
theorem mul_back {a b : Int} (ha : Fit a) (hb : Fit b) (hb0 : b ≠ 0) (h : ¬ (a = -9223372036854775808 ∧ b = -1)) (hf : ¬ Fit (a * b)) :
    wrap64 ((wrap64 (a * b)).tdiv b) ≠ a := by
  have hb1 : b ≠ -1 := by
    intro h1; subst h1; apply hf
    unfold Fit at *; omega
  rw [wrap_fit (tdiv_abs_le _ _ hb0 hb1 (wrap_is_fit _))]
  intro h2
  have h3 := Int.mul_tdiv_add_tmod (wrap64 (a * b)) b
  rw [h2] at h3
  obtain ⟨k, hk⟩ := wrap_mod (a * b)
  have h4 := natAbs_tmod_lt (wrap64 (a * b)) b hb0
  have h5 : (wrap64 (a * b)).tmod b = 18446744073709551616 * k := by
    have : b * a = a * b := Int.mul_comm _ _
    omega
  have h6 : k = 0 := by rw [h5] at h4; unfold Fit at hb; omega
  subst h6
  apply hf
  have := wrap_is_fit (a * b)
  rw [hk] at this
  simpa using this
theorem mul_least : ¬ Fit ((-9223372036854775808 : Int) * (-1)) := by unfold Fit; omega

end Go.Proofs.Ytpihmockcjdafaa.nm
end
section
/- Decimal digits as bytes: plain lemmas, no program in sight. -/
namespace Go.Proofs.Ytpihmockcjdafaa.tx
open Go.RowKit Go.Proofs.Ytpihmockcjdafaa.nm

/-- the byte of a digit -/
def dig (n : Nat) : UInt8 := UInt8.ofNat (48 + n % 10)
theorem dig_nat (n : Nat) : (dig n).toNat = 48 + n % 10 := by
  unfold dig; rw [UInt8.toNat_ofNat_of_lt' (by show 48 + n % 10 < 256; omega)]

/-- a number's decimal digits, the highest first, ahead of r -/
def decTo (n : Nat) (r : List UInt8) : List UInt8 := if h : n < 10 then dig n :: r else decTo (n / 10) (dig n :: r)
termination_by n
decreasing_by omega
def dec (n : Nat) : List UInt8 := decTo n []
theorem decTo_lt {n : Nat} (h : n < 10) (r : List UInt8) : decTo n r = dig n :: r := by rw [decTo, dif_pos h]
theorem decTo_ge {n : Nat} (h : ¬ n < 10) (r : List UInt8) : decTo n r = decTo (n / 10) (dig n :: r) := by rw [decTo, dif_neg h]
theorem decTo_append (n : Nat) (r : List UInt8) : decTo n r = dec n ++ r := by
  unfold dec
  induction n using Nat.strongRecOn generalizing r with
  | ind n ih =>
    by_cases h : n < 10
    · rw [decTo_lt h, decTo_lt h]; rfl
    · rw [decTo_ge h, decTo_ge h, ih _ (by omega), ih _ (by omega) [dig n]]; simp

/-- what a list of digits comes to, from a number on -/
def valF (l : List UInt8) (n : Nat) : Nat := l.foldl (fun n c => 10 * n + (c.toNat - 48)) n
theorem valF_nil (n : Nat) : valF [] n = n := by unfold valF; rw [List.foldl_nil]
theorem valF_cons (c : UInt8) (l : List UInt8) (n : Nat) : valF (c :: l) n = valF l (10 * n + (c.toNat - 48)) := by unfold valF; rw [List.foldl_cons]
theorem valF_append (a b : List UInt8) (n : Nat) : valF (a ++ b) n = valF b (valF a n) := by unfold valF; rw [List.foldl_append]
theorem valF_mono (l : List UInt8) : ∀ n, n ≤ valF l n := by
  induction l with
  | nil => intro n; exact Nat.le_refl _
  | cons c l ih => intro n; rw [valF_cons]; have := ih (10 * n + (c.toNat - 48)); omega
/-- digits alone -/
def Digs (l : List UInt8) : Prop := ∀ c ∈ l, 48 ≤ c.toNat ∧ c.toNat ≤ 57
theorem digs_decTo (n : Nat) (r : List UInt8) (h : Digs r) : Digs (decTo n r) := by
  induction n using Nat.strongRecOn generalizing r with
  | ind n ih =>
    have hd : Digs (dig n :: r) := fun c hc => by
      rcases List.mem_cons.1 hc with rfl | hc
      · rw [dig_nat]; omega
      · exact h c hc
    by_cases h1 : n < 10
    · rw [decTo_lt h1]; exact hd
    · rw [decTo_ge h1]; exact ih _ (by omega) _ hd
theorem digs_dec (n : Nat) : Digs (dec n) := digs_decTo n [] (fun _ h => nomatch h)
theorem val_decTo (n : Nat) (r : List UInt8) : valF (decTo n r) 0 = valF r n := by
  induction n using Nat.strongRecOn generalizing r with
  | ind n ih =>
    by_cases h1 : n < 10
    · rw [decTo_lt h1, valF_cons, dig_nat, show 10 * 0 + (48 + n % 10 - 48) = n from by omega]
    · rw [decTo_ge h1, ih _ (by omega), valF_cons, dig_nat, show 10 * (n / 10) + (48 + n % 10 - 48) = n from by omega]
theorem val_dec (n : Nat) : valF (dec n) 0 = n := val_decTo n []
theorem dec_ne (n : Nat) : dec n ≠ [] := by
  unfold dec
  have : ∀ n r, (decTo n r).length ≥ 1 + r.length := by
    intro n
    induction n using Nat.strongRecOn with
    | ind n ih =>
      intro r
      by_cases h1 : n < 10
      · rw [decTo_lt h1]; simp; omega
      · rw [decTo_ge h1]; have := ih _ (show n / 10 < n by omega) (dig n :: r); simp at this; omega
  intro h; have := this n []; rw [h] at this; simp at this
theorem dec_len_lt {n k : Nat} (h : n < 10 ^ k) (hk : 0 < k) : (dec n).length ≤ k := by
  have : ∀ k n r, 0 < k → n < 10 ^ k → (decTo n r).length ≤ k + r.length := by
    intro k
    induction k with
    | zero => intro n r h; omega
    | succ k ih =>
      intro n r _ h
      by_cases h1 : n < 10
      · rw [decTo_lt h1]; simp; omega
      · rw [decTo_ge h1]
        have hk : 0 < k := by
          rcases Nat.eq_zero_or_pos k with rfl | hk
          · simp at h; omega
          · exact hk
        have := ih (n / 10) (dig n :: r) hk (by rw [Nat.pow_succ] at h; omega)
        simp at this; omega
  have := this k n [] hk h; simpa [dec] using this

/-- the text of an integer -/
def text (a : Int) : List UInt8 := if a < 0 then 45 :: dec a.natAbs else dec a.natAbs
theorem text_neg {a : Int} (h : a < 0) : text a = 45 :: dec a.natAbs := if_pos h
theorem text_pos {a : Int} (h : ¬ a < 0) : text a = dec a.natAbs := if_neg h
theorem dec_head {n : Nat} {c : UInt8} {l : List UInt8} (h : dec n = c :: l) : c ≠ 45 := by
  have := digs_dec n c (by rw [h]; exact List.mem_cons_self ..)
  intro e; subst e; simp at this
theorem text_inj {a b : Int} (h : text a = text b) : a = b := by
  by_cases ha : a < 0 <;> by_cases hb : b < 0
  · rw [text_neg ha, text_neg hb] at h
    have h2 := (List.cons.inj h).2
    have := val_dec a.natAbs; rw [h2, val_dec] at this; omega
  · rw [text_neg ha, text_pos hb] at h
    exact absurd rfl (dec_head h.symm)
  · rw [text_pos ha, text_neg hb] at h
    exact absurd rfl (dec_head h)
  · rw [text_pos ha, text_pos hb] at h
    have := val_dec a.natAbs; rw [h, val_dec] at this; omega
theorem text_len {a : Int} (h : Fit a) : (text a).length ≤ 20 ∧ 1 ≤ (text a).length := by
  have h1 : (dec a.natAbs).length ≤ 19 := dec_len_lt (by unfold Fit at h; omega) (by omega)
  have h2 : 1 ≤ (dec a.natAbs).length := by
    have := dec_ne a.natAbs
    rcases hd : dec a.natAbs with _ | ⟨c, l⟩
    · exact absurd hd this
    · simp
  by_cases c : a < 0
  · rw [text_neg c]; simp; omega
  · rw [text_pos c]; omega

open Classical in
/-- the number whose text this is, or 0; the error -/
noncomputable def parseV (s : List UInt8) : Int := if h : ∃ a, Fit a ∧ text a = s then Classical.choose h else 0
open Classical in
noncomputable def parseE (s : List UInt8) : Int := if ∃ a, Fit a ∧ text a = s then 0 else 12
theorem parse_yes {s : List UInt8} {a : Int} (h : Fit a) (ht : text a = s) : parseV s = a ∧ parseE s = 0 := by
  have he : ∃ a, Fit a ∧ text a = s := ⟨a, h, ht⟩
  unfold parseV parseE
  rw [dif_pos he, if_pos he]
  exact ⟨text_inj ((Classical.choose_spec he).2.trans ht.symm), rfl⟩
theorem parse_no {s : List UInt8} (h : ∀ a, Fit a → text a ≠ s) : parseV s = 0 ∧ parseE s = 12 := by
  have he : ¬ ∃ a, Fit a ∧ text a = s := fun ⟨a, h1, h2⟩ => h a h1 h2
  unfold parseV parseE
  rw [dif_neg he, if_neg he]
  exact ⟨rfl, rfl⟩

end Go.Proofs.Ytpihmockcjdafaa.tx
end
section
/- A row of tokens as terms: the document's answer, as functions of lists: no program in sight. -/
namespace Go.Proofs.Ytpihmockcjdafaa.rd
open Go.Proofs.Ytpihmockcjdafaa.op (progI progP)
open Go.Proofs.Ytpihmockcjdafaa.tx (parseV parseE)
open Go.Proofs.Ytpihmockcjdafaa.lx (Tok)

/-- a term: of no parts, its kind, number and name; or of parts -/
inductive T where
  | leaf (k : Nat) (n : Int) (s : List UInt8)
  | cmp (s : List UInt8) (l : List T)

/-- what the reader looks at: a token's kind and text; does the next one begin right behind an atom -/
structure K where
  kind : Nat
  text : List UInt8
  near : Bool
deriving DecidableEq
def K0 : K := ⟨0, [], false⟩
/-- the token that comes -/
def nx (l : List K) : K := l.headD K0
def nearB (a b : Tok) : Bool := a.kind == 1 && b.frm == a.to
/-- tokens as the reader looks at them -/
def ab : List Tok → List K
  | [] => []
  | [a] => [⟨a.kind, a.text, false⟩]
  | a :: b :: l => ⟨a.kind, a.text, nearB a b⟩ :: ab (b :: l)

abbrev St := List K × List (List UInt8)
abbrev Res (α : Type) := Except Nat (α × St)
/-- a term of at most some priority, within some others -/
abbrev W := Int → St → Res T

def isM (k : K) (m : List UInt8) : Bool := k.kind == 5 && k.text == m
def infixK (k : K) : Int × Int × Int × Bool := if k.kind = 1 ∨ isM k [44] = true then progI k.text else (0, 0, 0, false)
def mayB (k : K) : Bool :=
  if k.kind = 2 ∨ k.kind = 3 then true
  else if k.kind = 5 then k.text == [40] || k.text == [91] || k.text == [123]
  else if k.kind = 1 then (progP k.text).2.2 || !(progI k.text).2.2.2
  else false
def expectP (m : List UInt8) (s : St) : Except Nat St := if isM (nx s.1) m = true then .ok (s.1.tail, s.2) else .error 50
def varP (s : St) : T × St :=
  let name := (nx s.1).text
  let i := s.2.idxOf name
  if i = s.2.length ∨ name = [95] then (.leaf 1 (s.2.length : Nat) [], (s.1.tail, s.2 ++ [name])) else (.leaf 1 (i : Nat) [], (s.1.tail, s.2))
def trim (l : List UInt8) : List UInt8 := l.dropWhile (· == 48)
noncomputable def intP (sign : List UInt8) (s : St) : Res T :=
  let d := trim (nx s.1).text
  if d = [] then .ok (.leaf 2 0 [], (s.1.tail, s.2))
  else if parseE (sign ++ d) = 0 then .ok (.leaf 2 (parseV (sign ++ d)) [], (s.1.tail, s.2)) else .error 51
def rowGo (w : W) : Nat → List T → St → Res (List T)
  | 0, l, s => .ok (l, s)
  | f + 1, l, s => if isM (nx s.1) [44] = true then
      match w 999 (s.1.tail, s.2) with
      | .error e => .error e
      | .ok (t, s') => rowGo w f (l ++ [t]) s'
    else .ok (l, s)
def rowP (w : W) (s : St) : Res (List T) :=
  match w 999 s with
  | .error e => .error e
  | .ok (t, s') => rowGo w s'.1.length [t] s'
def bracketP (w : W) (m : List UInt8) (s : St) : Res T :=
  match w 1200 s with
  | .error e => .error e
  | .ok (t, s') => match expectP m s' with
    | .error e => .error e
    | .ok s'' => .ok (t, s'')
def consAll (l : List T) (r : T) : T := l.foldr (fun t r => .cmp [46] [t, r]) r
def nilT : T := .leaf 3 0 [91, 93]
def listP (w : W) (s : St) : Res T :=
  if isM (nx s.1) [93] = true then .ok (nilT, (s.1.tail, s.2)) else
  match rowP w s with
  | .error e => .error e
  | .ok (l, s1) =>
    match (if isM (nx s1.1) [124] = true then w 999 (s1.1.tail, s1.2) else .ok (nilT, s1) : Res T) with
    | .error e => .error e
    | .ok (r, s2) => match expectP [93] s2 with
      | .error e => .error e
      | .ok s3 => .ok (consAll l r, s3)
def markedP (w : W) (s : St) : Res T :=
  if isM (nx s.1) [40] = true then bracketP w [41] (s.1.tail, s.2)
  else if isM (nx s.1) [91] = true then listP w (s.1.tail, s.2)
  else if isM (nx s.1) [123] = true then
    if isM (nx s.1.tail) [125] = true then .ok (.leaf 3 0 [123, 125], (s.1.tail.tail, s.2))
    else match bracketP w [125] (s.1.tail, s.2) with
      | .error e => .error e
      | .ok (t, s') => .ok (.cmp [123, 125] [t], s')
  else .error 50
def zeroP (r : Res T) : Res (T × Int) := match r with | .error e => .error e | .ok (t, s) => .ok ((t, 0), s)
noncomputable def namedP (w : W) (most : Int) (s : St) : Res (T × Int) :=
  let k := nx s.1
  let s1 : St := (s.1.tail, s.2)
  let b := nx s1.1
  if b.kind = 4 then
    match rowP w (s1.1.tail, s1.2) with
    | .error e => .error e
    | .ok (l, s2) => match expectP [41] s2 with
      | .error e => .error e
      | .ok s3 => .ok ((.cmp k.text l, 0), s3)
  else if k.text = [45] ∧ b.kind = 3 ∧ k.near = true then zeroP (intP [45] s1)
  else if (progP k.text).2.2 = true ∧ (progP k.text).1 ≤ most ∧ mayB b = true then
    match w (progP k.text).2.1 s1 with
    | .error e => .error e
    | .ok (t, s2) => .ok ((.cmp k.text [t], (progP k.text).1), s2)
  else .ok ((.leaf 3 0 k.text, 0), s1)
noncomputable def operandP (w : W) (most : Int) (s : St) : Res (T × Int) :=
  let k := nx s.1
  if k.kind = 1 then namedP w most s
  else if k.kind = 2 then .ok (((varP s).1, 0), (varP s).2)
  else if k.kind = 3 then zeroP (intP [] s)
  else if k.kind = 4 then zeroP (bracketP w [41] (s.1.tail, s.2))
  else zeroP (markedP w s)
def loopP (w : W) (most : Int) : Nat → T → Int → St → Res T
  | 0, t, _, s => .ok (t, s)
  | f + 1, t, prio, s =>
    let k := nx s.1
    let q := infixK k
    if q.2.2.2 = false ∨ most < q.1 ∨ q.2.1 < prio then .ok (t, s)
    else match w q.2.2.1 (s.1.tail, s.2) with
      | .error e => .error e
      | .ok (u, s') => loopP w most f (.cmp k.text [t, u]) q.1 s'
/-- a term that may stand within d others less one; none: nested too deeply -/
noncomputable def termP : Nat → W
  | 0 => fun _ _ => .error 52
  | d + 1 => fun most s => match operandP (termP d) most s with
    | .error e => .error e
    | .ok ((t, prio), s') => loopP (termP d) most s'.1.length t prio s'
/-- one sentence: its term, and its variables' names -/
noncomputable def sentP (l : List K) : Except Nat ((T × List (List UInt8)) × List K) :=
  match termP 65 1200 (l, []) with
  | .error e => .error e
  | .ok (t, s) => if (nx s.1).kind = 6 then .ok ((t, s.2), s.1.tail) else .error 50
noncomputable def sentsP : Nat → List K → Except Nat (List (T × List (List UInt8)))
  | 0, _ => .ok []
  | f + 1, l => if l = [] then .ok [] else match sentP l with
    | .error e => .error e
    | .ok (t, r) => match sentsP f r with
      | .error e => .error e
      | .ok ts => .ok (t :: ts)
open Go.Proofs.Ytpihmockcjdafaa.lx (toks Out)
/-- a text's sentences, or its error -/
noncomputable def readP (o : Out) : Except Nat (List (T × List (List UInt8))) := match o with
  | .bad _ e => .error e
  | .ok ts => sentsP ts.length (ab ts)
end Go.Proofs.Ytpihmockcjdafaa.rd
end
section
/- Terms read of two rows of tokens that are alike as far as they are read. -/
namespace Go.Proofs.Ytpihmockcjdafaa.rd
open Go.Proofs.Ytpihmockcjdafaa.op (progI progP)

/-- a token that begins and goes on with nothing -/
def dull (k : K) : Prop := k.kind = 6 ∨ (k.kind = 5 ∧ k.text = [41])
/-- two places from which the same is read -/
structure Sim (R : St → St → Prop) : Prop where
  nm : ∀ {s s'}, R s s' → s.2 = s'.2
  put : ∀ {s s'}, R s s' → (nx s.1).kind = 2 → R (s.1.tail, s.2) (s'.1.tail, s'.2) → R (s.1.tail, s.2 ++ [(nx s.1).text]) (s'.1.tail, s'.2 ++ [(nx s.1).text])
  hd : ∀ {s s'}, R s s' → (nx s.1 = nx s'.1 ∧ R (s.1.tail, s.2) (s'.1.tail, s'.2)) ∨ ((nx s.1).kind = 6 ∧ dull (nx s'.1))
section
variable {R : St → St → Prop} {w w' : W} {s s' : St}
def Ok3 {α : Type} (R : St → St → Prop) (x x' : Res α) (s s' : St) : Prop := ∀ v s1, x = .ok (v, s1) → ∃ s1', x' = .ok (v, s1') ∧ R s1 s1' ∧ s1.1.length ≤ s.1.length ∧ s1'.1.length ≤ s'.1.length
def Sm (R : St → St → Prop) (w w' : W) : Prop := ∀ most s s', R s s' → Ok3 R (w most s) (w' most s') s s'
theorem isM_end {k : K} (h : k.kind = 6) (m : List UInt8) : isM k m = false := by unfold isM; rw [h]; rfl
theorem isM_dull {k : K} (h : dull k) {m : List UInt8} (hm : m ≠ [41]) : isM k m = false := by
  rcases h with h | ⟨h1, h2⟩
  · exact isM_end h m
  · unfold isM; rw [h1, h2]; simp; exact fun e => hm e.symm
theorem infix_dull {k : K} (h : dull k) : infixK k = (0, 0, 0, false) := by
  unfold infixK
  rw [if_neg]
  rintro (h1 | h1)
  · rcases h with h | ⟨h, _⟩ <;> rw [h] at h1 <;> exact absurd h1 (by decide)
  · rw [isM_dull h (by decide)] at h1; exact absurd h1 (by decide)
theorem mayB_dull {k : K} (h : dull k) : mayB k = false := by
  unfold mayB
  rcases h with h | ⟨h1, h2⟩
  · rw [h]; rfl
  · rw [h1, h2]; rfl
theorem infix_nil : infixK (nx []) = (0, 0, 0, false) := rfl
theorem Ok3.mk' {α : Type} {x x' : Res α} {t t' : St} (h : Ok3 R x x' t t') (h1 : t.1.length ≤ s.1.length) (h2 : t'.1.length ≤ s'.1.length) : Ok3 R x x' s s' := fun v s1 hx => by
  obtain ⟨s1', a, b, c, d⟩ := h v s1 hx
  exact ⟨s1', a, b, by omega, by omega⟩
theorem expect_sim (hS : Sim R) (h : R s s') (m : List UInt8) {s1 : St} (hx : expectP m s = .ok s1) : ∃ s1', expectP m s' = .ok s1' ∧ R s1 s1' ∧ s1.1.length ≤ s.1.length ∧ s1'.1.length ≤ s'.1.length := by
  unfold expectP at hx ⊢
  split at hx
  · rename_i hm
    cases hx
    rcases hS.hd h with ⟨h1, h2⟩ | ⟨h1, _⟩
    · rw [← h1, if_pos hm]; exact ⟨_, rfl, h2, by simp, by simp⟩
    · rw [isM_end h1] at hm; exact absurd hm (by decide)
  · cases hx
theorem loop_sim (hS : Sim R) (hW : Sm R w w') (most : Int) : ∀ (f f' : Nat) (t : T) (q : Int) (s s' : St), R s s' → s.1.length ≤ f → s'.1.length ≤ f' → Ok3 R (loopP w most f t q s) (loopP w' most f' t q s') s s' := by
  intro f
  induction f with
  | zero =>
    intro f' t q s s' h hf hf' v s1 hx
    have hs : s.1 = [] := List.length_eq_zero_iff.1 (by omega)
    rw [loopP] at hx; cases hx
    refine ⟨s', ?_, h, Nat.le_refl _, Nat.le_refl _⟩
    have hk : infixK (nx s'.1) = (0, 0, 0, false) := by
      rcases hS.hd h with ⟨h1, _⟩ | ⟨_, h2⟩
      · rw [← h1, hs]; exact infix_nil
      · exact infix_dull h2
    cases f' with
    | zero => rfl
    | succ f' => rw [loopP]; simp only [hk, true_or, if_true]
  | succ f ih =>
    intro f' t q s s' h hf hf' v s1 hx
    rw [loopP] at hx
    split at hx
    · rename_i hst
      cases hx
      refine ⟨s', ?_, h, Nat.le_refl _, Nat.le_refl _⟩
      cases f' with
      | zero => rfl
      | succ f' =>
        rw [loopP]
        (try dsimp only)
        rw [if_pos]
        rcases hS.hd h with ⟨h1, _⟩ | ⟨_, h2⟩
        · rw [← h1]; exact hst
        · rw [infix_dull h2]; exact .inl rfl
    · rename_i hst
      rcases hS.hd h with ⟨h1, h2⟩ | ⟨h1, _⟩
      · cases hw : w (infixK (nx s.1)).2.2.1 (s.1.tail, s.2) with
        | error k => rw [hw] at hx; cases hx
        | ok us =>
          obtain ⟨u, s2⟩ := us
          rw [hw] at hx
          dsimp only at hx
          obtain ⟨s2', a, b, c, d⟩ := hW _ _ _ h2 u s2 hw
          have hne : s'.1 ≠ [] := fun e => by rw [h1, e, infix_nil] at hst; exact hst (.inl rfl)
          have hne2 : s.1 ≠ [] := fun e => by rw [e, infix_nil] at hst; exact hst (.inl rfl)
          have l1 : s.1.tail.length + 1 = s.1.length := by cases hc : s.1 with | nil => exact absurd hc hne2 | cons => simp
          have l2 : s'.1.tail.length + 1 = s'.1.length := by cases hc : s'.1 with | nil => exact absurd hc hne | cons => simp
          obtain ⟨f', rfl⟩ : ∃ g, f' = g + 1 := ⟨f' - 1, by omega⟩
          dsimp only at c d
          obtain ⟨s3', a3, b3, c3, d3⟩ := ih f' _ _ s2 s2' b (by omega) (by omega) v s1 hx
          refine ⟨s3', ?_, b3, by omega, by omega⟩
          rw [loopP]
          (try dsimp only)
          rw [← h1, if_neg hst, a]
          exact a3
      · rw [infix_dull (.inl h1)] at hst; exact absurd (.inl rfl) hst
theorem rowGo_sim (hS : Sim R) (hW : Sm R w w') : ∀ (f f' : Nat) (l : List T) (s s' : St), R s s' → s.1.length ≤ f → s'.1.length ≤ f' → Ok3 R (rowGo w f l s) (rowGo w' f' l s') s s' := by
  intro f
  induction f with
  | zero =>
    intro f' l s s' h hf hf' v s1 hx
    have hs : s.1 = [] := List.length_eq_zero_iff.1 (by omega)
    rw [rowGo] at hx; cases hx
    refine ⟨s', ?_, h, Nat.le_refl _, Nat.le_refl _⟩
    have hk : isM (nx s'.1) [44] = false := by
      rcases hS.hd h with ⟨h1, _⟩ | ⟨_, h2⟩
      · rw [← h1, hs]; rfl
      · exact isM_dull h2 (by decide)
    cases f' with
    | zero => rfl
    | succ f' => rw [rowGo, hk]; rfl
  | succ f ih =>
    intro f' l s s' h hf hf' v s1 hx
    rw [rowGo] at hx
    split at hx
    · rename_i hst
      rcases hS.hd h with ⟨h1, h2⟩ | ⟨h1, _⟩
      · cases hw : w 999 (s.1.tail, s.2) with
        | error k => rw [hw] at hx; cases hx
        | ok us =>
          obtain ⟨u, s2⟩ := us
          rw [hw] at hx
          dsimp only at hx
          obtain ⟨s2', a, b, c, d⟩ := hW _ _ _ h2 u s2 hw
          have hne : s'.1 ≠ [] := fun e => by rw [h1, e] at hst; exact absurd hst (by decide)
          have hne2 : s.1 ≠ [] := fun e => by rw [e] at hst; exact absurd hst (by decide)
          have l1 : s.1.tail.length + 1 = s.1.length := by cases hc : s.1 with | nil => exact absurd hc hne2 | cons => simp
          have l2 : s'.1.tail.length + 1 = s'.1.length := by cases hc : s'.1 with | nil => exact absurd hc hne | cons => simp
          obtain ⟨f', rfl⟩ : ∃ g, f' = g + 1 := ⟨f' - 1, by omega⟩
          dsimp only at c d
          obtain ⟨s3', a3, b3, c3, d3⟩ := ih f' _ s2 s2' b (by omega) (by omega) v s1 hx
          refine ⟨s3', ?_, b3, by omega, by omega⟩
          rw [rowGo, ← h1, if_pos hst, a]
          exact a3
      · rw [isM_end h1] at hst; exact absurd hst (by decide)
    · rename_i hst
      cases hx
      refine ⟨s', ?_, h, Nat.le_refl _, Nat.le_refl _⟩
      have hk : isM (nx s'.1) [44] = false := by
        rcases hS.hd h with ⟨h1, _⟩ | ⟨_, h2⟩
        · rw [← h1]; simpa using hst
        · exact isM_dull h2 (by decide)
      cases f' with
      | zero => rfl
      | succ f' => rw [rowGo, hk]; rfl
theorem row_sim (hS : Sim R) (hW : Sm R w w') (h : R s s') : Ok3 R (rowP w s) (rowP w' s') s s' := by
  intro v s1 hx
  unfold rowP at hx ⊢
  cases hw : w 999 s with
  | error k => rw [hw] at hx; cases hx
  | ok us =>
    obtain ⟨u, s2⟩ := us
    rw [hw] at hx
    obtain ⟨s2', a, b, c, d⟩ := hW _ _ _ h u s2 hw
    rw [a]
    obtain ⟨s3', a3, b3, c3, d3⟩ := rowGo_sim hS hW _ s2'.1.length _ s2 s2' b (Nat.le_refl _) (Nat.le_refl _) v s1 hx
    exact ⟨s3', a3, b3, by omega, by omega⟩
theorem bracket_sim (hS : Sim R) (hW : Sm R w w') (m : List UInt8) (h : R s s') : Ok3 R (bracketP w m s) (bracketP w' m s') s s' := by
  intro v s1 hx
  unfold bracketP at hx ⊢
  cases hw : w 1200 s with
  | error k => rw [hw] at hx; cases hx
  | ok us =>
    obtain ⟨u, s2⟩ := us
    rw [hw] at hx
    dsimp only at hx
    obtain ⟨s2', a, b, c, d⟩ := hW _ _ _ h u s2 hw
    rw [a]
    dsimp only
    cases he : expectP m s2 with
    | error k => rw [he] at hx; cases hx
    | ok s3 =>
      rw [he] at hx
      cases hx
      obtain ⟨s3', a3, b3, c3, d3⟩ := expect_sim hS b m he
      rw [a3]
      exact ⟨s3', rfl, b3, by omega, by omega⟩
theorem list_sim (hS : Sim R) (hW : Sm R w w') (h : R s s') : Ok3 R (listP w s) (listP w' s') s s' := by
  intro v s1 hx
  unfold listP at hx ⊢
  split at hx
  · rename_i hm
    cases hx
    rcases hS.hd h with ⟨h1, h2⟩ | ⟨h1, _⟩
    · rw [← h1, if_pos hm]; exact ⟨_, rfl, h2, by simp, by simp⟩
    · rw [isM_end h1] at hm; exact absurd hm (by decide)
  · rename_i hm
    have hm' : ¬ isM (nx s'.1) [93] = true := by
      rcases hS.hd h with ⟨h1, _⟩ | ⟨_, h2⟩
      · rw [← h1]; exact hm
      · rw [isM_dull h2 (by decide)]; decide
    rw [if_neg hm']
    cases hr : rowP w s with
    | error k => rw [hr] at hx; cases hx
    | ok ls =>
      obtain ⟨l, s2⟩ := ls
      rw [hr] at hx
      dsimp only at hx
      obtain ⟨s2', a, b, c, d⟩ := row_sim hS hW h l s2 hr
      rw [a]
      dsimp only
      have hq : Ok3 R (if isM (nx s2.1) [124] = true then w 999 (s2.1.tail, s2.2) else .ok (nilT, s2)) (if isM (nx s2'.1) [124] = true then w' 999 (s2'.1.tail, s2'.2) else .ok (nilT, s2')) s2 s2' := by
        rcases hS.hd b with ⟨h1, h2⟩ | ⟨h1, h2⟩
        · rw [← h1]
          split
          · exact (hW 999 _ _ h2).mk' (by simp) (by simp)
          · intro v s3 he; cases he; exact ⟨s2', rfl, b, Nat.le_refl _, Nat.le_refl _⟩
        · rw [isM_end h1, isM_dull h2 (by decide)]
          intro v s3 he; cases he; exact ⟨s2', rfl, b, Nat.le_refl _, Nat.le_refl _⟩
      cases hr2 : (if isM (nx s2.1) [124] = true then w 999 (s2.1.tail, s2.2) else .ok (nilT, s2) : Res T) with
      | error k => rw [hr2] at hx; cases hx
      | ok rs =>
        obtain ⟨r, s3⟩ := rs
        rw [hr2] at hx
        dsimp only at hx
        obtain ⟨s3', a3, b3, c3, d3⟩ := hq r s3 hr2
        rw [a3]
        dsimp only
        cases he : expectP [93] s3 with
        | error k => rw [he] at hx; cases hx
        | ok s4 =>
          rw [he] at hx
          cases hx
          obtain ⟨s4', a4, b4, c4, d4⟩ := expect_sim hS b3 [93] he
          rw [a4]
          exact ⟨s4', rfl, b4, by omega, by omega⟩
theorem tail_len (l : List K) : l.tail.length ≤ l.length := by simp
theorem marked_sim (hS : Sim R) (hW : Sm R w w') (h : R s s') : Ok3 R (markedP w s) (markedP w' s') s s' := by
  rcases hS.hd h with ⟨h1, h2⟩ | ⟨h1, _⟩
  · unfold markedP
    rw [← h1]
    split
    · exact (bracket_sim hS hW [41] h2).mk' (tail_len _) (tail_len _)
    split
    · exact (list_sim hS hW h2).mk' (tail_len _) (tail_len _)
    split
    · intro v s1 hx
      split at hx
      · rename_i hm
        cases hx
        rcases hS.hd h2 with ⟨h3, h4⟩ | ⟨h3, _⟩
        · dsimp only at h3 h4
          rw [← h3, if_pos hm]; exact ⟨_, rfl, h4, Nat.le_trans (tail_len _) (tail_len _), Nat.le_trans (tail_len _) (tail_len _)⟩
        · rw [isM_end h3] at hm; exact absurd hm (by decide)
      · rename_i hm
        have hm' : ¬ isM (nx s'.1.tail) [125] = true := by
          rcases hS.hd h2 with ⟨h3, _⟩ | ⟨_, h3⟩
          · dsimp only at h3; rw [← h3]; exact hm
          · rw [isM_dull h3 (by decide)]; decide
        rw [if_neg hm']
        cases hb : bracketP w [125] (s.1.tail, s.2) with
        | error k => rw [hb] at hx; cases hx
        | ok us =>
          obtain ⟨u, s2⟩ := us
          rw [hb] at hx
          obtain ⟨s2', a, b, c, d⟩ := bracket_sim hS hW [125] h2 u s2 hb
          cases hx
          rw [a]
          exact ⟨s2', rfl, b, Nat.le_trans c (tail_len _), Nat.le_trans d (tail_len _)⟩
    · intro v s1 hx; cases hx
  · intro v s1 hx
    unfold markedP at hx
    rw [isM_end h1, isM_end h1, isM_end h1] at hx
    cases hx
theorem zero_sim {x x' : Res T} (h : Ok3 R x x' s s') : Ok3 R (zeroP x) (zeroP x') s s' := by
  intro v s1 hx
  unfold zeroP at hx
  cases x with
  | error k => cases hx
  | ok us =>
    obtain ⟨u, s2⟩ := us
    cases hx
    obtain ⟨s2', a, b, c, d⟩ := h u s1 rfl
    exact ⟨s2', by rw [a]; rfl, b, c, d⟩
theorem int_sim (_hS : Sim R) (g : List UInt8) (_h : R s s') (h1 : nx s.1 = nx s'.1) (h2 : R (s.1.tail, s.2) (s'.1.tail, s'.2)) : Ok3 R (intP g s) (intP g s') s s' := by
  intro v s1 hx
  unfold intP at hx ⊢
  rw [← h1]
  dsimp only at hx ⊢
  split at hx
  · rename_i hd; cases hx; rw [if_pos hd]; exact ⟨_, rfl, h2, tail_len _, tail_len _⟩
  · rename_i hd
    rw [if_neg hd]
    split at hx
    · rename_i he; cases hx; rw [if_pos he]; exact ⟨_, rfl, h2, tail_len _, tail_len _⟩
    · cases hx
theorem named_sim (hS : Sim R) (hW : Sm R w w') (most : Int) (h1 : nx s.1 = nx s'.1) (h2 : R (s.1.tail, s.2) (s'.1.tail, s'.2)) : Ok3 R (namedP w most s) (namedP w' most s') s s' := by
  have t1 := tail_len s.1
  have t2 := tail_len s'.1
  have t3 := tail_len s.1.tail
  have t4 := tail_len s'.1.tail
  unfold namedP
  rw [← h1]
  dsimp only
  rcases hS.hd h2 with ⟨h3, h4⟩ | ⟨h3, h4⟩
  · dsimp only at h3 h4
    rw [← h3]
    split
    · intro v s1 hx
      cases hr : rowP w (s.1.tail.tail, s.2) with
      | error k => rw [hr] at hx; cases hx
      | ok ls =>
        obtain ⟨l, s2⟩ := ls
        rw [hr] at hx
        dsimp only at hx
        obtain ⟨s2', a, b, c, d⟩ := row_sim hS hW h4 l s2 hr
        rw [a]
        dsimp only at c d ⊢
        cases he : expectP [41] s2 with
        | error k => rw [he] at hx; cases hx
        | ok s3 =>
          rw [he] at hx
          cases hx
          obtain ⟨s3', a3, b3, c3, d3⟩ := expect_sim hS b [41] he
          rw [a3]
          exact ⟨s3', rfl, b3, by omega, by omega⟩
    split
    · exact (zero_sim (int_sim hS [45] h2 h3 h4)).mk' t1 t2
    split
    · intro v s1 hx
      cases hr : w (progP (nx s.1).text).2.1 (s.1.tail, s.2) with
      | error k => rw [hr] at hx; cases hx
      | ok ls =>
        obtain ⟨l, s2⟩ := ls
        rw [hr] at hx
        obtain ⟨s2', a, b, c, d⟩ := hW _ _ _ h2 l s2 hr
        cases hx
        rw [a]
        dsimp only at c d
        exact ⟨s2', rfl, b, by omega, by omega⟩
    · intro v s1 hx; cases hx; exact ⟨_, rfl, h2, t1, t2⟩
  · dsimp only at h3 h4
    have n4 : ¬ (nx s.1.tail).kind = 4 := by omega
    have n3 : ¬ (nx s.1.tail).kind = 3 := by omega
    have n4' : ¬ (nx s'.1.tail).kind = 4 := by rcases h4 with h | ⟨h, _⟩ <;> omega
    have n3' : ¬ (nx s'.1.tail).kind = 3 := by rcases h4 with h | ⟨h, _⟩ <;> omega
    rw [if_neg n4, if_neg n4', mayB_dull h4, mayB_dull (.inl h3)]
    simp only [n3, n3', false_and, and_false, if_false, Bool.false_eq_true]
    intro v s1 hx; cases hx; exact ⟨_, rfl, h2, t1, t2⟩
theorem var_sim (hS : Sim R) (h : R s s') (hk : (nx s.1).kind = 2) (h1 : nx s.1 = nx s'.1) (h2 : R (s.1.tail, s.2) (s'.1.tail, s'.2)) : (varP s).1 = (varP s').1 ∧ R (varP s).2 (varP s').2 ∧ (varP s).2.1.length ≤ s.1.length ∧ (varP s').2.1.length ≤ s'.1.length := by
  unfold varP
  rw [← h1, ← hS.nm h]
  dsimp only
  split
  · have h3 := hS.put h hk h2
    rw [← hS.nm h] at h3
    exact ⟨rfl, h3, tail_len _, tail_len _⟩
  · rw [← hS.nm h] at h2
    exact ⟨rfl, h2, tail_len _, tail_len _⟩
theorem operand_sim (hS : Sim R) (hW : Sm R w w') (most : Int) (h : R s s') : Ok3 R (operandP w most s) (operandP w' most s') s s' := by
  rcases hS.hd h with ⟨h1, h2⟩ | ⟨h1, h2⟩
  · unfold operandP
    rw [← h1]
    dsimp only
    split
    · exact named_sim hS hW most h1 h2
    split
    · rename_i hk
      intro v s1 hx
      cases hx
      obtain ⟨a, b, c, d⟩ := var_sim hS h hk h1 h2
      exact ⟨_, by rw [a], b, c, d⟩
    split
    · exact zero_sim (int_sim hS [] h h1 h2)
    split
    · exact (zero_sim (bracket_sim hS hW [41] h2)).mk' (tail_len _) (tail_len _)
    · exact zero_sim (marked_sim hS hW h)
  · intro v s1 hx
    unfold operandP at hx
    dsimp only at hx
    rw [if_neg (by omega), if_neg (by omega), if_neg (by omega), if_neg (by omega)] at hx
    unfold markedP at hx
    rw [isM_end h1, isM_end h1, isM_end h1] at hx
    cases hx
/-- what is read of one is read of the other, as deep or deeper -/
theorem term_sim (hS : Sim R) : ∀ d d', d ≤ d' → Sm R (termP d) (termP d') := by
  intro d
  induction d with
  | zero => intro d' _ most s s' h v s1 hx; cases hx
  | succ d ih =>
    intro d' hd most s s' h v s1 hx
    obtain ⟨d', rfl⟩ : ∃ g, d' = g + 1 := ⟨d' - 1, by omega⟩
    have hW := ih d' (by omega)
    have e1 : ∀ d most s, termP (d + 1) most s = match operandP (termP d) most s with | .error e => .error e | .ok ((t, prio), s') => loopP (termP d) most s'.1.length t prio s' := fun _ _ _ => rfl
    rw [e1] at hx ⊢
    cases ho : operandP (termP d) most s with
    | error k => rw [ho] at hx; cases hx
    | ok us =>
      obtain ⟨⟨u, q⟩, s2⟩ := us
      rw [ho] at hx
      dsimp only at hx
      obtain ⟨s2', a, b, c, e⟩ := operand_sim hS hW most h _ s2 ho
      rw [a]
      dsimp only
      obtain ⟨s3', a3, b3, c3, d3⟩ := loop_sim hS hW most _ s2'.1.length u q s2 s2' b (Nat.le_refl _) (Nat.le_refl _) v s1 hx
      exact ⟨s3', a3, b3, by omega, by omega⟩
end
/-- the same place -/
theorem sim_eq : Sim (fun s s' => s = s') := ⟨fun h => by rw [h], fun h _ _ => by rw [h], fun h => .inl (by subst h; exact ⟨rfl, rfl⟩)⟩
/-- the same tokens, then Y1, Y2: each with a dull one in front -/
def Rl (Y1 Y2 : List K) (s s' : St) : Prop := ∃ X, s.1 = X ++ Y1 ∧ s'.1 = X ++ Y2 ∧ s.2 = s'.2
theorem sim_rl {Y1 Y2 : List K} (h1 : (nx Y1).kind = 6) (h2 : dull (nx Y2)) : Sim (Rl Y1 Y2) where
  nm := fun ⟨_, _, _, h⟩ => h
  put := by
    rintro ⟨l, n⟩ ⟨l', n'⟩ _ _ ⟨X, a, b, c⟩
    exact ⟨X, a, b, by dsimp only at c ⊢; rw [c]⟩
  hd := by
    rintro ⟨l, n⟩ ⟨l', n'⟩ ⟨X, a, b, c⟩
    dsimp only at a b c ⊢
    subst a b c
    cases X with
    | nil => exact .inr ⟨h1, h2⟩
    | cons x X => exact .inl ⟨rfl, X, rfl, rfl, rfl⟩
/-- what is deeper than enough is no other -/
theorem term_mono {d d' : Nat} (hd : d ≤ d') {most : Int} {s s1 : St} {t : T} (h : termP d most s = .ok (t, s1)) : termP d' most s = .ok (t, s1) ∧ s1.1.length ≤ s.1.length := by
  obtain ⟨s1', a, b, c, _⟩ := term_sim sim_eq d d' hd most s s rfl t s1 h
  exact ⟨by rw [a, b], c⟩
theorem term_ctx {d : Nat} {most : Int} {X Y1 Y2 X' : List K} {n n' : List (List UInt8)} {t : T} (h1 : (nx Y1).kind = 6) (h2 : dull (nx Y2)) (h : termP d most (X ++ Y1, n) = .ok (t, (X' ++ Y1, n'))) :
    termP d most (X ++ Y2, n) = .ok (t, (X' ++ Y2, n')) := by
  obtain ⟨⟨l, m⟩, a, ⟨Z, b, c, e⟩, _⟩ := term_sim (sim_rl h1 h2) d d (Nat.le_refl _) most (X ++ Y1, n) (X ++ Y2, n) ⟨X, rfl, rfl, rfl⟩ t _ h
  dsimp only at b c e
  have hz : X' = Z := List.append_cancel_right b
  subst hz
  rw [a, c, ← e]
end Go.Proofs.Ytpihmockcjdafaa.rd
end
