/- What the machine of modes says of whole texts: places, shifts, limits. Plain lists. -/
import Derived.Test.YtdcggedggngpoaaLex
namespace Go.Proofs.Ytdcggedggngpoaa.lx

/-! ### tokens shifted, and behind others -/
def shT (d : Nat) (t : Tok) : Tok := ⟨t.kind, t.text, t.frm + d, t.to + d⟩
def shM (d : Nat) : Mode → Mode
  | .btw => .btw
  | .line => .line
  | .slash f => .slash (f + d)
  | .dot f => .dot (f + d)
  | .rem f => .rem (f + d)
  | .star f => .star (f + d)
  | .word c f acc => .word c (f + d) acc
  | .quo f acc => .quo (f + d) acc
  | .quoq f acc => .quoq (f + d) acc
  | .esc f acc => .esc (f + d) acc
def shR (T : List Tok) (d : Nat) : R → R
  | .go ts m => .go (T ++ ts.map (shT d)) (shM d m)
  | .bad p e => .bad (p + d) e
def shO (T : List Tok) (d : Nat) : Out → Out
  | .ok ts => .ok (T ++ ts.map (shT d))
  | .bad p e => .bad (p + d) e
/-- the last token of T ends ahead of d -/
def Ahead (T : List Tok) (d : Nat) : Prop := ∀ t, T.getLast? = some t → t.to < d
theorem opens_shift {T : List Tok} {d : Nat} (h : Ahead T d) (ts : List Tok) (n : Nat) : opens (T ++ ts.map (shT d)) (n + d) = opens ts n := by
  unfold opens
  rcases ts.eq_nil_or_concat with rfl | ⟨l, t, rfl⟩
  · simp only [List.map_nil, List.append_nil, List.getLast?_nil]
    cases hT : T.getLast? with
    | none => rfl
    | some t =>
      have := h t hT
      have e : (t.to == n + d) = false := by simp; omega
      simp [e]
  · rw [List.concat_eq_append, List.map_append, ← List.append_assoc]
    simp only [List.map_cons, List.map_nil, List.getLast?_append, List.getLast?_singleton, Option.some_or]
    show ((shT d t).kind == 1 && (shT d t).to == n + d) = (t.kind == 1 && t.to == n)
    simp only [shT]
    congr 1
    rw [Bool.eq_iff_iff]; simp
theorem len_shift (T ts : List Tok) (d M : Nat) (hM : T.length ≤ M) : (T ++ ts.map (shT d)).length = M ↔ ts.length = M - T.length := by
  rw [List.length_append, List.length_map]; omega
theorem opening_shift {T : List Tok} {d : Nat} (h : Ahead T d) (ts : List Tok) (n : Nat) (b : UInt8) : opening (T ++ ts.map (shT d)) (n + d) b = shR T d (opening ts n b) := by
  unfold opening
  rw [opens_shift h]
  by_cases h6 : cl b = 6
  · rw [if_pos h6, if_pos h6]; rfl
  rw [if_neg h6, if_neg h6]
  by_cases h7 : cl b = 7
  · rw [if_pos h7, if_pos h7]; simp [shR, shM, shT]; omega
  rw [if_neg h7, if_neg h7]
  by_cases h8 : cl b = 8
  · rw [if_pos h8, if_pos h8]; simp [shR, shM, shT]; omega
  rw [if_neg h8, if_neg h8]
  by_cases h46 : b = 46
  · rw [if_pos h46, if_pos h46]; rfl
  rw [if_neg h46, if_neg h46]; rfl
theorem start_shift {T : List Tok} {d M : Nat} (h : Ahead T d) (hM : T.length ≤ M) (ts : List Tok) (n : Nat) (b : UInt8) : start M (T ++ ts.map (shT d)) (n + d) b = shR T d (start (M - T.length) ts n b) := by
  unfold start
  rw [opening_shift h]
  by_cases h1 : cl b = 1
  · rw [if_pos h1, if_pos h1]; rfl
  rw [if_neg h1, if_neg h1]
  by_cases h2 : b = 37
  · rw [if_pos h2, if_pos h2]; rfl
  rw [if_neg h2, if_neg h2]
  by_cases h3 : b = 47
  · rw [if_pos h3, if_pos h3]; rfl
  rw [if_neg h3, if_neg h3]
  by_cases h0 : cl b = 0
  · rw [if_pos h0, if_pos h0]; rfl
  rw [if_neg h0, if_neg h0]
  by_cases hl : ts.length = M - T.length
  · rw [if_pos ((len_shift T ts d M hM).2 hl), if_pos hl]; rfl
  rw [if_neg (mt (len_shift T ts d M hM).1 hl), if_neg hl]
theorem snoc_shift (T ts : List Tok) (d : Nat) (t : Tok) : T ++ ts.map (shT d) ++ [shT d t] = T ++ (ts ++ [t]).map (shT d) := by simp
/-- a mode that may stand at n -/
def At (n : Nat) : Mode → Prop
  | .esc _ _ => 1 ≤ n
  | _ => True
theorem step_shift {T : List Tok} {d M : Nat} (h : Ahead T d) (hM : T.length ≤ M) (ts : List Tok) (n : Nat) (b : UInt8) (m : Mode) (hm : At n m) :
    step M (T ++ ts.map (shT d)) (n + d) b (shM d m) = shR T d (step (M - T.length) ts n b m) := by
  have key : ∀ (t : Tok), start M (T ++ ts.map (shT d) ++ [⟨t.kind, t.text, t.frm + d, t.to + d⟩]) (n + d) b = shR T d (start (M - T.length) (ts ++ [t]) n b) := fun t => by
    have := start_shift h hM (ts ++ [t]) n b
    rwa [← snoc_shift] at this
  cases m with
  | btw => exact start_shift h hM ts n b
  | line => simp only [shM, step]; split <;> rfl
  | slash f =>
    simp only [shM, step]
    by_cases h1 : b = 42
    · rw [if_pos h1, if_pos h1]; rfl
    rw [if_neg h1, if_neg h1]
    by_cases hl : ts.length = M - T.length
    · rw [if_pos ((len_shift T ts d M hM).2 hl), if_pos hl]; rfl
    rw [if_neg (mt (len_shift T ts d M hM).1 hl), if_neg hl]
    by_cases h5 : cl b = 5
    · rw [if_pos h5, if_pos h5]; rfl
    rw [if_neg h5, if_neg h5]; exact key ⟨1, [47], f, n⟩
  | dot f =>
    simp only [shM, step]
    by_cases h5 : cl b = 5
    · rw [if_pos h5, if_pos h5]; rfl
    rw [if_neg h5, if_neg h5]; exact key ⟨_, [46], f, n⟩
  | rem f => simp only [shM, step]; split <;> rfl
  | star f =>
    simp only [shM, step]
    split
    · rfl
    · split <;> rfl
  | word c f acc =>
    simp only [shM, step]
    split
    · rfl
    · exact key ⟨_, acc, f, n⟩
  | quo f acc =>
    simp only [shM, step]
    split
    · rfl
    · split
      · rfl
      · split <;> rfl
  | quoq f acc =>
    simp only [shM, step]
    split
    · rfl
    · exact key ⟨1, acc, f, n⟩
  | esc f acc =>
    have h1 : 1 ≤ n := hm
    simp only [shM, step]
    split
    · rfl
    · split
      · rfl
      · split
        · rfl
        · simp only [shR]; congr 1; omega
theorem fin_shift {T : List Tok} {d M : Nat} (hM : T.length ≤ M) (ts : List Tok) (n : Nat) (m : Mode) : fin M (T ++ ts.map (shT d)) (n + d) (shM d m) = shO T d (fin (M - T.length) ts n m) := by
  have key : ∀ (t : Tok), Out.ok (T ++ ts.map (shT d) ++ [⟨t.kind, t.text, t.frm + d, t.to + d⟩]) = shO T d (.ok (ts ++ [t])) := fun t => by
    have := snoc_shift T ts d t
    simp only [shT] at this
    simp only [shO]; rw [this]
  cases m with
  | slash f =>
    simp only [shM, fin]
    by_cases hl : ts.length = M - T.length
    · rw [if_pos ((len_shift T ts d M hM).2 hl), if_pos hl]; rfl
    rw [if_neg (mt (len_shift T ts d M hM).1 hl), if_neg hl]; exact key ⟨1, [47], f, n⟩
  | dot f => exact key ⟨6, [46], f, n⟩
  | word c f acc => exact key ⟨_, acc, f, n⟩
  | quoq f acc => exact key ⟨1, acc, f, n⟩
  | btw => rfl
  | line => rfl
  | rem f => rfl
  | star f => rfl
  | quo f acc => rfl
  | esc f acc => rfl
theorem ans_shift {T : List Tok} {d M : Nat} (h : Ahead T d) (hM : T.length ≤ M) : ∀ (l : List UInt8) (ts : List Tok) (n : Nat) (m : Mode), At n m →
    ans M l (T ++ ts.map (shT d)) (n + d) (shM d m) = shO T d (ans (M - T.length) l ts n m) := by
  intro l
  induction l with
  | nil => intro ts n m _; exact fin_shift hM ts n m
  | cons b l ih =>
    intro ts n m hm
    rw [ans_cons, ans_cons, step_shift h hM ts n b m hm]
    cases hs : step (M - T.length) ts n b m with
    | go ts' m' =>
      simp only [shR]
      rw [show n + d + 1 = n + 1 + d from by omega]
      exact ih ts' (n + 1) m' (by cases m' <;> simp [At])
    | bad p e => rfl

/-! ### no more tokens than there may be -/
def pend : Mode → Nat
  | .dot _ => 1
  | .word _ _ _ => 1
  | .quo _ _ => 1
  | .quoq _ _ => 1
  | .esc _ _ => 1
  | _ => 0
theorem opening_more {ts ts' : List Tok} {n : Nat} {b : UInt8} {m' : Mode} (h : opening ts n b = .go ts' m') : ts.length + 1 ≤ ts'.length + pend m' := by
  unfold opening at h
  split at h
  · cases h; exact Nat.le_refl _
  · split at h
    · cases h; simp [pend]
    · split at h
      · cases h; simp [pend]
      · split at h <;> cases h <;> exact Nat.le_refl _
theorem opening_go (ts : List Tok) (n : Nat) (b : UInt8) : ∃ ts' m', opening ts n b = .go ts' m' := by
  unfold opening
  repeat' split
  all_goals exact ⟨_, _, rfl⟩
/-- with fewer tokens let in: the same, as long as they are enough -/
theorem start_less {M M' : Nat} {ts ts' : List Tok} {n : Nat} {b : UInt8} {m' : Mode} (h : start M ts n b = .go ts' m') : ts.length ≤ ts'.length + pend m' ∧ (ts'.length + pend m' ≤ M' → start M' ts n b = .go ts' m') := by
  unfold start at h ⊢
  by_cases h1 : cl b = 1
  · rw [if_pos h1] at h ⊢; cases h; exact ⟨by simp [pend], fun _ => rfl⟩
  rw [if_neg h1] at h ⊢
  by_cases h2 : b = 37
  · rw [if_pos h2] at h ⊢; cases h; exact ⟨by simp [pend], fun _ => rfl⟩
  rw [if_neg h2] at h ⊢
  by_cases h3 : b = 47
  · rw [if_pos h3] at h ⊢; cases h; exact ⟨by simp [pend], fun _ => rfl⟩
  rw [if_neg h3] at h ⊢
  by_cases h0 : cl b = 0
  · rw [if_pos h0] at h; cases h
  rw [if_neg h0] at h ⊢
  by_cases hl : ts.length = M
  · rw [if_pos hl] at h; cases h
  rw [if_neg hl] at h
  have hm := opening_more h
  exact ⟨by omega, fun hle => by rw [if_neg (by omega)]; exact h⟩
theorem step_less {M M' : Nat} {ts ts' : List Tok} {n : Nat} {b : UInt8} {m m' : Mode} (h : step M ts n b m = .go ts' m') :
    ts.length + pend m ≤ ts'.length + pend m' ∧ (ts'.length + pend m' ≤ M' → step M' ts n b m = .go ts' m') := by
  cases m with
  | btw => exact start_less h
  | line => simp only [step] at h ⊢; split at h <;> cases h <;> simp_all [pend]
  | slash f =>
    simp only [step] at h ⊢
    by_cases h1 : b = 42
    · rw [if_pos h1] at h ⊢; cases h; exact ⟨by simp [pend], fun _ => rfl⟩
    rw [if_neg h1] at h ⊢
    by_cases hl : ts.length = M
    · rw [if_pos hl] at h; cases h
    rw [if_neg hl] at h
    by_cases h5 : cl b = 5
    · rw [if_pos h5] at h ⊢; cases h
      exact ⟨by simp [pend], fun hle => by rw [if_neg (by simp [pend] at hle; omega)]⟩
    rw [if_neg h5] at h ⊢
    obtain ⟨k1, k2⟩ := start_less (M' := M') h
    rw [List.length_append, List.length_singleton] at k1
    exact ⟨by show ts.length + 0 ≤ _; omega, fun hle => by rw [if_neg (by omega)]; exact k2 hle⟩
  | dot f =>
    simp only [step] at h ⊢
    by_cases h5 : cl b = 5
    · rw [if_pos h5] at h ⊢; cases h; exact ⟨Nat.le_refl _, fun _ => rfl⟩
    rw [if_neg h5] at h ⊢
    obtain ⟨k1, k2⟩ := start_less (M' := M') h
    rw [List.length_append, List.length_singleton] at k1
    exact ⟨k1, k2⟩
  | rem f => simp only [step] at h ⊢; split at h <;> cases h <;> simp_all [pend]
  | star f =>
    simp only [step] at h ⊢
    split at h
    · cases h; simp_all [pend]
    · split at h <;> cases h <;> simp_all [pend]
  | word c f acc =>
    simp only [step] at h ⊢
    by_cases h5 : joinB c (cl b) = true
    · rw [if_pos h5] at h ⊢; cases h; exact ⟨Nat.le_refl _, fun _ => rfl⟩
    rw [if_neg h5] at h ⊢
    obtain ⟨k1, k2⟩ := start_less (M' := M') h
    rw [List.length_append, List.length_singleton] at k1
    exact ⟨k1, k2⟩
  | quo f acc =>
    simp only [step] at h ⊢
    split at h
    · cases h; simp_all [pend]
    · split at h
      · cases h; simp_all [pend]
      · split at h <;> cases h; simp_all [pend]
  | quoq f acc =>
    simp only [step] at h ⊢
    by_cases h5 : b = 39
    · rw [if_pos h5] at h ⊢; cases h; exact ⟨Nat.le_refl _, fun _ => rfl⟩
    rw [if_neg h5] at h ⊢
    obtain ⟨k1, k2⟩ := start_less (M' := M') h
    rw [List.length_append, List.length_singleton] at k1
    exact ⟨k1, k2⟩
  | esc f acc =>
    simp only [step] at h ⊢
    split at h
    · cases h; simp_all [pend]
    · split at h
      · cases h; simp_all [pend]
      · split at h <;> cases h; simp_all [pend]
theorem fin_less {M M' : Nat} {ts out : List Tok} {n : Nat} {m : Mode} (h : fin M ts n m = .ok out) : ts.length + pend m ≤ out.length ∧ (out.length ≤ M' → fin M' ts n m = .ok out) := by
  cases m <;> simp only [fin] at h ⊢
  case slash f =>
    split at h
    · cases h
    · cases h
      exact ⟨by simp [pend], fun hle => by rw [if_neg (by simp at hle; omega)]⟩
  all_goals first | (cases h; done) | (cases h; simp [pend])
theorem ans_less {M M' : Nat} {out : List Tok} : ∀ (l : List UInt8) (ts : List Tok) (n : Nat) (m : Mode), ans M l ts n m = .ok out → ts.length + pend m ≤ out.length ∧ (out.length ≤ M' → ans M' l ts n m = .ok out) := by
  intro l
  induction l with
  | nil => intro ts n m h; exact fin_less h
  | cons b l ih =>
    intro ts n m h
    rw [ans_cons] at h ⊢
    cases hs : step M ts n b m with
    | bad p e => rw [hs] at h; cases h
    | go ts' m' =>
      rw [hs] at h
      obtain ⟨k1, k2⟩ := ih ts' (n + 1) m' h
      obtain ⟨s1, s2⟩ := step_less (M' := M') hs
      exact ⟨by omega, fun hle => by rw [s2 (by omega)]; exact k2 hle⟩

theorem run_shift {T : List Tok} {d M : Nat} (h : Ahead T d) (hM : T.length ≤ M) : ∀ (l : List UInt8) (ts : List Tok) (n : Nat) (m : Mode), At n m → ∀ ts' m', run (M - T.length) l ts n m = .go ts' m' →
    run M l (T ++ ts.map (shT d)) (n + d) (shM d m) = .go (T ++ ts'.map (shT d)) (shM d m') := by
  intro l
  induction l with
  | nil => intro ts n m _ ts' m' hr; cases hr; rfl
  | cons b l ih =>
    intro ts n m hm ts' m' hr
    rw [run] at hr ⊢
    rw [step_shift h hM ts n b m hm]
    cases hs : step (M - T.length) ts n b m with
    | go ts1 m1 =>
      rw [hs] at hr
      simp only [shR]
      rw [show n + d + 1 = n + 1 + d from by omega]
      exact ih ts1 (n + 1) m1 (by cases m1 <;> simp [At]) ts' m' hr
    | bad p e => rw [hs] at hr; cases hr
theorem run_more {M : Nat} : ∀ (l : List UInt8) (ts : List Tok) (n : Nat) (m : Mode) (ts' : List Tok) (m' : Mode), run M l ts n m = .go ts' m' → ts.length + pend m ≤ ts'.length + pend m' := by
  intro l
  induction l with
  | nil => intro ts n m ts' m' hr; cases hr; exact Nat.le_refl _
  | cons b l ih =>
    intro ts n m ts' m' hr
    rw [run] at hr
    cases hs : step M ts n b m with
    | go ts1 m1 => rw [hs] at hr; exact Nat.le_trans (step_less (M' := M) hs).1 (ih _ _ _ _ _ hr)
    | bad p e => rw [hs] at hr; cases hr
theorem run_less {M M' : Nat} : ∀ (l : List UInt8) (ts : List Tok) (n : Nat) (m : Mode) (ts' : List Tok) (m' : Mode), run M l ts n m = .go ts' m' → ts'.length + pend m' ≤ M' → run M' l ts n m = .go ts' m' := by
  intro l
  induction l with
  | nil => intro ts n m ts' m' hr _; exact hr
  | cons b l ih =>
    intro ts n m ts' m' hr hle
    rw [run] at hr ⊢
    cases hs : step M ts n b m with
    | go ts1 m1 =>
      rw [hs] at hr
      rw [(step_less (M' := M') hs).2 (Nat.le_trans (run_more _ _ _ _ _ _ hr) hle)]
      exact ih _ _ _ _ _ hr hle
    | bad p e => rw [hs] at hr; cases hr
end Go.Proofs.Ytdcggedggngpoaa.lx
