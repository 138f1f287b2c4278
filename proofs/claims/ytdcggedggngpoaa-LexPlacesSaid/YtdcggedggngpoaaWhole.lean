/- Texts one behind the other; quoted names. Plain lists. -/
import Derived.Test.YtdcggedggngpoaaPlace
namespace Go.Proofs.Ytdcggedggngpoaa.lx

/-! ### one text behind another -/
/-- the state behind a text that is tokens: a line feed comes next -/
theorem fin_feed {M : Nat} {ts a : List Tok} {n : Nat} {m : Mode} (h : fin M ts n m = .ok a) : step M ts n 10 m = .go a .btw := by
  have hst : ∀ (T : List Tok), start M T n 10 = .go T .btw := fun T => by unfold start; rw [if_pos (by decide)]
  cases m <;> simp only [fin] at h <;> simp only [step]
  case btw => cases h; exact hst _
  case line => cases h; rfl
  case slash f =>
    split at h
    · cases h
    · rename_i hl; cases h; rw [if_neg (by decide), if_neg hl, if_neg (by decide)]; exact hst _
  case dot f => cases h; rw [if_neg (by decide), if_pos (.inl (by decide))]; exact hst _
  case word c f acc =>
    cases h
    rw [if_neg, hst]
    have : joinB c (cl 10) = false := by
      unfold joinB
      repeat' split
      · decide
      · rename_i hc; rcases hc with rfl | rfl <;> decide
      · rfl
    rw [this]; decide
  case quoq f acc => cases h; rw [if_neg (by decide)]; exact hst _
  all_goals cases h
/-- .. a blank that is no line feed -/
theorem fin_blank {M : Nat} {ts a : List Tok} {n : Nat} {m : Mode} (h : fin M ts n m = .ok a) (hm : m ≠ .line) : step M ts n 32 m = .go a .btw := by
  have hst : ∀ (T : List Tok), start M T n 32 = .go T .btw := fun T => by unfold start; rw [if_pos (by decide)]
  cases m <;> simp only [fin] at h <;> simp only [step]
  case btw => cases h; exact hst _
  case line => exact absurd rfl hm
  case slash f =>
    split at h
    · cases h
    · rename_i hl; cases h; rw [if_neg (by decide), if_neg hl, if_neg (by decide)]; exact hst _
  case dot f => cases h; rw [if_neg (by decide), if_pos (.inl (by decide))]; exact hst _
  case word c f acc =>
    cases h
    rw [if_neg, hst]
    have : joinB c (cl 32) = false := by
      unfold joinB
      repeat' split
      · decide
      · rename_i hc; rcases hc with rfl | rfl <;> decide
      · rfl
    rw [this]; decide
  case quoq f acc => cases h; rw [if_neg (by decide)]; exact hst _
  all_goals cases h
theorem run_of {M : Nat} {l : List UInt8} {a : List Tok} (h : ans M l [] 0 .btw = .ok a) : ∃ ts m, run M l [] 0 .btw = .go ts m ∧ fin M ts l.length m = .ok a := by
  rw [ans_run] at h
  cases hr : run M l [] 0 .btw with
  | bad p e => rw [hr] at h; cases h
  | go ts m => rw [hr] at h; rw [Nat.zero_add] at h; exact ⟨ts, m, rfl, h⟩
theorem ahead_of {l : List UInt8} {a : List Tok} {d : Nat} (h : PlAll l a) (hd : l.length < d) : Ahead a d := by
  intro t ht
  have := plAll_last h
  unfold lastTo at this
  rw [ht] at this
  simp only at this
  omega
/-- from between two tokens on, behind others, a text is what it is alone -/
theorem ans_behind {T b : List Tok} {d : Nat} {l : List UInt8} (h : Ahead T d) (hl : toks l = .ok b) (hn : T.length + b.length ≤ 1000) : ans 1000 l T d .btw = .ok (T ++ b.map (shT d)) := by
  have h1 := (ans_less (M' := 1000 - T.length) l [] 0 .btw hl).2 (by omega)
  have h2 := ans_shift h (M := 1000) (by omega) l [] 0 .btw trivial
  rw [h1, List.map_nil, List.append_nil, Nat.zero_add] at h2
  exact h2
/-- P3.1: two texts with a line feed between -/
theorem between_feed {s t : List UInt8} {a b : List Tok} (hs : toks s = .ok a) (ht : toks t = .ok b) (hn : a.length + b.length ≤ 1000) : toks (s ++ 10 :: t) = .ok (a ++ b.map (shT (s.length + 1))) := by
  obtain ⟨ts, m, hr, hf⟩ := run_of hs
  unfold toks
  rw [ans_append, hr]
  simp only
  rw [Nat.zero_add, ans_cons, fin_feed hf]
  exact ans_behind (ahead_of (places hs) (by omega)) ht hn

/-! ### notes -/
theorem ans_line_all (M : Nat) (k l : List UInt8) (ts : List Tok) (n : Nat) (h : ∀ b ∈ k, b ≠ 10) : ans M (k ++ 10 :: l) ts n .line = ans M l ts (n + k.length + 1) .btw := by
  rw [ans_line M k _ ts n h, ans_cons, step, if_pos rfl]
theorem ans_space (M : Nat) (l : List UInt8) (ts : List Tok) (n : Nat) : ans M (32 :: l) ts n .btw = ans M l ts (n + 1) .btw := by
  rw [ans_cons, step, start, if_pos (by decide)]
theorem ans_rem_plain (M f : Nat) (k l : List UInt8) (ts : List Tok) (n : Nat) (h : ∀ b ∈ k, b ≠ 42) : ans M (k ++ 42 :: 47 :: l) ts n (.rem f) = ans M l ts (n + k.length + 2) .btw := by
  induction k generalizing n with
  | nil => rw [List.nil_append, ans_cons, step, if_pos rfl]; simp only; rw [ans_cons, step, if_pos rfl]; rfl
  | cons b k ih =>
    rw [List.cons_append, ans_cons, step, if_neg (h b (by simp))]
    simp only [ih (n + 1) (fun c hc => h c (by simp [hc]))]
    rw [List.length_cons, show n + (k.length + 1) + 2 = n + 1 + k.length + 2 from by omega]
theorem ans_remark2 (M : Nat) (l : List UInt8) (ts : List Tok) (n : Nat) : ans M (47 :: 42 :: l) ts n .btw = ans M l ts (n + 2) (.rem n) := by
  rw [ans_cons, step, start, if_neg (by decide), if_neg (by decide), if_pos rfl]
  simp only
  rw [ans_cons, step, if_pos rfl]
theorem ans_pct (M : Nat) (l : List UInt8) (ts : List Tok) (n : Nat) : ans M (37 :: l) ts n .btw = ans M l ts (n + 1) .line := by
  rw [ans_cons, step, start, if_neg (by decide), if_pos rfl]
theorem notes_plain {s : List UInt8} {a : List Tok} (hs : toks s = .ok a) (t : List UInt8) : toks (s ++ 32 :: 10 :: 32 :: t) = ans 1000 t a (s.length + 3) .btw := by
  obtain ⟨ts, m, hr, hf⟩ := run_of hs
  unfold toks
  rw [ans_append, hr]
  simp only
  rw [Nat.zero_add]
  by_cases hm : m = .line
  · subst hm
    cases hf
    rw [ans_cons, step, if_neg (by decide)]; simp only
    rw [ans_cons, step, if_pos rfl]; simp only
    rw [ans_space]
  · rw [ans_cons, fin_blank hf hm]; simp only
    rw [ans_cons, step, start, if_pos (by decide)]; simp only
    rw [ans_space]
theorem notes_full {s k : List UInt8} {a : List Tok} (hs : toks s = .ok a) (h10 : ∀ b ∈ k, b ≠ 10) (h42 : ∀ b ∈ k, b ≠ 42) (t : List UInt8) :
    toks (s ++ (32 :: 47 :: 42 :: (k ++ (42 :: 47 :: 32 :: 37 :: (k ++ (10 :: 32 :: t)))))) = ans 1000 t a (s.length + (2 * k.length + 9)) .btw := by
  obtain ⟨ts, m, hr, hf⟩ := run_of hs
  unfold toks
  rw [ans_append, hr]
  simp only
  rw [Nat.zero_add]
  by_cases hm : m = .line
  · subst hm
    cases hf
    have e : (32 :: 47 :: 42 :: (k ++ (42 :: 47 :: 32 :: 37 :: (k ++ (10 :: 32 :: t)))) : List UInt8) = (32 :: 47 :: 42 :: (k ++ (42 :: 47 :: 32 :: 37 :: k))) ++ 10 :: 32 :: t := by simp
    rw [e, ans_line_all _ _ _ _ _ (by
      intro b hb
      simp only [List.mem_cons, List.mem_append] at hb
      rcases hb with rfl | rfl | rfl | hb | rfl | rfl | rfl | rfl | hb
      all_goals first | decide | exact h10 b hb), ans_space]
    congr 1
    simp; omega
  · rw [ans_cons, fin_blank hf hm]; simp only
    rw [ans_remark2, ans_rem_plain _ _ _ _ _ _ h42, ans_space, ans_pct, ans_line_all _ _ _ _ _ h10, ans_space]
    congr 1
    omega
end Go.Proofs.Ytdcggedggngpoaa.lx
