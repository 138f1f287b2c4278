/- What the laws lean on: both Tokens, as tokens, place and error. -/
import Derived.Test.YtdcggedggngpoaaSame
namespace Go.Proofs.Ytdcggedggngpoaa.lx
open Go.RowKit

def outToks : Out → List Tok
  | .ok ts => ts
  | .bad _ _ => []
def outP : Out → Nat
  | .ok _ => 0
  | .bad p _ => p
def outE : Out → Nat
  | .ok _ => 0
  | .bad _ e => e
/-- the answer o, in memory of its own: tokens, place, error -/
def ToksQ (o : Out) (w : World) (e : Ending) (w' : World) : Prop :=
  ∃ v, e = .returned (.tuple #[v, .int .i64 (outP o : Nat), .int .i64 (outE o : Nat)]) ∧ Tk w.heap.size w' v (outToks o) ∧ Below w.heap.size w w'
theorem toksQ {o : Out} {w : World} {e : Ending} {w' : World} (h : ToksP o w e w') : ToksQ o w e w' := by
  obtain ⟨v, p, k, rfl, hG, hb⟩ := h
  cases o with
  | ok ts => obtain ⟨h1, rfl, rfl⟩ := hG; exact ⟨v, rfl, h1, hb⟩
  | bad q j => obtain ⟨rfl, rfl, rfl⟩ := hG; exact ⟨_, rfl, Tk.nil _ _, hb⟩
/-- lex's Tokens -/
theorem ltoks (s : ByteArray) (w : World) (hg : GM w) (hz : s.size ≤ 9223372036854775807) : Calls Try.prog 8 #[.string s] w (ToksQ (toksD s.data.toList) w) :=
  (tokens_c s w hg hz).mono fun _ _ h => toksQ h
set_option maxRecDepth 100000 in
/-- the reference: Tokens -/
theorem rtoks (s : ByteArray) (w : World) (hz : s.size ≤ 9223372036854775807) : Calls Try.prog 9 #[.string s] w (ToksQ (toksD s.data.toList) w) := by
  have hl : s.data.toList.length = s.size := by simp
  unfold toksD
  rw [hl]
  by_cases hs : s.size > 4096
  · rw [if_pos hs]
    clear hl
    go_enter Try.func9, Try.ntmps9
    go_wp2
    go_ret3
    exact ⟨_, rfl, Tk.nil _ _, Below.refl _ _⟩
  · rw [if_neg hs]
    exact (rtoks_c s w (by omega)).mono fun _ _ h => toksQ h
/-- no more tokens than there may be -/
theorem step_many {ts ts' : List Tok} {n : Nat} {b : UInt8} {m m' : Mode} (h : step 1000 ts n b m = .go ts' m') (hl : ts.length + pend m ≤ 1000) : ts'.length + pend m' ≤ 1000 := by
  have hop : ∀ (T : List Tok), opening T n b = .go ts' m' → T.length < 1000 → ts'.length + pend m' ≤ 1000 := fun T ho hT => by
    unfold opening at ho
    repeat' split at ho
    all_goals (cases ho; simp [pend]; omega)
  have hst : ∀ (T : List Tok), start 1000 T n b = .go ts' m' → T.length ≤ 1000 → ts'.length + pend m' ≤ 1000 := fun T hs hT => by
    unfold start at hs
    split at hs
    · cases hs; simpa [pend] using hT
    split at hs
    · cases hs; simpa [pend] using hT
    split at hs
    · cases hs; simpa [pend] using hT
    split at hs
    · cases hs
    split at hs
    · cases hs
    · exact hop T hs (by omega)
  have hsn : ∀ (t : Tok), ts.length + 1 ≤ 1000 → start 1000 (ts ++ [t]) n b = .go ts' m' → ts'.length + pend m' ≤ 1000 := fun t h1 hs => hst _ hs (by simpa using h1)
  cases m with
  | btw => exact hst ts h (by simpa [pend] using hl)
  | line => simp only [step] at h; split at h <;> cases h <;> simpa [pend] using hl
  | slash f =>
    simp only [step] at h
    simp only [pend] at hl
    split at h
    · cases h; simpa [pend] using hl
    split at h
    · cases h
    split at h
    · cases h; simp [pend]; omega
    · exact hsn _ (by omega) h
  | dot f =>
    simp only [step] at h
    split at h
    · cases h; exact hl
    · exact hsn _ hl h
  | rem f => simp only [step] at h; split at h <;> cases h <;> simpa [pend] using hl
  | star f => simp only [step] at h; (repeat' split at h) <;> cases h <;> simpa [pend] using hl
  | word c f acc =>
    simp only [step] at h
    split at h
    · cases h; exact hl
    · exact hsn _ hl h
  | quo f acc => simp only [step] at h; (repeat' split at h) <;> cases h <;> exact hl
  | quoq f acc =>
    simp only [step] at h
    split at h
    · cases h; exact hl
    · exact hsn _ hl h
  | esc f acc => simp only [step] at h; (repeat' split at h) <;> cases h <;> exact hl
theorem ans_many {out : List Tok} : ∀ (l : List UInt8) (ts : List Tok) (n : Nat) (m : Mode), ts.length + pend m ≤ 1000 → ans 1000 l ts n m = .ok out → out.length ≤ 1000 := by
  intro l
  induction l with
  | nil =>
    intro ts n m hl h
    cases m <;> simp only [ans_nil, fin] at h
    case slash f =>
      split at h <;> cases h
      simp [pend] at hl; simp; omega
    all_goals first | (cases h; done) | (cases h; simpa [pend] using hl)
  | cons b l ih =>
    intro ts n m hl h
    rw [ans_cons] at h
    cases hs : step 1000 ts n b m with
    | go ts' m' => rw [hs] at h; exact ih _ _ _ (step_many hs hl) h
    | bad p e => rw [hs] at h; cases h
theorem outToks_len (l : List UInt8) : (outToks (toksD l)).length ≤ 1000 := by
  unfold toksD
  split
  · exact Nat.zero_le _
  · unfold toks
    cases h : ans 1000 l [] 0 .btw with
    | ok ts => exact ans_many l [] 0 .btw (by simp [pend]) h
    | bad p e => exact Nat.zero_le _
theorem outToks_pl (l : List UInt8) : PlAll l (outToks (toksD l)) := by
  unfold toksD
  split
  · exact plAll_nil l
  · unfold toks
    cases h : ans 1000 l [] 0 .btw with
    | ok ts => exact places h
    | bad p e => exact plAll_nil l
theorem outE_toks (l : List UInt8) : outE (toksD l) = 0 ∨ (outToks (toksD l)).length = 0 := by
  cases toksD l with
  | ok ts => exact .inl rfl
  | bad p e => exact .inr rfl
end Go.Proofs.Ytdcggedggngpoaa.lx
