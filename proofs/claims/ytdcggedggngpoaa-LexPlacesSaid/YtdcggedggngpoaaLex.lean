/- A text as tokens: the document's answer as a machine of modes, byte by byte: plain lists, no program in sight. -/
import Derived.WalkKit
namespace Go.Proofs.Ytdcggedggngpoaa.lx

/-- a token: its kind, its text, the place of its first byte, and of the one behind it -/
structure Tok where
  kind : Nat
  text : List UInt8
  frm : Nat
  to : Nat
deriving DecidableEq

/-- the classes of bytes: 0 none, 1 blank, 2 small, 3 great, 4 digit, 5 sign, 6 quote, 7 alone, 8 mark -/
def cls (c : Nat) : Nat :=
  if 97 ≤ c ∧ c ≤ 122 then 2
  else if (65 ≤ c ∧ c ≤ 90) ∨ c = 95 then 3
  else if 48 ≤ c ∧ c ≤ 57 then 4
  else if c = 32 ∨ c = 9 ∨ c = 10 ∨ c = 13 then 1
  else if c = 43 ∨ c = 45 ∨ c = 42 ∨ c = 47 ∨ c = 92 ∨ c = 94 ∨ c = 60 ∨ c = 62 ∨ c = 61 ∨ c = 58 ∨ c = 46 ∨ c = 63 ∨ c = 64 ∨ c = 35 ∨ c = 36 ∨ c = 38 ∨ c = 126 then 5
  else if c = 39 then 6
  else if c = 33 ∨ c = 59 then 7
  else if c = 40 ∨ c = 41 ∨ c = 91 ∨ c = 93 ∨ c = 123 ∨ c = 125 ∨ c = 44 ∨ c = 124 then 8
  else 0
abbrev cl (b : UInt8) : Nat := cls b.toNat

/-- a byte of class y goes on with what one of class x began -/
def joinB (x y : Nat) : Bool :=
  if x = 2 ∨ x = 3 then y == 2 || y == 3 || y == 4 else if x = 4 ∨ x = 5 then y == x else false

inductive Mode where
  | btw
  | line
  | slash (f : Nat)
  | dot (f : Nat)
  | rem (f : Nat)
  | star (f : Nat)
  | word (c f : Nat) (acc : List UInt8)
  | quo (f : Nat) (acc : List UInt8)
  | quoq (f : Nat) (acc : List UInt8)
  | esc (f : Nat) (acc : List UInt8)

inductive R where
  | go (ts : List Tok) (m : Mode)
  | bad (p e : Nat)

inductive Out where
  | ok (ts : List Tok)
  | bad (p e : Nat)

/-- a '(' at the place n opens what stands right ahead of it -/
def opens (ts : List Tok) (n : Nat) : Bool := match ts.getLast? with
  | some t => t.kind == 1 && t.to == n
  | none => false

/-- the kind of a word by its class -/
def kindOf (c : Nat) : Nat := if c = 3 then 2 else if c = 4 then 3 else 1

def opening (ts : List Tok) (n : Nat) (b : UInt8) : R :=
  if cl b = 6 then .go ts (.quo n [])
  else if cl b = 7 then .go (ts ++ [⟨1, [b], n, n + 1⟩]) .btw
  else if cl b = 8 then .go (ts ++ [⟨if b = 40 ∧ opens ts n = true then 4 else 5, [b], n, n + 1⟩]) .btw
  else if b = 46 then .go ts (.dot n)
  else .go ts (.word (cl b) n [b])

/-- a byte at the place n, between tokens; no more than M tokens -/
def start (M : Nat) (ts : List Tok) (n : Nat) (b : UInt8) : R :=
  if cl b = 1 then .go ts .btw
  else if b = 37 then .go ts .line
  else if b = 47 then .go ts (.slash n)
  else if cl b = 0 then .bad n 30
  else if ts.length = M then .bad n 34
  else opening ts n b

def step (M : Nat) (ts : List Tok) (n : Nat) (b : UInt8) : Mode → R
  | .btw => start M ts n b
  | .line => if b = 10 then .go ts .btw else .go ts .line
  | .slash f => if b = 42 then .go ts (.rem f) else if ts.length = M then .bad f 34 else if cl b = 5 then .go ts (.word 5 f [47, b]) else start M (ts ++ [⟨1, [47], f, n⟩]) n b
  | .dot f => if cl b = 5 then .go ts (.word 5 f [46, b]) else start M (ts ++ [⟨if cl b = 1 ∨ b = 37 then 6 else 1, [46], f, n⟩]) n b
  | .rem f => if b = 42 then .go ts (.star f) else .go ts (.rem f)
  | .star f => if b = 47 then .go ts .btw else if b = 42 then .go ts (.star f) else .go ts (.rem f)
  | .word c f acc => if joinB c (cl b) = true then .go ts (.word c f (acc ++ [b])) else start M (ts ++ [⟨kindOf c, acc, f, n⟩]) n b
  | .quo f acc => if b = 39 then .go ts (.quoq f acc) else if b = 92 then .go ts (.esc f acc) else if b.toNat < 32 ∨ 126 < b.toNat then .bad n 30 else .go ts (.quo f (acc ++ [b]))
  | .quoq f acc => if b = 39 then .go ts (.quo f (acc ++ [39])) else start M (ts ++ [⟨1, acc, f, n⟩]) n b
  | .esc f acc => if b = 110 then .go ts (.quo f (acc ++ [10])) else if b = 116 then .go ts (.quo f (acc ++ [9])) else if b = 92 ∨ b = 39 then .go ts (.quo f (acc ++ [b])) else .bad (n - 1) 32

def fin (M : Nat) (ts : List Tok) (n : Nat) : Mode → Out
  | .btw => .ok ts
  | .line => .ok ts
  | .slash f => if ts.length = M then .bad f 34 else .ok (ts ++ [⟨1, [47], f, n⟩])
  | .dot f => .ok (ts ++ [⟨6, [46], f, n⟩])
  | .rem f => .bad f 31
  | .star f => .bad f 31
  | .word c f acc => .ok (ts ++ [⟨kindOf c, acc, f, n⟩])
  | .quo f _ => .bad f 31
  | .quoq f acc => .ok (ts ++ [⟨1, acc, f, n⟩])
  | .esc f _ => .bad f 31

def ans (M : Nat) : List UInt8 → List Tok → Nat → Mode → Out
  | [], ts, n, m => fin M ts n m
  | b :: l, ts, n, m => match step M ts n b m with
    | .go ts' m' => ans M l ts' (n + 1) m'
    | .bad p e => .bad p e

/-- the state behind the bytes l -/
def run (M : Nat) : List UInt8 → List Tok → Nat → Mode → R
  | [], ts, _, m => .go ts m
  | b :: l, ts, n, m => match step M ts n b m with
    | .go ts' m' => run M l ts' (n + 1) m'
    | .bad p e => .bad p e

theorem ans_nil (M : Nat) (ts : List Tok) (n : Nat) (m : Mode) : ans M [] ts n m = fin M ts n m := rfl
theorem ans_cons (M : Nat) (b : UInt8) (l : List UInt8) (ts : List Tok) (n : Nat) (m : Mode) :
    ans M (b :: l) ts n m = match step M ts n b m with | .go ts' m' => ans M l ts' (n + 1) m' | .bad p e => .bad p e := rfl
theorem ans_append (M : Nat) (k l : List UInt8) (ts : List Tok) (n : Nat) (m : Mode) :
    ans M (k ++ l) ts n m = match run M k ts n m with | .go ts' m' => ans M l ts' (n + k.length) m' | .bad p e => .bad p e := by
  induction k generalizing ts n m with
  | nil => rfl
  | cons b k ih =>
    rw [List.cons_append, ans_cons, run]
    cases h : step M ts n b m with
    | go ts' m' => simp only [ih]; rw [List.length_cons, show n + (k.length + 1) = n + 1 + k.length from by omega]
    | bad p e => rfl
theorem ans_run (M : Nat) (l : List UInt8) (ts : List Tok) (n : Nat) (m : Mode) :
    ans M l ts n m = match run M l ts n m with | .go ts' m' => fin M ts' (n + l.length) m' | .bad p e => .bad p e := by
  have := ans_append M l [] ts n m
  rw [List.append_nil] at this
  rw [this]; rfl

/-- the document's answer for a whole text (of few bytes) -/
def toks (l : List UInt8) : Out := ans 1000 l [] 0 .btw

/-! ### many bytes at once -/
/-- a line's rest -/
theorem ans_line (M : Nat) (k l : List UInt8) (ts : List Tok) (n : Nat) (h : ∀ b ∈ k, b ≠ 10) : ans M (k ++ l) ts n .line = ans M l ts (n + k.length) .line := by
  induction k generalizing n with
  | nil => rfl
  | cons b k ih =>
    rw [List.cons_append, ans_cons, step, if_neg (h b (by simp))]
    simp only [ih (n + 1) (fun c hc => h c (by simp [hc]))]
    rw [List.length_cons, show n + (k.length + 1) = n + 1 + k.length from by omega]
theorem ans_line_end (M : Nat) (l : List UInt8) (ts : List Tok) (n : Nat) : ans M (10 :: l) ts n .line = ans M (10 :: l) ts n .btw := by
  rw [ans_cons, ans_cons, step, step, start, if_pos rfl, if_pos (by decide)]
theorem ans_word (M c f : Nat) (k l : List UInt8) (acc : List UInt8) (ts : List Tok) (n : Nat) (h : ∀ b ∈ k, joinB c (cl b) = true) :
    ans M (k ++ l) ts n (.word c f acc) = ans M l ts (n + k.length) (.word c f (acc ++ k)) := by
  induction k generalizing n acc with
  | nil => rw [List.append_nil]; rfl
  | cons b k ih =>
    rw [List.cons_append, ans_cons, step, if_pos (h b (by simp))]
    simp only [ih (acc ++ [b]) (n + 1) (fun c hc => h c (by simp [hc]))]
    rw [List.length_cons, show n + (k.length + 1) = n + 1 + k.length from by omega, List.append_assoc]; rfl
/-- a word is at its end -/
theorem ans_word_end (M c f : Nat) (l : List UInt8) (acc : List UInt8) (ts : List Tok) (n : Nat) (h : ∀ b r, l = b :: r → joinB c (cl b) = false) :
    ans M l ts n (.word c f acc) = ans M l (ts ++ [⟨kindOf c, acc, f, n⟩]) n .btw := by
  cases l with
  | nil => rfl
  | cons b r => rw [ans_cons, ans_cons, step, step, if_neg (by rw [h b r rfl]; decide)]

/-- the first '*/' -/
def cutRem : List UInt8 → Option (List UInt8)
  | [] => none
  | [_] => none
  | a :: b :: r => if a = 42 ∧ b = 47 then some r else cutRem (b :: r)
theorem ans_rem (M f : Nat) (ts : List Tok) : ∀ (l : List UInt8) (n : Nat),
    (∀ r, cutRem l = some r → ans M l ts n (.rem f) = ans M r ts (n + l.length - r.length) .btw ∧ r.length + 2 ≤ l.length) ∧
    (cutRem l = none → ans M l ts n (.rem f) = .bad f 31) ∧
    (∀ r, cutRem (42 :: l) = some r → ans M l ts n (.star f) = ans M r ts (n + l.length - r.length) .btw ∧ r.length + 1 ≤ l.length) ∧
    (cutRem (42 :: l) = none → ans M l ts n (.star f) = .bad f 31) := by
  intro l
  induction l with
  | nil =>
    intro n
    refine ⟨fun r h => ?_, fun _ => rfl, fun r h => ?_, fun _ => rfl⟩ <;> simp [cutRem] at h
  | cons a l ih =>
    intro n
    obtain ⟨h1, h2, h3, h4⟩ := ih (n + 1)
    have key : (∀ r, cutRem (a :: l) = some r → ans M (a :: l) ts n (.rem f) = ans M r ts (n + (a :: l).length - r.length) .btw ∧ r.length + 2 ≤ (a :: l).length) ∧
        (cutRem (a :: l) = none → ans M (a :: l) ts n (.rem f) = .bad f 31) := by
      by_cases ha : a = 42
      · subst ha
        constructor
        · intro r hr
          obtain ⟨e, hl⟩ := h3 r hr
          rw [ans_cons, step, if_pos rfl]
          simp only [e, List.length_cons]
          exact ⟨by rw [show n + 1 + l.length - r.length = n + (l.length + 1) - r.length from by omega], by omega⟩
        · intro hr
          rw [ans_cons, step, if_pos rfl]; exact h4 hr
      · have hc : cutRem (a :: l) = cutRem l := by
          cases l with
          | nil => simp [cutRem]
          | cons b r => rw [cutRem, if_neg (fun h => ha h.1)]
        constructor
        · intro r hr
          obtain ⟨e, hl⟩ := h1 r (hc ▸ hr)
          rw [ans_cons, step, if_neg ha]
          simp only [e, List.length_cons]
          exact ⟨by rw [show n + 1 + l.length - r.length = n + (l.length + 1) - r.length from by omega], by omega⟩
        · intro hr
          rw [ans_cons, step, if_neg ha]; exact h2 (hc ▸ hr)
    refine ⟨key.1, key.2, ?_, ?_⟩
    · intro r hr
      rw [cutRem] at hr
      by_cases ha : a = 47
      · rw [if_pos ⟨rfl, ha⟩] at hr
        cases hr
        rw [ans_cons, step, if_pos ha]
        exact ⟨by simp only [List.length_cons]; rw [show n + (l.length + 1) - l.length = n + 1 from by omega], by simp⟩
      · rw [if_neg (fun h => ha h.2)] at hr
        have k := key.1 r hr
        rw [ans_cons, step] at k
        rw [ans_cons, step, if_neg ha]
        by_cases hb : a = 42
        · rw [if_pos hb] at k ⊢; exact ⟨k.1, by have := k.2; omega⟩
        · rw [if_neg hb] at k ⊢; exact ⟨k.1, by have := k.2; omega⟩
    · intro hr
      rw [cutRem] at hr
      by_cases ha : a = 47
      · rw [if_pos ⟨rfl, ha⟩] at hr; cases hr
      · rw [if_neg (fun h => ha h.2)] at hr
        have k := key.2 hr
        rw [ans_cons, step] at k
        rw [ans_cons, step, if_neg ha]
        by_cases hb : a = 42
        · rw [if_pos hb] at k ⊢; exact k
        · rw [if_neg hb] at k ⊢; exact k
end Go.Proofs.Ytdcggedggngpoaa.lx
