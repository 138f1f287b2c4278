/- A term in brackets once and twice. Plain lists.; What the two Ones give, as the laws look at it.; ReadBrackets: its walk.; What is read of two texts, one behind the other. Plain lists.; ReadJoined: its walk.; From what a card of stage 5 lists to what its walk asks: the two tables' cells. -/
import Derived.Test.YtcdmmcogegnieaaGreatDoorQ21
import Derived.Test.YtcdmmcogegnieaaGreatDoorQ12
import Derived.Test.YtcdmmcogegnieaaGreatDoorQ20
import Derived.Maps.AppendAt
import Derived.Test.YtcdmmcogegnieaaGreatDoorQ1
import Derived.Test.YtcdmmcogegnieaaGreatDoorRows
import Derived.OpenShut
import Derived.LaidLaws
import Derived.MakeChecks
import Derived.LaidMore
import Derived.LaidHandle
import Derived.Lib.LaidU8
import Derived.Lib.DecodeN
set_option linter.unusedVariables false
set_option linter.unusedSimpArgs false
section
/- A term in brackets once and twice. Plain lists. -/
namespace Go.Proofs.YtcdmmcogegnieaaGreatDoor.lx

theorem start_mark {M : Nat} {ts : List Tok} {n : Nat} {b : UInt8} (h8 : cl b = 8) (h1 : b ≠ 37) (h2 : b ≠ 47) : start M ts n b = if ts.length = M then .bad n 34 else .go (ts ++ [⟨if b = 40 ∧ opens ts n = true then 4 else 5, [b], n, n + 1⟩]) .btw := by
  unfold start opening
  rw [if_neg (by omega), if_neg h1, if_neg h2, if_neg (by omega)]
  split
  · rfl
  · simp [h8]
/-- behind a line feed: between two tokens, or in a remark -/
theorem feed_mode {M : Nat} {ts ts' : List Tok} {n : Nat} {m m' : Mode} (h : step M ts n 10 m = .go ts' m') : m' = .btw ∨ ∃ f, m' = .rem f := by
  have hst : ∀ (T : List Tok), start M T n 10 = .go T .btw := fun T => by unfold start; rw [if_pos (by decide)]
  have hj : ∀ c, joinB c (cl 10) = false := fun c => by
    unfold joinB
    repeat' split
    · decide
    · rename_i hc; rcases hc with rfl | rfl <;> decide
    · rfl
  cases m with
  | btw => rw [step, hst] at h; cases h; exact .inl rfl
  | line => rw [step, if_pos rfl] at h; cases h; exact .inl rfl
  | slash f =>
    rw [step, if_neg (by decide)] at h
    split at h
    · cases h
    · rw [if_neg (by decide), hst] at h; cases h; exact .inl rfl
  | dot f => rw [step, if_neg (by decide), hst] at h; cases h; exact .inl rfl
  | rem f => rw [step, if_neg (by decide)] at h; cases h; exact .inr ⟨_, rfl⟩
  | star f => rw [step, if_neg (by decide), if_neg (by decide)] at h; cases h; exact .inr ⟨_, rfl⟩
  | word c f acc => rw [step, if_neg (by rw [hj]; decide), hst] at h; cases h; exact .inl rfl
  | quo f acc => rw [step, if_neg (by decide), if_neg (by decide), if_pos (.inl (by decide))] at h; cases h
  | quoq f acc => rw [step, if_neg (by decide), hst] at h; cases h; exact .inl rfl
  | esc f acc => rw [step, if_neg (by decide), if_neg (by decide), if_neg (by decide)] at h; cases h
theorem run_append (M : Nat) (k l : List UInt8) (ts : List Tok) (n : Nat) (m : Mode) :
    run M (k ++ l) ts n m = match run M k ts n m with | .go ts' m' => run M l ts' (n + k.length) m' | .bad p e => .bad p e := by
  induction k generalizing ts n m with
  | nil => rfl
  | cons b k ih =>
    rw [List.cons_append, run, run]
    cases h : step M ts n b m with
    | go ts' m' => simp only [ih]; rw [List.length_cons, show n + (k.length + 1) = n + 1 + k.length from by omega]
    | bad p e => rfl
/-- a text that ends in a line feed and closing brackets -/
theorem closed {s : List UInt8} {c : List Tok} (j : Nat) (h : toks (s ++ 10 :: List.replicate (j + 1) 41) = .ok c) :
    run 1000 (s ++ 10 :: List.replicate (j + 1) 41) [] 0 .btw = .go c .btw ∧ ∃ t, c = t ++ [⟨5, [41], s.length + 1 + j, s.length + 2 + j⟩] := by
  have hmark : ∀ (T : List Tok) (n : Nat), start 1000 T n 41 = if T.length = 1000 then .bad n 34 else .go (T ++ [⟨5, [41], n, n + 1⟩]) .btw := fun T n => by
    rw [start_mark (by decide) (by decide) (by decide)]; rfl
  have hrem : ∀ (j : Nat) (T : List Tok) (n f : Nat), run 1000 (List.replicate j 41) T n (.rem f) = .go T (.rem f) := by
    intro j
    induction j with
    | zero => intro T n f; rfl
    | succ j ih => intro T n f; rw [List.replicate_succ, run, step, if_neg (by decide)]; exact ih _ _ _
  have hbtw : ∀ (j : Nat) (T : List Tok) (n : Nat) (T' : List Tok) (m' : Mode), run 1000 (List.replicate (j + 1) 41) T n .btw = .go T' m' → m' = .btw ∧ ∃ t, T' = t ++ [⟨5, [41], n + j, n + j + 1⟩] := by
    intro j
    induction j with
    | zero =>
      intro T n T' m' hr
      rw [show List.replicate (0 + 1) (41 : UInt8) = [41] from rfl, run, step, hmark] at hr
      split at hr
      · rename_i hh; split at hh <;> cases hh; cases hr; exact ⟨rfl, _, rfl⟩
      · cases hr
    | succ j ih =>
      intro T n T' m' hr
      rw [List.replicate_succ, run, step, hmark] at hr
      split at hr
      · rename_i hh; split at hh <;> cases hh
        obtain ⟨a, t, b⟩ := ih _ _ _ _ hr
        exact ⟨a, t, by rw [b, show n + 1 + j = n + (j + 1) from by omega]⟩
      · cases hr
  unfold toks at h
  rw [ans_run, run_append] at h
  rw [run_append]
  cases h1 : run 1000 s [] 0 .btw with
  | bad p e => rw [h1] at h; cases h
  | go t1 m1 =>
    rw [h1] at h
    dsimp only at h ⊢
    rw [run] at h ⊢
    cases h2 : step 1000 t1 (0 + s.length) 10 m1 with
    | bad p e => rw [h2] at h; cases h
    | go t2 m2 =>
      rw [h2] at h
      dsimp only at h ⊢
      rcases feed_mode h2 with rfl | ⟨f, rfl⟩
      · cases h3 : run 1000 (List.replicate (j + 1) 41) t2 (0 + s.length + 1) .btw with
        | bad p e => rw [h3] at h; cases h
        | go t3 m3 =>
          rw [h3] at h
          obtain ⟨rfl, t, ht⟩ := hbtw j _ _ _ _ h3
          dsimp only [fin] at h
          cases h
          exact ⟨rfl, t, by rw [ht, show 0 + s.length + 1 + j = s.length + 1 + j from by omega, show s.length + 1 + j + 1 = s.length + 2 + j from by omega]⟩
      · rw [hrem] at h
        cases h
/-- a blank and a dot behind a text at rest -/
theorem dotted {l : List UInt8} {c : List Tok} (h : run 1000 l [] 0 .btw = .go c .btw) : toks (l ++ [32, 46]) = if c.length = 1000 then .bad (l.length + 1) 34 else .ok (c ++ [⟨6, [46], l.length + 1, l.length + 2⟩]) := by
  unfold toks
  rw [ans_append, h]
  dsimp only
  rw [Nat.zero_add, ans_space, ans_cons, step]
  have hst : start 1000 c (l.length + 1) 46 = if c.length = 1000 then .bad (l.length + 1) 34 else .go c (.dot (l.length + 1)) := by
    unfold start opening
    rw [if_neg (by decide), if_neg (by decide), if_neg (by decide), if_neg (by decide)]
    split
    · rfl
    · rw [if_neg (by decide), if_neg (by decide), if_neg (by decide), if_pos rfl]
  rw [hst]
  by_cases hc : c.length = 1000
  · rw [if_pos hc, if_pos hc]
  · rw [if_neg hc, if_neg hc]; rfl
theorem at_rest {l : List UInt8} {c : List Tok} (h : run 1000 l [] 0 .btw = .go c .btw) : toks l = .ok c := by
  unfold toks; rw [ans_run, h]; rfl
/-- an opening bracket in front -/
theorem open1 (U : List UInt8) : toks (40 :: U) = shO [⟨5, [40], 0, 1⟩] 1 (ans 999 U [] 0 .btw) := by
  unfold toks
  rw [ans_cons, step, start_mark (by decide) (by decide) (by decide), if_neg (by decide)]
  exact ans_shift2 (T := [⟨5, [40], 0, 1⟩]) (d := 1) (M := 1000) (fun t ht => by cases ht; intro h; exact absurd h (by decide)) (by decide) U [] 0 .btw trivial
theorem open2 (U : List UInt8) : toks (40 :: 40 :: U) = shO [⟨5, [40], 0, 1⟩, ⟨5, [40], 1, 2⟩] 2 (ans 998 U [] 0 .btw) := by
  unfold toks
  rw [ans_cons, step, start_mark (by decide) (by decide) (by decide), if_neg (by decide)]
  dsimp only
  rw [ans_cons, step, start_mark (by decide) (by decide) (by decide), if_neg (by decide)]
  exact ans_shift2 (T := [⟨5, [40], 0, 1⟩, ⟨5, [40], 1, 2⟩]) (d := 2) (M := 1000) (fun t ht => by cases ht; intro h; exact absurd h (by decide)) (by decide) U [] 0 .btw trivial
theorem up1000 {M : Nat} {U : List UInt8} {c : List Tok} (hM : M ≤ 1000) (h : ans M U [] 0 .btw = .ok c) (hc : c.length ≤ 1000) : toks U = .ok c := (ans_less (M' := 1000) U [] 0 .btw h).2 hc
end Go.Proofs.YtcdmmcogegnieaaGreatDoor.lx
namespace Go.Proofs.YtcdmmcogegnieaaGreatDoor.rd
open Go.Proofs.YtcdmmcogegnieaaGreatDoor.lx (Tok Out toks toksD shT shO closed dotted at_rest open1 open2 up1000 sh_ok toksD_small ans_many)

def bo : K := ⟨5, [40], false⟩
def bc : K := ⟨5, [41], false⟩
def en : K := ⟨6, [46], false⟩
theorem ends_mark {t : List Tok} {f g : Nat} : endsB (t ++ [⟨5, [41], f, g⟩]) = false := by unfold endsB; rw [List.getLast?_concat]; rfl
theorem toks_le {l : List UInt8} {c : List Tok} (h : toks l = .ok c) : c.length ≤ 1000 := ans_many l [] 0 .btw (by simp [lx.pend]) h
/-- the tokens of a text in brackets, its sentence's end behind -/
theorem in_brackets {s' : List UInt8} {j : Nat} (hl : (s' ++ 10 :: List.replicate (j + 1) 41).length ≤ 4000) {x : Sn} (h : oneP (s' ++ 10 :: List.replicate (j + 1) 41) = .ok x) :
    ∃ c E, toks (s' ++ 10 :: List.replicate (j + 1) 41) = .ok c ∧ E.kind = 6 ∧ E.text = [46] ∧ sentP (ab (c ++ [E])) = .ok (x, []) := by
  generalize hA : s' ++ 10 :: List.replicate (j + 1) 41 = A at *
  obtain ⟨ts, h1, h2⟩ := oneP_ok h
  cases ho : toksD A with
  | bad p e =>
    have he : endP A = A := by unfold endP; rw [ho]
    rw [he, ho] at h1; cases h1
  | ok c =>
    have hc : toks A = .ok c := by rw [toksD_small (by omega)] at ho; exact ho
    obtain ⟨hr, t, ht⟩ := closed j (hA ▸ hc)
    rw [hA] at hr
    have he : endP A = A ++ [32, 46] := by unfold endP; rw [ho]; dsimp only; rw [ht, ends_mark]; rfl
    rw [he, toksD_small (by simp; omega), dotted hr] at h1
    split at h1
    · cases h1
    · cases h1
      exact ⟨c, ⟨6, [46], A.length + 1, A.length + 2⟩, hc, rfl, rfl, h2⟩
theorem operand_open {W' : W} {most : Int} {l : List K} {nm : List (List UInt8)} : operandP W' most (bo :: l, nm) = zeroP (bracketP W' [41] (l, nm)) := by
  unfold operandP
  dsimp only
  rw [if_neg (by show ¬ (5 : Nat) = 1; decide), if_neg (by show ¬ (5 : Nat) = 2; decide), if_neg (by show ¬ (5 : Nat) = 3; decide), if_neg (by show ¬ (5 : Nat) = 4; decide)]
  unfold markedP
  rw [if_pos (by rfl)]
  rfl
/-- P5.1: brackets once and twice -/
theorem brackets {s : List UInt8} (hs : s.length ≤ 1024) {x y : Sn} (hx : oneP (40 :: (s ++ [10, 41])) = .ok x) (hy : oneP (40 :: 40 :: (s ++ [10, 41, 41])) = .ok y) : x.1 = y.1 := by
  obtain ⟨ca, ea, a1, a2, a3, a4⟩ := in_brackets (s' := 40 :: s) (j := 0) (by simp; omega) hx
  obtain ⟨cb, eb, b1, b2, b3, b4⟩ := in_brackets (s' := 40 :: 40 :: s) (j := 1) (by simp; omega) hy
  -- the tokens of the text
  have a1' : toks (40 :: (s ++ [10, 41])) = .ok ca := a1
  have b1' : toks (40 :: 40 :: ((s ++ [10, 41]) ++ [41])) = .ok cb := by rw [← b1]; simp [List.replicate]
  have la := toks_le a1'
  have lb := toks_le b1'
  rw [open1] at a1'
  rw [open2] at b1'
  obtain ⟨c, hc, rfl⟩ := sh_ok a1'
  obtain ⟨c', hc', rfl⟩ := sh_ok b1'
  simp only [List.length_append, List.length_map, List.length_cons, List.length_nil] at la lb
  have hU := up1000 (by decide) hc (by omega)
  have hU' := up1000 (by decide) hc' (by omega)
  obtain ⟨hr, t, ht⟩ := closed 0 hU
  have hcc : ∃ q : Tok, q.kind = 5 ∧ q.text = [41] ∧ c' = c ++ [q] := by
    unfold toks at hU'
    rw [lx.ans_append, show s ++ [10, 41] = s ++ 10 :: List.replicate (0 + 1) 41 from rfl, hr] at hU'
    dsimp only at hU'
    rw [lx.ans_cons, lx.step, lx.start_mark (by decide) (by decide) (by decide)] at hU'
    by_cases hl : c.length = 1000
    · rw [if_pos hl] at hU'; cases hU'
    · rw [if_neg hl] at hU'
      cases hU'
      exact ⟨_, rfl, rfl, rfl⟩
  obtain ⟨Q, q1, q2, rfl⟩ := hcc
  generalize hq : (⟨5, [41], s.length + 1 + 0, s.length + 2 + 0⟩ : Tok) = q at ht
  have q3 : q.kind = 5 := by rw [← hq]
  have q4 : q.text = [41] := by rw [← hq]
  subst ht
  -- as the reader sees them
  have one : ∀ (e : Tok) (k : Nat) (z : List UInt8), e.kind = k → e.text = z → ab [e] = [⟨k, z, false⟩] := fun e k z h1 h2 => by show [(⟨e.kind, e.text, false⟩ : K)] = _; rw [h1, h2]
  have kA : ab ([⟨5, [40], 0, 1⟩] ++ (t ++ [q]).map (shT 1) ++ [ea]) = (bo :: ab (t ++ [q])) ++ [en] := by
    have e1 : [⟨5, [40], 0, 1⟩] ++ (t ++ [q]).map (shT 1) ++ [ea] = [] ++ [(⟨5, [40], 0, 1⟩ : Tok)] ++ (t.map (shT 1) ++ [shT 1 q] ++ [ea]) := by simp
    rw [e1, ab_cut (by decide), ab_cut (by show q.kind ≠ 1; omega), one ea 6 [46] a2 a3]
    rw [show t.map (shT 1) ++ [shT 1 q] = (t ++ [q]).map (shT 1) by simp, ab_sh]
    rfl
  have kB : ab ([⟨5, [40], 0, 1⟩, ⟨5, [40], 1, 2⟩] ++ (t ++ [q] ++ [Q]).map (shT 2) ++ [eb]) = bo :: ((bo :: ab (t ++ [q])) ++ [bc, en]) := by
    have e1 : [⟨5, [40], 0, 1⟩, ⟨5, [40], 1, 2⟩] ++ (t ++ [q] ++ [Q]).map (shT 2) ++ [eb] = [] ++ [(⟨5, [40], 0, 1⟩ : Tok)] ++ ([] ++ [(⟨5, [40], 1, 2⟩ : Tok)] ++ (t.map (shT 2) ++ [shT 2 q] ++ ([] ++ [shT 2 Q] ++ [eb]))) := by simp
    rw [e1, ab_cut (by decide), ab_cut (by decide), ab_cut (by show q.kind ≠ 1; omega), ab_cut (by show Q.kind ≠ 1; omega), one eb 6 [46] b2 b3]
    rw [show t.map (shT 2) ++ [shT 2 q] = (t ++ [q]).map (shT 2) by simp, ab_sh, List.nil_append, List.nil_append, List.nil_append, one (shT 2 Q) 5 [41] q1 q2]
    simp [bo, bc, en, ab]
  rw [kA] at a4
  rw [kB] at b4
  generalize bo :: ab (t ++ [q]) = Z at a4 b4
  -- what is read of them
  obtain ⟨X, k, h1, h2, h3⟩ := sent_parts a4
  obtain ⟨rfl, hk⟩ : X = Z ∧ k = en := by
    have := List.append_inj' h1 rfl
    exact ⟨this.1.symm, by simpa using this.2.symm⟩
  subst hk
  have hZ := term_ctx (Y1 := [en]) (Y2 := [bc, en]) (X' := []) (by decide) (.inr ⟨rfl, rfl⟩) h3
  obtain ⟨X2, k2, g1, g2, g3⟩ := sent_parts b4
  rw [← g1] at g3
  have e1 : ∀ d most s, termP (d + 1) most s = match operandP (termP d) most s with | .error e => .error e | .ok ((t, prio), s') => loopP (termP d) most s'.1.length t prio s' := fun _ _ _ => rfl
  rw [e1 64, operand_open] at g3
  cases hb : bracketP (termP 64) [41] (X ++ [bc, en], []) with
  | error k => rw [hb] at g3; cases g3
  | ok us =>
    obtain ⟨u, s1⟩ := us
    rw [hb] at g3
    unfold bracketP at hb
    cases ht : termP 64 1200 (X ++ [bc, en], []) with
    | error k => rw [ht] at hb; cases hb
    | ok vs =>
      obtain ⟨v, s2⟩ := vs
      rw [ht] at hb
      obtain ⟨hm, _⟩ := term_mono (d' := 65) (by decide) ht
      rw [hm] at hZ
      cases hZ
      dsimp only at hb
      have hx : expectP [41] ([] ++ [bc, en], x.2) = .ok ([en], x.2) := rfl
      rw [hx] at hb
      cases hb
      change loopP (termP 64) 1200 1 x.1 0 ([en], x.2) = _ at g3
      rw [loop_stop _ _ _ _ _ _ (.inl rfl)] at g3
      have g4 := Except.ok.inj g3
      exact (congrArg Prod.fst g4).symm.symm
end Go.Proofs.YtcdmmcogegnieaaGreatDoor.rd
end
section
/- What the two Ones give, as the laws look at it. -/
namespace Go.Proofs.YtcdmmcogegnieaaGreatDoor.ls
open Go.RowKit
open Go.Proofs.YtcdmmcogegnieaaGreatDoor.rd
open Go.Proofs.YtcdmmcogegnieaaGreatDoor.rr
open Go.Proofs.YtcdmmcogegnieaaGreatDoor.op (bs strC Both bs_data)
open Go.Proofs.YtcdmmcogegnieaaGreatDoor.lx (cell_at ieq_yes ieq_no GM toksD)
set_option maxRecDepth 20000

theorem one_err {l : List UInt8} {k : Nat} (h : oneP l = .error k) : k ≠ 0 := by
  unfold oneP at h
  cases hr : readP (toksD (endP l)) with
  | error e => rw [hr] at h; cases h; exact read_err rfl hr
  | ok v =>
    rw [hr] at h
    match v, h with
    | [], h => cases h; decide
    | [x], h => cases h
    | x :: y :: v, h => cases h; decide
/-- the term and the error of an answer -/
def Sd (x : Except Nat Sn) (t : T) (k : Nat) : Prop := match x with
  | .ok y => k = 0 ∧ t = y.1
  | .error e => k = e ∧ e ≠ 0 ∧ t = .leaf 0 0 []
/-- a sentence's five values -/
abbrev sV (t : T) (p : Option Addr) (m c : Nat) (q : Option Addr) (n d : Nat) : Value := .agg #[.int .i64 (t.k : Nat), .int .i64 t.n, .string (bs t.s), .slice p m c, .slice q n d]
def UQ (w : World) (x : Except Nat Sn) (en : Ending) (w' : World) : Prop :=
  ∃ (t : T) (p : Option Addr) (m c : Nat) (q : Option Addr) (n d : Nat) (z : Int) (k : Nat), en = .returned (.tuple #[sV t p m c q n d, .int .i64 z, .int .i64 (k : Nat)]) ∧ Rp Any w' t (.slice p m c) ∧ Below w.heap.size w w' ∧ Sd x t k
theorem uq {l : List UInt8} {w : World} {en : Ending} {w' : World} (h : OQ w (oneP l) en w') : UQ w (oneP l) en w' := by
  have he := fun k => one_err (l := l) (k := k)
  generalize oneP l = x at *
  cases x with
  | ok x =>
    obtain ⟨a, nvs, rfl, hH, hb⟩ := h
    obtain ⟨p, m, c, rfl⟩ := hH.1.shape
    obtain ⟨q, n, d, rfl⟩ := own_shape hH.2
    exact ⟨x.1, p, m, c, q, n, d, 0, 0, rfl, any hH.1, hb, rfl, rfl⟩
  | error k =>
    obtain ⟨z, rfl, hb⟩ := h
    exact ⟨.leaf 0 0 [], none, 0, 0, none, 0, 0, z, k, rfl, by rw [Rp], hb, rfl, he k rfl, rfl⟩
theorem one_u (s : ByteArray) (w : World) (hb : Both w) (hg : GM w) (hz : s.size ≤ 9223372036854775800) : Calls Tryz.prog 9 #[.string s] w (UQ w (oneP s.data.toList)) := (one_c s w hb hg hz).mono fun _ _ h => uq h
theorem rone_u (s : ByteArray) (w : World) (hb : Both w) (hp : 2 ≤ w.heap.size) (hz : s.size ≤ 9223372036854775800) : Calls Tryz.prog 10 #[.string s] w (UQ w (oneP s.data.toList)) := (rone_c s w hb hp hz).mono fun _ _ h => uq h
end Go.Proofs.YtcdmmcogegnieaaGreatDoor.ls
end
section
/- ReadBrackets: its walk. -/
namespace Go.Proofs.YtcdmmcogegnieaaGreatDoor.ls
open Go.RowKit
open Go.Proofs.YtcdmmcogegnieaaGreatDoor.rd
open Go.Proofs.YtcdmmcogegnieaaGreatDoor.rr
open Go.Proofs.YtcdmmcogegnieaaGreatDoor.op (bs strC Both bs_data)
open Go.Proofs.YtcdmmcogegnieaaGreatDoor.lx (cell_at ieq_yes ieq_no GM toksD cat_data)
set_option maxRecDepth 20000

theorem br1 (s : ByteArray) : (⟨#[40]⟩ ++ s ++ ⟨#[10, 41]⟩ : ByteArray).data.toList = 40 :: (s.data.toList ++ [10, 41]) := by rw [cat_data, cat_data]; simp
theorem br2 (s : ByteArray) : (⟨#[40, 40]⟩ ++ s ++ ⟨#[10, 41, 41]⟩ : ByteArray).data.toList = 40 :: 40 :: (s.data.toList ++ [10, 41, 41]) := by rw [cat_data, cat_data]; simp
theorem size_list (s : ByteArray) : s.size = s.data.toList.length := by simp
set_option maxHeartbeats 4000000 in
theorem brackets_w (s : ByteArray) (w : World) (hz : s.size ≤ 9223372036854775807) (hb : Both w) (hg : GM w) :
    Calls Tryz.prog 7 #[.string s] w fun e w' => e = .returned (.bool true) ∧ Below w.heap.size w w' := by
  by_cases hbig : s.size > 1024
  · clear hg hb
    go_enter Tryz.func7, Tryz.ntmps7
    go_wp2
    go_ret
    exact ⟨rfl, Below.refl _ _⟩
  have hb1 : s.size ≤ 1024 := by omega
  have hp := lx.heap_pos hg
  have hz1 : (⟨#[40]⟩ ++ s ++ ⟨#[10, 41]⟩ : ByteArray).size ≤ 9223372036854775800 := by rw [size_list, br1]; simp; omega
  have hz2 : (⟨#[40, 40]⟩ ++ s ++ ⟨#[10, 41, 41]⟩ : ByteArray).size ≤ 9223372036854775800 := by rw [size_list, br2]; simp; omega
  have o1 := fun w h1 h2 => one_u (⟨#[40]⟩ ++ s ++ ⟨#[10, 41]⟩) w h1 h2 hz1
  have o2 := fun w h1 h2 => one_u (⟨#[40, 40]⟩ ++ s ++ ⟨#[10, 41, 41]⟩) w h1 h2 hz2
  have o3 := fun w h1 h2 => rone_u (⟨#[40]⟩ ++ s ++ ⟨#[10, 41]⟩) w h1 h2 hz1
  have o4 := fun w h1 h2 => rone_u (⟨#[40, 40]⟩ ++ s ++ ⟨#[10, 41, 41]⟩) w h1 h2 hz2
  rw [br1] at o1 o3
  rw [br2] at o2 o4
  have hbr := fun x y => brackets (s := s.data.toList) (by rw [← size_list]; exact hb1) (x := x) (y := y)
  generalize oneP (40 :: (s.data.toList ++ [10, 41])) = X at *
  generalize oneP (40 :: 40 :: (s.data.toList ++ [10, 41, 41])) = Y at *
  have HBr := Lib.hid hbr
  have HBo := Lib.hid hb
  have HG := Lib.hid hg
  clear hg hb hz hbr hz1 hz2
  go_enter Tryz.func7, Tryz.ntmps7
  go_wp2_with fail
  refine (o1 _ HBo.out HG.out).mono ?_
  rintro e w1 ⟨t1, p1, m1, c1, q1, n1, d1, z1, k1, rfl, hT1, hb1, hS1⟩
  have hbx1 := (Below.refl w1.heap.size w1).alloc (Nat.le_refl _) (.cells #[.int .i64 (t1.k : Nat), .int .i64 t1.n, .string (bs t1.s), .slice p1 m1 c1, .slice q1 n1 d1] 27)
  have HT1 := Lib.hid (hT1.kept (Kt.below hbx1))
  have HC1 := Lib.hid (heap_alloc_new w1 (.cells #[.int .i64 (t1.k : Nat), .int .i64 t1.n, .string (bs t1.s), .slice p1 m1 c1, .slice q1 n1 d1] 27))
  have HS1 := Lib.hid hS1
  have HB1 := Lib.hid (((hb1)).trans (hbx1.mono hb1.size))
  clear hT1 hb1 hbx1 hS1
  go_wp2_with fail
  generalize World.alloc w1 _ = W1 at *
  generalize w1.heap.size = B1 at *
  refine (o2 _ (HBo.out.kept HB1.out) (HG.out.below HB1.out hp)).mono ?_
  rintro e w2 ⟨t2, p2, m2, c2, q2, n2, d2, z2, k2, rfl, hT2, hb2, hS2⟩
  have hbx2 := (Below.refl w2.heap.size w2).alloc (Nat.le_refl _) (.cells #[.int .i64 (t2.k : Nat), .int .i64 t2.n, .string (bs t2.s), .slice p2 m2 c2, .slice q2 n2 d2] 27)
  have HT2 := Lib.hid (hT2.kept (Kt.below hbx2))
  have HC2 := Lib.hid (heap_alloc_new w2 (.cells #[.int .i64 (t2.k : Nat), .int .i64 t2.n, .string (bs t2.s), .slice p2 m2 c2, .slice q2 n2 d2] 27))
  have HS2 := Lib.hid hS2
  have HB2 := Lib.hid ((HB1.out.trans (hb2.mono HB1.out.size)).trans (hbx2.mono (Nat.le_trans HB1.out.size hb2.size)))
  have HT1' := Lib.hid ((HT1.out.kept (Kt.below hb2)).kept (Kt.below hbx2))
  have HC1' := Lib.hid (Kt.below hbx2 _ _ _ (Kt.below hb2 _ _ _ HC1.out))
  clear HT1 HC1
  have HT1 := HT1'
  have HC1 := HC1'
  clear HT1' HC1'
  clear hT2 hb2 hbx2 hS2
  go_wp2_with fail
  generalize World.alloc w2 _ = W2 at *
  generalize w2.heap.size = B2 at *
  refine (o3 _ (HBo.out.kept HB2.out) (by have := HB2.out.size; omega)).mono ?_
  rintro e w3 ⟨t3, p3, m3, c3, q3, n3, d3, z3, k3, rfl, hT3, hb3, hS3⟩
  have hbx3 := (Below.refl w3.heap.size w3).alloc (Nat.le_refl _) (.cells #[.int .i64 (t3.k : Nat), .int .i64 t3.n, .string (bs t3.s), .slice p3 m3 c3, .slice q3 n3 d3] 27)
  have HT3 := Lib.hid (hT3.kept (Kt.below hbx3))
  have HC3 := Lib.hid (heap_alloc_new w3 (.cells #[.int .i64 (t3.k : Nat), .int .i64 t3.n, .string (bs t3.s), .slice p3 m3 c3, .slice q3 n3 d3] 27))
  have HS3 := Lib.hid hS3
  have HB3 := Lib.hid ((HB2.out.trans (hb3.mono HB2.out.size)).trans (hbx3.mono (Nat.le_trans HB2.out.size hb3.size)))
  have HT1' := Lib.hid ((HT1.out.kept (Kt.below hb3)).kept (Kt.below hbx3))
  have HC1' := Lib.hid (Kt.below hbx3 _ _ _ (Kt.below hb3 _ _ _ HC1.out))
  clear HT1 HC1
  have HT1 := HT1'
  have HC1 := HC1'
  clear HT1' HC1'
  have HT2' := Lib.hid ((HT2.out.kept (Kt.below hb3)).kept (Kt.below hbx3))
  have HC2' := Lib.hid (Kt.below hbx3 _ _ _ (Kt.below hb3 _ _ _ HC2.out))
  clear HT2 HC2
  have HT2 := HT2'
  have HC2 := HC2'
  clear HT2' HC2'
  clear hT3 hb3 hbx3 hS3
  go_wp2_with fail
  generalize World.alloc w3 _ = W3 at *
  generalize w3.heap.size = B3 at *
  refine (o4 _ (HBo.out.kept HB3.out) (by have := HB3.out.size; omega)).mono ?_
  rintro e w4 ⟨t4, p4, m4, c4, q4, n4, d4, z4, k4, rfl, hT4, hb4, hS4⟩
  have hbx4 := (Below.refl w4.heap.size w4).alloc (Nat.le_refl _) (.cells #[.int .i64 (t4.k : Nat), .int .i64 t4.n, .string (bs t4.s), .slice p4 m4 c4, .slice q4 n4 d4] 27)
  have HT4 := Lib.hid (hT4.kept (Kt.below hbx4))
  have HC4 := Lib.hid (heap_alloc_new w4 (.cells #[.int .i64 (t4.k : Nat), .int .i64 t4.n, .string (bs t4.s), .slice p4 m4 c4, .slice q4 n4 d4] 27))
  have HS4 := Lib.hid hS4
  have HB4 := Lib.hid ((HB3.out.trans (hb4.mono HB3.out.size)).trans (hbx4.mono (Nat.le_trans HB3.out.size hb4.size)))
  have HT1' := Lib.hid ((HT1.out.kept (Kt.below hb4)).kept (Kt.below hbx4))
  have HC1' := Lib.hid (Kt.below hbx4 _ _ _ (Kt.below hb4 _ _ _ HC1.out))
  clear HT1 HC1
  have HT1 := HT1'
  have HC1 := HC1'
  clear HT1' HC1'
  have HT2' := Lib.hid ((HT2.out.kept (Kt.below hb4)).kept (Kt.below hbx4))
  have HC2' := Lib.hid (Kt.below hbx4 _ _ _ (Kt.below hb4 _ _ _ HC2.out))
  clear HT2 HC2
  have HT2 := HT2'
  have HC2 := HC2'
  clear HT2' HC2'
  have HT3' := Lib.hid ((HT3.out.kept (Kt.below hb4)).kept (Kt.below hbx4))
  have HC3' := Lib.hid (Kt.below hbx4 _ _ _ (Kt.below hb4 _ _ _ HC3.out))
  clear HT3 HC3
  have HT3 := HT3'
  have HC3 := HC3'
  clear HT3' HC3'
  clear hT4 hb4 hbx4 hS4
  clear o1 o2 o3 o4
  have y1 := cell_at HC1.out
  have y2 := cell_at HC2.out
  have y3 := cell_at HC3.out
  have e10 := y1 0
  have e11 := y1 1
  have e12 := y1 2
  have e13 := y1 3
  have e20 := y2 0
  have e21 := y2 1
  have e22 := y2 2
  have e23 := y2 3
  have e30 := y3 0
  have e31 := y3 1
  have e32 := y3 2
  have e33 := y3 3
  clear y1 y2 y3
  cases X with
  | error kx =>
    obtain ⟨h1, hne, rfl⟩ := HS1.out
    obtain ⟨h3, _, rfl⟩ := HS3.out
    obtain rfl : k3 = k1 := h3.trans h1.symm
    obtain ⟨x1, x2⟩ := ieq_no (a := k3) 0 (by omega)
    have e1 : ((k3 : Int) != (k3 : Int)) = false := by simp
    have hk : k2 = k4 := by
      have a := HS2.out
      have b := HS4.out
      cases Y with
      | error ky => exact a.1.trans b.1.symm
      | ok y => exact a.1.trans b.1.symm
    subst hk
    have e2 : ((k2 : Int) != (k2 : Int)) = false := by simp
    clear h1 h3 hne HS1 HS2 HS3 HS4
    go_wp2
    go_ret
    exact ⟨rfl, HB4.out⟩
  | ok x =>
    obtain ⟨rfl, rfl⟩ := HS1.out
    obtain ⟨rfl, rfl⟩ := HS3.out
    cases Y with
    | error ky =>
      obtain ⟨h2, hne, rfl⟩ := HS2.out
      obtain ⟨h4, _, rfl⟩ := HS4.out
      obtain rfl : k4 = k2 := h4.trans h2.symm
      obtain ⟨x1, x2⟩ := ieq_no (a := k4) 0 (by omega)
      have e2 : ((k4 : Int) != (k4 : Int)) = false := by simp
      clear h2 h4 hne HS1 HS2 HS3 HS4
      by_cases hx0 : x.1.k = 0
      · obtain ⟨v1, v2⟩ := ieq_yes (a := x.1.k) 0 (by omega)
        clear hx0
        go_wp2
        go_ret
        exact ⟨rfl, HB4.out⟩
      · obtain ⟨v1, v2⟩ := ieq_no (a := x.1.k) 0 (by omega)
        clear hx0
        go_wp2
        go_ret
        exact ⟨rfl, HB4.out⟩
    | ok y =>
      obtain ⟨rfl, rfl⟩ := HS2.out
      obtain ⟨rfl, rfl⟩ := HS4.out
      have hxy := HBr.out x y rfl rfl
      clear HS1 HS2 HS3 HS4 HBr
      generalize x.1 = tt at *
      generalize y.1 = tu at *
      subst hxy
      have ka := same_all tt (.slice p1 m1 c1) (.slice p2 m2 c2) _ HT1.out HT2.out
      unfold tV at ka
      have HE := Lib.hid (show ∀ (W w' : World), Below W.heap.size W w' → ∀ (q : Nat), q < W.heap.size → ∀ (j : Nat), w'.cell? ⟨q, j, none⟩ = W.cell? ⟨q, j, none⟩ from fun W w' h q hq j => World.cell?_of_block (h.block q hq))
      have l1 := lt_of HC1.out
      have l3 := lt_of HC3.out
      clear HC1 HC2 HC3
      go_wp2_with fail
      generalize World.alloc w4 _ = W4 at *
      refine ka.mono ?_
      rintro e w5 ⟨rfl, hb5⟩
      have f10 := (HE.out W4 w5 hb5 B1 l1 0).trans e10
      have f11 := (HE.out W4 w5 hb5 B1 l1 1).trans e11
      have f12 := (HE.out W4 w5 hb5 B1 l1 2).trans e12
      have f13 := (HE.out W4 w5 hb5 B1 l1 3).trans e13
      have f30 := (HE.out W4 w5 hb5 B3 l3 0).trans e30
      have f31 := (HE.out W4 w5 hb5 B3 l3 1).trans e31
      have f32 := (HE.out W4 w5 hb5 B3 l3 2).trans e32
      have f33 := (HE.out W4 w5 hb5 B3 l3 3).trans e33
      have kb := same_all tt (.slice p1 m1 c1) (.slice p3 m3 c3) _ (HT1.out.kept (Kt.below hb5)) (HT3.out.kept (Kt.below hb5))
      have HB5 := Lib.hid (HB4.out.trans (hb5.mono HB4.out.size))
      unfold tV at kb
      clear ka hb5 e10 e11 e12 e13 e20 e21 e22 e23 e30 e31 e32 e33
      go_wp2_with fail
      refine kb.mono ?_
      rintro e w6 ⟨rfl, hb6⟩
      have HB6 := Lib.hid (HB5.out.trans (hb6.mono HB5.out.size))
      clear kb hb6
      go_wp2
      go_ret
      exact ⟨rfl, HB6.out⟩
end Go.Proofs.YtcdmmcogegnieaaGreatDoor.ls
end
section
/- What is read of two texts, one behind the other. Plain lists. -/
namespace Go.Proofs.YtcdmmcogegnieaaGreatDoor.rd
open Go.Proofs.YtcdmmcogegnieaaGreatDoor.lx (Tok Out toks toksD shT shO sh_ok toksD_small run_of fin_feed ans_shift ahead_of places ans_less ans_many)

theorem toks_joined {s t : List UInt8} {a b c : List Tok} (hs : toks s = .ok a) (ht : toks t = .ok b) (hc : toks (s ++ 10 :: t) = .ok c) : c = a ++ b.map (shT (s.length + 1)) := by
  obtain ⟨ts, m, hr, hf⟩ := run_of hs
  have la : a.length ≤ 1000 := ans_many s [] 0 .btw (by simp [lx.pend]) hs
  have lb : b.length ≤ 1000 := ans_many t [] 0 .btw (by simp [lx.pend]) ht
  have lc : c.length ≤ 1000 := ans_many (s ++ 10 :: t) [] 0 .btw (by simp [lx.pend]) hc
  unfold toks at hc
  rw [lx.ans_append, hr] at hc
  dsimp only at hc
  rw [Nat.zero_add, lx.ans_cons, fin_feed hf] at hc
  dsimp only at hc
  have h2 := ans_shift (T := a) (d := s.length + 1) (M := 1000) (ahead_of (places hs) (by omega)) la t [] 0 .btw trivial
  rw [List.map_nil, List.append_nil, Nat.zero_add] at h2
  rw [show (lx.shM (s.length + 1) .btw) = .btw from rfl] at h2
  rw [h2] at hc
  obtain ⟨b', h3, rfl⟩ := sh_ok hc
  rw [List.length_append, List.length_map] at lc
  have h4 := (ans_less (M' := 1000) t [] 0 .btw h3).2 (by omega)
  have h5 : Out.ok b' = .ok b := h4.symm.trans ht
  cases h5
  rfl
/-- P5.3 -/
theorem joined {s t : List UInt8} (hs : s.length ≤ 1024) (ht : t.length ≤ 1024) {a b c : List Sn} (ha : readP (toksD s) = .ok a) (hb : readP (toksD t) = .ok b) (hc : readP (toksD (s ++ 10 :: t)) = .ok c) : c = a ++ b := by
  rw [toksD_small (by omega)] at ha hb
  rw [toksD_small (by simp; omega)] at hc
  cases h1 : toks s with
  | bad p e => rw [h1] at ha; cases ha
  | ok A =>
    cases h2 : toks t with
    | bad p e => rw [h2] at hb; cases hb
    | ok B =>
      cases h3 : toks (s ++ 10 :: t) with
      | bad p e => rw [h3] at hc; cases hc
      | ok C =>
        rw [h1] at ha
        rw [h2] at hb
        rw [h3] at hc
        have e1 : ∀ ts, readP (.ok ts) = sentsP ts.length (ab ts) := fun _ => rfl
        rw [e1] at ha hb hc
        obtain rfl := toks_joined h1 h2 h3
        have hab : ab (A ++ B.map (shT (s.length + 1))) = ab A ++ ab B := by
          rcases A.eq_nil_or_concat with rfl | ⟨r, x, rfl⟩
          · rw [List.nil_append, ab_sh]; rfl
          · rw [List.concat_eq_append] at ha ⊢
            rw [ab_cut, ab_sh]
            rcases sents_end _ _ _ (by rw [ab_len]; exact Nat.le_refl _) ha with h | ⟨X, k, hk, h6⟩
            · have := congrArg List.length h; rw [ab_len] at this; simp at this
            · rw [show r ++ [x] = r ++ x :: [] from rfl, ab_app] at hk
              have := List.append_inj' hk rfl
              have h7 : (⟨x.kind, x.text, false⟩ : K) = k := by simpa [ab] using this.2
              rw [← h7] at h6
              have : x.kind = 6 := h6
              omega
        rw [hab] at hc
        have := sents_more _ _ _ _ (A ++ B.map (shT (s.length + 1))).length (by rw [ab_len]; exact Nat.le_refl _) ha hb (by rw [ab_len]; exact Nat.le_refl _) (by rw [List.length_append, ab_len, ab_len]; simp)
        rw [hc] at this
        cases this
        rfl
end Go.Proofs.YtcdmmcogegnieaaGreatDoor.rd
end
section
/- ReadJoined: its walk. -/
namespace Go.Proofs.YtcdmmcogegnieaaGreatDoor.ls
open Go.RowKit
open Go.Proofs.YtcdmmcogegnieaaGreatDoor.rd
open Go.Proofs.YtcdmmcogegnieaaGreatDoor.rr
open Go.Proofs.YtcdmmcogegnieaaGreatDoor.op (bs strC Both bs_data)
open Go.Proofs.YtcdmmcogegnieaaGreatDoor.lx (cell_at ieq_yes ieq_no GM toksD cat_data)
set_option maxRecDepth 20000

/-- sentences in a row of one's own, what hangs on them anywhere -/
def Al (B : Nat) (w : World) (v : Value) (l : List Sn) : Prop :=
  ∃ zs : List (Value × Value), zs.length = l.length ∧ w.ownsRow B 27 5 v l.length (scells (l.zip zs)) ∧ ∀ i (hi : i < l.length) (hz : i < zs.length), Hg 0 w l[i] zs[i]
theorem Al.ss {B : Nat} {w : World} {v : Value} {l : List Sn} (h : Al B w v l) : Ss 0 w v l := by
  obtain ⟨zs, a, b, c⟩ := h
  exact ⟨zs, a, World.ownsRow.mono b (Nat.zero_le _), c⟩
theorem Al.shape {B : Nat} {w : World} {v : Value} {l : List Sn} (h : Al B w v l) : ∃ p c, v = .slice p l.length c ∧ (l.length ≤ c) := by
  obtain ⟨zs, a, b, _⟩ := h
  rcases b.2 with ⟨h1, h2⟩ | ⟨g, cap, cur, h1, _, _, h4, _⟩
  · exact ⟨none, 0, by rw [h1, h2], by omega⟩
  · exact ⟨_, _, h1, h4⟩
theorem Al.new {B : Nat} {w : World} (h : w.heap[B]? = some (.cells #[] 27 (0, 0))) : Al B w (.slice (some ⟨B, 0, none⟩) 0 0) [] := ⟨[], rfl, own0 h, fun i hi => absurd hi (Nat.not_lt_zero _)⟩
theorem ss_nil {B : Nat} {w : World} {p : Option Addr} {n c : Nat} {l : List Sn} (h : Ss B w (.slice p n c) l) : n = l.length ∧ ((p = none ∧ c = 0 ∧ l = []) ∨ ∃ g, p = some ⟨g, 0, none⟩) := by
  obtain ⟨zs, a, b, _⟩ := h
  rcases b.2 with ⟨h1, h2⟩ | ⟨g, cap, cur, h1, _⟩
  · simp at h1
    exact ⟨by omega, .inl ⟨h1.1, h1.2.2, List.length_eq_zero_iff.1 h2⟩⟩
  · simp at h1
    exact ⟨h1.2.1, .inr ⟨g, h1.1⟩⟩
/-- 'all = append(all, more...)' -/
theorem wpList_sn {ops : Array Oper} {rest : List Oper} {o : Oper} {a : Act} {Q : Exit → Act → World → Prop} (hgd : o.guard = none) (s x : Operand)
    (ho : o.op = .call { callee := .builtin .append, args := #[s, x], argTypes := #[39, 39] })
    (B : Nat) (W : World) (v : Value) (l : List Sn) (hs : a.eval s = v) (hown : Al B W v l) (g m c : Nat) (l2 : List Sn) (hx : a.eval x = .slice (some ⟨g, 0, none⟩) m c) (h2 : Ss 0 W (.slice (some ⟨g, 0, none⟩) m c) l2)
    (hl : l.length + l2.length ≤ 100000) (hB : B ≤ W.heap.size) (h : ∀ v' w', Al B w' v' (l ++ l2) → Below B W w' → wpList Tryz.prog ops Q rest (a.put o.dst v') w') :
    wpList Tryz.prog ops Q (o :: rest) a W := by
  obtain ⟨i0, hi, hz0, hz1, hz2⟩ := info_parts sent_info3
  obtain ⟨zs, a1, a2, a3⟩ := hown
  obtain ⟨rfl, _⟩ := ss_nil h2
  obtain ⟨ys, b1, b2, b3⟩ := h2
  have hc := World.ownsRow.cells b2 (g := g) rfl
  refine wpList_append_own_at _ hgd s x 39 ho B 27 i0 _ 5 80 Tryz.underlying39 hi hz0 hz1 hz2 rfl (by decide) v l.length (scells (l.zip zs)) hs a2 ⟨g, 0, none⟩ l2.length c (scells (l2.zip ys)) hx ?_ hc ?_ (by unfold maxLen; omega) (by omega) hB ?_
  · rw [scells_len, List.length_zip, b1]; simp
  · intro u hu
    rw [scells, List.mem_flatMap] at hu
    obtain ⟨⟨y, z⟩, hm, hu⟩ := hu
    obtain ⟨i, hi', he⟩ := List.mem_iff_getElem.1 hm
    rw [List.getElem_zip] at he
    have hH := b3 i (by rw [List.length_zip] at hi'; omega) (by rw [List.length_zip] at hi'; omega)
    have e2 : (ys[i]'(by rw [List.length_zip] at hi'; omega)) = z := congrArg Prod.snd he
    rw [e2] at hH
    obtain ⟨p, n, cc, hp⟩ := hH.1.shape
    obtain ⟨q, n2, cq, hq⟩ := own_shape hH.2
    exact snews_one y z (by rw [hp]; rfl) (by rw [hq]; rfl) u hu
  · intro v' w' hown' hgr _ _
    have hk : ∀ ty, ty ≠ 27 → Kt ty W w' := fun ty hty k cs fr hk => by
      rw [hgr.block k (lt_of hk) (fun e => by
        rcases a2.2 with ⟨e1, _⟩ | ⟨g0, _, _, e1, _, e3, _⟩
        · rw [e1] at e; cases e
        · rw [e1] at e; cases e; rw [e3] at hk; cases hk; exact hty rfl)]
      exact hk
    have hb : Below B W w' := ⟨hgr.os, hgr.tape, hgr.output, hgr.size, fun k hk => hgr.block k (by omega) (fun e => by have := (World.ownsRow.lt a2 k e.symm).1; omega)⟩
    refine h v' w' ⟨zs ++ ys, by rw [List.length_append, List.length_append, a1, b1], ?_, fun i hi hz => ?_⟩ hb
    · have e1 : scells (l.zip zs) ++ scells (l2.zip ys) = scells ((l ++ l2).zip (zs ++ ys)) := by rw [List.zip_append a1.symm, scells_append]
      rw [List.length_append, ← e1]; exact hown'
    · have hg : Hg 0 W (l ++ l2)[i] (zs ++ ys)[i] := by
        by_cases hil : i < l.length
        · rw [List.getElem_append_left hil, List.getElem_append_left (by omega)]; exact a3 i hil (by omega)
        · rw [List.getElem_append_right (by omega), List.getElem_append_right (by omega)]
          rw [List.length_append] at hi
          have := b3 (i - l.length) (by omega) (by omega)
          simpa [a1] using this
      exact hg.kept (hk _ (by decide)) (hk _ (by decide))
/-- 'append(all, nil...)' -/
theorem run_nil (ty : TypeId) (p : Option Addr) (n c : Nat) (hc : n ≤ c) (w : World) :
    (Builtin.append_ #[39, 39] ty #[.slice p n c, .slice none 0 0]).run Tryz.prog w = .ok (.slice p n c) w := by
  obtain ⟨i0, hi, hz0, hz1, hz2⟩ := info_parts sent_info3
  cases p with
  | none => simp [Builtin.append_, run_underlying Tryz.underlying39, sizeOf, typeInfo, hi, Builtin.lenOf, Builtin.firstCells, loadCells, loadCellsFrom, hc]
  | some a => simp [Builtin.append_, run_underlying Tryz.underlying39, sizeOf, typeInfo, hi, Builtin.lenOf, Builtin.firstCells, loadCells, loadCellsFrom, hc, storeCells]
theorem wpList_sn0 {ops : Array Oper} {rest : List Oper} {o : Oper} {a : Act} {Q : Exit → Act → World → Prop} (hgd : o.guard = none) (s x : Operand)
    (ho : o.op = .call { callee := .builtin .append, args := #[s, x], argTypes := #[39, 39] }) (W : World) (p : Option Addr) (n c : Nat) (hs : a.eval s = .slice p n c) (hc : n ≤ c) (hx : a.eval x = .slice none 0 0)
    (h : wpList Tryz.prog ops Q rest (a.put o.dst (.slice p n c)) W) : wpList Tryz.prog ops Q (o :: rest) a W := by
  refine wpList_plain hgd fun K hK => ?_
  unfold Oper.wp execOp
  simp only [ho, resolve, invoke, builtin, Sem.run_bind, Sem.run_pure, Result.andThen_ok, List.map_toArray, List.map_cons, List.map_nil, hs, hx, run_nil _ p n c hc W]
  exact hK _ _ h
/-- the sentences and the error of an answer -/
def Nd (x : Except Nat (List Sn)) (l : List Sn) (k : Nat) : Prop := match x with
  | .ok v => k = 0 ∧ l = v
  | .error e => k = e ∧ e ≠ 0 ∧ l = []
def VQ (w : World) (x : Except Nat (List Sn)) (en : Ending) (w' : World) : Prop :=
  ∃ (l : List Sn) (p : Option Addr) (c : Nat) (z k : Nat), en = .returned (.tuple #[.slice p l.length c, .int .i64 (z : Nat), .int .i64 (k : Nat)]) ∧ Ss 0 w' (.slice p l.length c) l ∧ Below w.heap.size w w' ∧ Nd x l k
theorem vq {l : List UInt8} {w : World} {en : Ending} {w' : World} (h : NQ w (readP (toksD l)) en w') : VQ w (readP (toksD l)) en w' := by
  have he := fun k => read_err (o := toksD l) rfl (k := k)
  generalize readP (toksD l) = x at *
  cases x with
  | ok x =>
    obtain ⟨v, rfl, hS, hb⟩ := h
    obtain ⟨p, c, rfl⟩ := hS.shape
    exact ⟨x, p, c, 0, 0, rfl, hS.mono (Nat.zero_le _), hb, rfl, rfl⟩
  | error k =>
    obtain ⟨z, rfl, hb⟩ := h
    exact ⟨[], none, 0, z, k, rfl, Ss.nil _ _, hb, rfl, he k rfl, rfl⟩
theorem read_len {l : List UInt8} {v : List Sn} (h : readP (toksD l) = .ok v) : v.length ≤ 1000 := by
  have hl := lx.outToks_len l
  cases ho : toksD l with
  | bad p e => rw [ho] at h; cases h
  | ok ts =>
    rw [ho] at h hl
    have hr : readP (.ok ts) = sentsP ts.length (ab ts) := rfl
    rw [hr] at h
    have key : ∀ (f : Nat) (m : List K) (v : List Sn), sentsP f m = .ok v → v.length ≤ f := by
      intro f
      induction f with
      | zero => intro m v h; rw [sentsP] at h; cases h; exact Nat.le_refl _
      | succ f ih =>
        intro m v h
        rw [sentsP] at h
        split at h
        · cases h; exact Nat.zero_le _
        · cases hx : sentP m with
          | error k => rw [hx] at h; cases h
          | ok xr =>
            obtain ⟨x, r⟩ := xr
            rw [hx] at h
            dsimp only at h
            cases hr : sentsP f r with
            | error k => rw [hr] at h; cases h
            | ok xs => rw [hr] at h; cases h; have := ih r xs hr; simp; omega
    have := key _ _ _ h
    have h3 : ts.length ≤ 1000 := hl
    omega
theorem jo1 (s t : ByteArray) : (s ++ ⟨#[10]⟩ ++ t : ByteArray).data.toList = s.data.toList ++ 10 :: t.data.toList := by rw [cat_data, cat_data]; simp
set_option maxHeartbeats 1000000 in
theorem joined_w (s t : ByteArray) (w : World) (hz : s.size ≤ 9223372036854775807) (hz' : t.size ≤ 9223372036854775807) (hb : Both w) (hg : GM w) :
    Calls Tryz.prog 6 #[.string s, .string t] w fun e w' => e = .returned (.bool true) ∧ Below w.heap.size w w' := by
  by_cases hbig : s.size > 1024
  · clear hg hb
    go_enter Tryz.func6, Tryz.ntmps6
    go_wp2
    go_ret
    exact ⟨rfl, Below.refl _ _⟩
  by_cases hbig2 : t.size > 1024
  · clear hg hb
    go_enter Tryz.func6, Tryz.ntmps6
    go_wp2
    go_ret
    exact ⟨rfl, Below.refl _ _⟩
  have hb1 : s.size ≤ 1024 := by omega
  have hb2 : t.size ≤ 1024 := by omega
  have hp := lx.heap_pos hg
  have hls : s.data.toList.length = s.size := by simp
  have hlt : t.data.toList.length = t.size := by simp
  have hz3 : (s ++ ⟨#[10]⟩ ++ t : ByteArray).size ≤ 9223372036854775807 := by rw [lx.size_of (jo1 s t), List.length_append, List.length_cons, hls, hlt]; omega
  have o1 := fun w h1 h2 => (read_c s w h1 h2 hz).mono fun _ _ h => vq h
  have o2 := fun w h1 h2 => (read_c t w h1 h2 hz').mono fun _ _ h => vq h
  have o3 := fun w h1 h2 => (rread_c s w h1 h2 hz).mono fun _ _ h => vq h
  have o4 := fun w h1 h2 => (rread_c t w h1 h2 hz').mono fun _ _ h => vq h
  have o5 := fun w h1 h2 => (read_c (s ++ ⟨#[10]⟩ ++ t) w h1 h2 hz3).mono fun _ _ h => vq h
  have o6 := fun w h1 h2 => (rread_c (s ++ ⟨#[10]⟩ ++ t) w h1 h2 hz3).mono fun _ _ h => vq h
  rw [jo1] at o5 o6
  have hj := fun a b c => joined (s := s.data.toList) (t := t.data.toList) (by omega) (by omega) (a := a) (b := b) (c := c)
  have hn1 := fun v => read_len (l := s.data.toList) (v := v)
  have hn2 := fun v => read_len (l := t.data.toList) (v := v)
  generalize readP (toksD s.data.toList) = X at *
  generalize readP (toksD t.data.toList) = Y at *
  generalize readP (toksD (s.data.toList ++ 10 :: t.data.toList)) = Z at *
  have HJ := Lib.hid hj
  have HN1 := Lib.hid hn1
  have HN2 := Lib.hid hn2
  have HBo := Lib.hid hb
  have HG := Lib.hid hg
  clear hg hb hz hz' hz3 hj hn1 hn2
  go_enter Tryz.func6, Tryz.ntmps6
  go_wp2_with fail
  refine (o1 _ HBo.out HG.out).mono ?_
  rintro e w1 ⟨l1, p1, c1, z1, k1, rfl, hS1, hb1, hD1⟩
  have HS1 := Lib.hid hS1
  have HB1 := Lib.hid hb1
  have HD1 := Lib.hid hD1
  clear hS1 hb1 hD1
  go_wp2_with fail
  refine (o2 _ (HBo.out.kept HB1.out) (HG.out.below HB1.out hp)).mono ?_
  rintro e w2 ⟨l2, p2, c2, z2, k2, rfl, hS2, hb2, hD2⟩
  have HS12 := Lib.hid (HS1.out.stay hb2)
  have HS2 := Lib.hid hS2
  have HB2 := Lib.hid (HB1.out.trans (hb2.mono HB1.out.size))
  have HD2 := Lib.hid hD2
  clear hS2 hb2 hD2 HS1
  go_wp2_with fail
  refine (o3 _ (HBo.out.kept HB2.out) (by have := HB2.out.size; omega)).mono ?_
  rintro e w3 ⟨l3, p3, c3, z3, k3, rfl, _, hb3, hD3⟩
  have HS13 := Lib.hid (HS12.out.stay hb3)
  have HS23 := Lib.hid (HS2.out.stay hb3)
  have HB3 := Lib.hid (HB2.out.trans (hb3.mono HB2.out.size))
  have HD3 := Lib.hid hD3
  clear hb3 hD3 HS12 HS2
  go_wp2_with fail
  refine (o4 _ (HBo.out.kept HB3.out) (by have := HB3.out.size; omega)).mono ?_
  rintro e w4 ⟨l4, p4, c4, z4, k4, rfl, _, hb4, hD4⟩
  have HS1 := Lib.hid (HS13.out.stay hb4)
  have HS2 := Lib.hid (HS23.out.stay hb4)
  have HB4 := Lib.hid (HB3.out.trans (hb4.mono HB3.out.size))
  have HD4 := Lib.hid hD4
  clear hb4 hD4 HS13 HS23 o1 o2 o3 o4
  have hk13 : k3 = k1 := by
    have a := HD1.out
    have b := HD3.out
    cases X with
    | error ky => exact b.1.trans a.1.symm
    | ok y => exact b.1.trans a.1.symm
  have hk24 : k4 = k2 := by
    have a := HD2.out
    have b := HD4.out
    cases Y with
    | error ky => exact b.1.trans a.1.symm
    | ok y => exact b.1.trans a.1.symm
  clear HD3 HD4
  subst hk13 hk24
  have e1 : ((k3 : Int) != (k3 : Int)) = false := by simp
  have e2 : ((k4 : Int) != (k4 : Int)) = false := by simp
  by_cases hk1 : k3 = 0
  · by_cases hk2 : k4 = 0
    · have hX : X = .ok l1 := by
        have a := HD1.out
        cases X with
        | error ky => exact absurd (a.1.symm.trans hk1) a.2.1
        | ok y => rw [a.2]
      have hY : Y = .ok l2 := by
        have a := HD2.out
        cases Y with
        | error ky => exact absurd (a.1.symm.trans hk2) a.2.1
        | ok y => rw [a.2]
      have HL1 := HN1.out l1 hX
      have HL2 := HN2.out l2 hY
      have HJ2 := Lib.hid (fun c => HJ.out l1 l2 c hX hY)
      subst hk1 hk2
      clear HD1 HD2 HJ hX hY HN1 HN2
      go_wp2_with fail
      refine (o5 _ (HBo.out.kept HB4.out) (HG.out.below HB4.out hp)).mono ?_
      rintro e w5 ⟨l5, p5, c5, z5, k5, rfl, hS5, hb5, hD5⟩
      have HS15 := Lib.hid (HS1.out.stay hb5)
      have HS25 := Lib.hid (HS2.out.stay hb5)
      have HS5 := Lib.hid hS5
      have HB5 := Lib.hid (HB4.out.trans (hb5.mono HB4.out.size))
      have HD5 := Lib.hid hD5
      clear hS5 hb5 hD5 HS1 HS2
      go_wp2_with fail
      refine (o6 _ (HBo.out.kept HB5.out) (by have := HB5.out.size; omega)).mono ?_
      rintro e w6 ⟨l6, p6, c6, z6, k6, rfl, _, hb6, hD6⟩
      have HS16 := Lib.hid (HS15.out.stay hb6)
      have HS26 := Lib.hid (HS25.out.stay hb6)
      have HS56 := Lib.hid (HS5.out.stay hb6)
      have HB6 := Lib.hid (HB5.out.trans (hb6.mono HB5.out.size))
      have hk56 : k6 = k5 := by
        have a := HD5.out
        have b := hD6
        cases Z with
        | error ky => exact b.1.trans a.1.symm
        | ok y => exact b.1.trans a.1.symm
      clear hb6 hD6 HS15 HS25 HS5 o5 o6
      subst hk56
      by_cases hk5 : k6 = 0
      · have hZ : Z = .ok l5 := by
          have a := HD5.out
          cases Z with
          | error ky => exact absurd (a.1.symm.trans hk5) a.2.1
          | ok y => rw [a.2]
        have hl5 := HJ2.out l5 hZ
        subst hk5 hl5
        clear HD5 HJ2 hZ
        have hbe := (Below.refl w6.heap.size w6).alloc (Nat.le_refl _) (.cells #[] 27)
        have HA0 := Lib.hid (Al.new (heap_alloc_new w6 (.cells #[] 27)))
        have HBE := Lib.hid hbe
        have HB0 := Lib.hid (HB6.out.trans (hbe.mono HB6.out.size))
        have hz6 : w6.heap.size ≤ (w6.alloc (.cells #[] 27)).heap.size := hbe.size
        clear hbe
        obtain ⟨_, hp1⟩ := ss_nil HS16.out
        obtain ⟨_, hp2⟩ := ss_nil HS26.out
        rcases hp1 with ⟨rfl, rfl, rfl⟩ | ⟨g1, rfl⟩
        · rcases hp2 with ⟨rfl, rfl, rfl⟩ | ⟨g2, rfl⟩
          · have ks := sames_c (l := []) (HS56.out.stay HBE.out) HA0.out.ss
            go_wp2_with fail
            refine ks.mono ?_
            rintro e w9 ⟨rfl, hb9⟩
            have HB9 := Lib.hid (HB0.out.trans (hb9.mono HB0.out.size))
            clear hb9 ks
            go_wp2
            go_ret
            exact ⟨rfl, HB9.out⟩
          · go_wp2_with (at_builtin; refine wpList_sn rfl _ _ rfl w6.heap.size _ (.slice (some ⟨w6.heap.size, 0, none⟩) 0 0) [] rfl HA0.out g2 _ _ l2 rfl (HS26.out.stay HBE.out) (by simp; omega) hz6 ?_; intro v7 w7 hA7 hb7; rw [List.nil_append] at hA7; have HA7 := Lib.hid hA7; have HB7 := Lib.hid (HBE.out.trans hb7); have HB8 := Lib.hid (HB6.out.trans (HB7.out.mono HB6.out.size)); have HS57 := Lib.hid (HS56.out.stay HB7.out); obtain ⟨p7, c7, rfl, hc7⟩ := hA7.shape; clear hA7 hb7)
            refine (sames_c HS57.out HA7.out.ss).mono ?_
            rintro e w9 ⟨rfl, hb9⟩
            have HB9 := Lib.hid (HB8.out.trans (hb9.mono HB8.out.size))
            clear hb9
            go_wp2
            go_ret
            exact ⟨rfl, HB9.out⟩
        · rcases hp2 with ⟨rfl, rfl, rfl⟩ | ⟨g2, rfl⟩
          · rw [List.append_nil] at HS56
            go_wp2_with (at_builtin; first | (refine wpList_sn0 rfl _ _ rfl w7 p7 l1.length c7 rfl hc7 rfl ?_) | (refine wpList_sn rfl _ _ rfl w6.heap.size _ (.slice (some ⟨w6.heap.size, 0, none⟩) 0 0) [] rfl HA0.out g1 _ _ l1 rfl (HS16.out.stay HBE.out) (by simp; omega) hz6 ?_; intro v7 w7 hA7 hb7; rw [List.nil_append] at hA7; have HA7 := Lib.hid hA7; have HB7 := Lib.hid (HBE.out.trans hb7); have HB8 := Lib.hid (HB6.out.trans (HB7.out.mono HB6.out.size)); have HS57 := Lib.hid (HS56.out.stay HB7.out); obtain ⟨p7, c7, rfl, hc7⟩ := hA7.shape; clear hA7 hb7))
            refine (sames_c HS57.out HA7.out.ss).mono ?_
            rintro e w9 ⟨rfl, hb9⟩
            have HB9 := Lib.hid (HB8.out.trans (hb9.mono HB8.out.size))
            clear hb9
            go_wp2
            go_ret
            exact ⟨rfl, HB9.out⟩
          · go_wp2_with (at_builtin; first
              | (refine wpList_sn rfl _ _ rfl w6.heap.size _ (.slice p7 l1.length c7) l1 rfl HA7.out g2 _ _ l2 rfl (HS26.out.stay HB7.out) (by omega) hz7 ?_; intro v8 w8 hA8 hb8; have HA8 := Lib.hid hA8; have HB78 := Lib.hid (HB7.out.trans hb8); have HB8 := Lib.hid (HB6.out.trans (HB78.out.mono HB6.out.size)); have HS58 := Lib.hid (HS56.out.stay HB78.out); obtain ⟨p8, c8, rfl, hc8⟩ := hA8.shape; clear hA8 hb8)
              | (refine wpList_sn rfl _ _ rfl w6.heap.size _ (.slice (some ⟨w6.heap.size, 0, none⟩) 0 0) [] rfl HA0.out g1 _ _ l1 rfl (HS16.out.stay HBE.out) (by simp; omega) hz6 ?_; intro v7 w7 hA7 hb7; rw [List.nil_append] at hA7; have HA7 := Lib.hid hA7; have HB7 := Lib.hid (HBE.out.trans hb7); obtain ⟨p7, c7, rfl, hc7⟩ := hA7.shape; have hz7 := HB7.out.size; clear hA7 hb7))
            have ks := sames_c HS58.out HA8.out.ss
            simp only [List.length_append] at ks
            refine ks.mono ?_
            rintro e w9 ⟨rfl, hb9⟩
            have HB9 := Lib.hid (HB8.out.trans (hb9.mono HB8.out.size))
            clear hb9
            go_wp2
            go_ret
            exact ⟨rfl, HB9.out⟩
      · obtain ⟨x1, x2⟩ := ieq_no (a := k6) 0 (by omega)
        have e3 : ((k6 : Int) == (k6 : Int)) = true := by simp
        clear hk5
        go_wp2
        go_ret
        exact ⟨rfl, HB6.out⟩
    · obtain ⟨x1, x2⟩ := ieq_no (a := k4) 0 (by omega)
      subst hk1
      clear hk2
      by_cases h0 : l1.length = 0
      · obtain ⟨v1, v2⟩ := ieq_yes (a := l1.length) 0 (by omega)
        go_wp2
        go_ret
        exact ⟨rfl, HB4.out⟩
      · obtain ⟨v1, v2⟩ := ieq_no (a := l1.length) 0 (by omega)
        clear h0
        go_wp2
        go_ret
        exact ⟨rfl, HB4.out⟩
  · obtain ⟨x1, x2⟩ := ieq_no (a := k3) 0 (by omega)
    have hl1 : l1 = [] := by
      have a := HD1.out
      cases X with
      | error ky => exact a.2.2
      | ok y => exact absurd a.1 hk1
    subst hl1
    clear hk1
    go_wp2
    go_ret
    exact ⟨rfl, HB4.out⟩
end Go.Proofs.YtcdmmcogegnieaaGreatDoor.ls
end
section
/- From what a card of stage 5 lists to what its walk asks: the two tables' cells. -/
namespace Go.Proofs.YtcdmmcogegnieaaGreatDoor.op
open Go.RowKit
set_option maxRecDepth 100000

def rowD {H : Type} (r : List UInt8 × Int × Int) : DataW H := .agg [.lit (.string r.1), .lit (.int .i64 r.2.1), .lit (.int .i64 r.2.2)]
def rowC (r : List UInt8 × Int × Int) : List Value := [.string (bs r.1), .int .i64 r.2.1, .int .i64 r.2.2]
theorem parts3 {α : Type} (f : List UInt8 × Int × Int → List α) (h3 : ∀ r, (f r).length = 3) : ∀ (l : List (List UInt8 × Int × Int)) (cs : List α), cs.length = l.length * 3 →
    (∀ i (h : i < l.length), (cs.drop (i * 3)).take 3 = f l[i]) → cs = l.flatMap f
  | [], cs, h, _ => by simpa using h
  | a :: l, cs, h, hx => by
    have h0 := hx 0 (by simp)
    rw [Nat.zero_mul, List.drop_zero, List.getElem_cons_zero] at h0
    have ih := parts3 f h3 l (cs.drop 3) (by rw [List.length_drop]; simp at h; omega) fun i hi => by
      have := hx (i + 1) (by simpa using hi)
      rw [List.drop_drop, show 3 + i * 3 = (i + 1) * 3 from by omega]
      simpa using this
    rw [List.flatMap_cons, ← ih, ← h0, List.take_append_drop]
section
variable {H : Type} {enc : TypeId × Value → H} {w : World} {base : Nat} {sp : Nat → Bool} {held : Bool} {fuel : Nat}
theorem row_cells {cs : List Value} {r : List UInt8 × Int × Int} {p : List MemPlace} (h : DataW.trod enc Tryz.prog w base sp held fuel 124 cs = some (rowD r, p)) : cs = rowC r := by
  obtain ⟨xs, n, rfl, hx, hl, hn, hf⟩ := DataW.trod_struct Tryz.underlying124 h
  have c3 : Tryz.prog.cellsOf 124 = 3 := by kernel_rfl
  have cs9 : Tryz.prog.cellsOf 9 = 1 := by kernel_rfl
  have ci : Tryz.prog.cellsOf 3 = 1 := by kernel_rfl
  rw [c3] at hl
  have h0 : DataW.trod enc Tryz.prog w base sp held n 9 ((cs.drop 0).take (Tryz.prog.cellsOf 9)) = xs[0]? := hf 0 _ rfl
  rw [cs9] at h0
  have h1 : DataW.trod enc Tryz.prog w base sp held n 3 ((cs.drop 1).take (Tryz.prog.cellsOf 3)) = xs[1]? := hf 1 _ rfl
  rw [ci] at h1
  have h2 : DataW.trod enc Tryz.prog w base sp held n 3 ((cs.drop 2).take (Tryz.prog.cellsOf 3)) = xs[2]? := hf 2 _ rfl
  rw [ci] at h2
  match cs, hl, xs, hn with
  | [c0, c1, c2], _, [x0, x1, x2], _ =>
    simp only [rowD, List.map_cons, List.map_nil, Prod.mk.injEq, DataW.agg.injEq, List.cons.injEq, and_true] at hx
    obtain ⟨⟨e0, e1, e2⟩, _⟩ := hx
    obtain ⟨s, g0, rfl, _⟩ := DataW.trod_string Tryz.underlying9 (show DataW.trod enc Tryz.prog w base sp held n 9 [c0] = some x0 from h0)
    obtain ⟨k, g1, rfl, _⟩ := DataW.trod_int Tryz.underlying3 (show DataW.trod enc Tryz.prog w base sp held n 3 [c1] = some x1 from h1)
    obtain ⟨m, g2, rfl, _⟩ := DataW.trod_int Tryz.underlying3 (show DataW.trod enc Tryz.prog w base sp held n 3 [c2] = some x2 from h2)
    simp at g0 g1 g2 e0 e1 e2
    subst g0; subst g1; subst g2
    rw [rowC, e0, ← e1, ← e2]
    simp [bs_data]
theorem table_cells {t : TypeId} {l : List (List UInt8 × Int × Int)} {cs : List Value} {p : List MemPlace} (ht : Tryz.prog.underlying t = some (.array l.length 124)) (hc : Tryz.prog.cellsOf t = l.length * 3)
    (h : DataW.trod enc Tryz.prog w base sp held fuel t cs = some (.agg (l.map rowD), p)) : cs = l.flatMap rowC := by
  obtain ⟨xs, m, rfl, hx, hl, hn, hel⟩ := DataW.trod_array ht h
  have c3 : Tryz.prog.cellsOf 124 = 3 := by kernel_rfl
  rw [c3] at hel
  refine parts3 rowC (fun _ => rfl) l cs (by rw [hl, hc]) fun i hi => ?_
  have h1 := hel i hi
  rw [List.getElem?_eq_getElem (by omega)] at h1
  have h2 : xs[i].1 = rowD l[i] := by
    have := congrArg Prod.fst hx
    simp only [DataW.agg.injEq] at this
    have h3 := congrArg (fun z => z[i]?) this
    simp only [List.getElem?_map, List.getElem?_eq_getElem hi, List.getElem?_eq_getElem (show i < xs.length by omega), Option.map_some, Option.some.injEq] at h3
    exact h3.symm
  exact row_cells (p := xs[i].2) (by rw [h1, ← h2])
end
theorem heap_of_var {P : Program} {w : World} {name : String} {g : Nat} {cs : Array Value} (hg : P.globalNamed name = some g) (h : w.var? P name = some cs) : ∃ tt fr, w.heap[g]? = some (.cells cs tt fr) := by
  unfold World.var? at h
  rw [hg, Option.bind_some] at h
  split at h
  · rename_i c t fr e
    cases h
    exact ⟨t, fr, e⟩
  · cases h
theorem both4 {w : World} (h : laidMetH Tryz.prog [("coney/ops.infixes", Rows.laid_coney_ops_infixes), ("coney/ops.prefixes", Rows.laid_coney_ops_prefixes), ("unicode/utf8.acceptRanges", Rows.laid_unicode_utf8_acceptRanges), ("unicode/utf8.first", Rows.laid_unicode_utf8_first)] w) : Both w := by
  rw [MakeChecks.laidMetH_plain _ _ _ (by kernel_rfl)] at h
  obtain ⟨ps, ⟨g0, t0, cs0, f0, p0, q0, hg0, ht0, hv0, hd0, ⟨g1, t1, cs1, f1, p1, q1, hg1, ht1, hv1, hd1, _, _⟩, _⟩, _, _⟩ := h
  have e0 : Tryz.prog.globalNamed "coney/ops.infixes" = some 0 := by kernel_rfl
  have e1 : Tryz.prog.globalNamed "coney/ops.prefixes" = some 1 := by kernel_rfl
  obtain rfl := Option.some.inj (e0.symm.trans hg0)
  obtain rfl := Option.some.inj (e1.symm.trans hg1)
  obtain rfl := Option.some.inj ((show (Tryz.prog.globals[0]?).map (·.type) = some 125 by kernel_rfl).symm.trans ht0)
  obtain rfl := Option.some.inj ((show (Tryz.prog.globals[1]?).map (·.type) = some 130 by kernel_rfl).symm.trans ht1)
  obtain ⟨tt0, fr0, b0⟩ := heap_of_var hg0 hv0
  obtain ⟨tt1, fr1, b1⟩ := heap_of_var hg1 hv1
  have z0 := table_cells (l := rowsI) Tryz.underlying125 (by kernel_rfl) hd0
  have z1 := table_cells (l := rowsP) Tryz.underlying130 (by kernel_rfl) hd1
  obtain ⟨l0⟩ := cs0
  obtain ⟨l1⟩ := cs1
  simp only at z0 z1
  subst z0; subst z1
  exact ⟨⟨tt0, fr0, b0, rfl⟩, ⟨tt1, fr1, b1, rfl⟩⟩
abbrev laid5 : List (String × DataW Unit) := [("coney/ops.infixes", Rows.laid_coney_ops_infixes), ("coney/ops.prefixes", Rows.laid_coney_ops_prefixes), ("unicode/utf8.acceptRanges", Rows.laid_unicode_utf8_acceptRanges), ("unicode/utf8.first", Rows.laid_unicode_utf8_first)]
/-- a world for the witness: the settled one, the four tables holding what their initialisers lay -/
noncomputable def laidWorld (os : Os) : World :=
  let put (h : Array Obj) (g : Nat) (cs : Array Value) : Array Obj := h.modify g fun
    | .cells _ t frozen => .cells cs t frozen
    | o => o
  let w0 := World.holding Tryz.prog os ⟨#[], #[], []⟩
  { w0 with heap := put (put (put (put w0.heap 0 (rowsI.flatMap rowC).toArray) 1 (rowsP.flatMap rowC).toArray) 3 (Lib.firstTab.map fun z => Value.int .u8 z).toArray) 4 ((List.range 16).flatMap fun i => [Value.int .u8 (Lib.accLo i), Value.int .u8 (Lib.accHi i)]).toArray }
set_option maxRecDepth 1000000 in
theorem laid_met (os : Os) (args : Array Value) : laidMetH Tryz.prog laid5 ((laidWorld os).forCall (fun _ _ => 0) ⟨#[], args, []⟩).memory := by
  rw [MakeChecks.laidMetH_plain _ _ _ (by kernel_rfl)]
  exact laidMet_of_run' 8 (by kernel_rfl) (by kernel_rfl)
end Go.Proofs.YtcdmmcogegnieaaGreatDoor.op
end
