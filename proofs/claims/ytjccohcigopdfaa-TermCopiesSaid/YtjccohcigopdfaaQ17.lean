/- Texts behind tokens that open nothing: shifts. Plain lists.; Tokens as the reader sees them: one row behind another; a text's one sentence. Plain lists.; A term in brackets once and twice. Plain lists.; An integer's text, read. Plain lists. -/
import Derived.Test.YtjccohcigopdfaaQ12
import Derived.Test.YtjccohcigopdfaaQ16
import Derived.Test.YtjccohcigopdfaaQ15
import Derived.Test.YtjccohcigopdfaaQ10
set_option linter.unusedVariables false
set_option linter.unusedSimpArgs false
section
/- Texts behind tokens that open nothing: shifts. Plain lists. -/
namespace Go.Proofs.Ytjccohcigopdfaa.lx

/-- the last token of T, an atom, ends ahead of d -/
def Ahead2 (T : List Tok) (d : Nat) : Prop := ∀ t, T.getLast? = some t → t.kind = 1 → t.to < d
theorem opens_shift2 {T : List Tok} {d : Nat} (h : Ahead2 T d) (ts : List Tok) (n : Nat) : opens (T ++ ts.map (shT d)) (n + d) = opens ts n := by
  unfold opens
  rcases ts.eq_nil_or_concat with rfl | ⟨l, t, rfl⟩
  · simp only [List.map_nil, List.append_nil, List.getLast?_nil]
    cases hT : T.getLast? with
    | none => rfl
    | some t =>
      have := h t hT
      by_cases hk : t.kind = 1
      · have h2 := this hk
        have e : (t.to == n + d) = false := by simp; omega
        simp [e]
      · have e : (t.kind == 1) = false := by simpa using hk
        simp [e]
  · rw [List.concat_eq_append, List.map_append, ← List.append_assoc]
    simp only [List.map_cons, List.map_nil, List.getLast?_append, List.getLast?_singleton, Option.some_or]
    show ((shT d t).kind == 1 && (shT d t).to == n + d) = (t.kind == 1 && t.to == n)
    simp only [shT]
    congr 1
    rw [Bool.eq_iff_iff]; simp
theorem opening_shift2 {T : List Tok} {d : Nat} (h : Ahead2 T d) (ts : List Tok) (n : Nat) (b : UInt8) : opening (T ++ ts.map (shT d)) (n + d) b = shR T d (opening ts n b) := by
  unfold opening
  rw [opens_shift2 h]
  by_cases h6 : cl b = 6
  · rw [if_pos h6, if_pos h6]; rfl
  rw [if_neg h6, if_neg h6]
  by_cases h7 : cl b = 7
  · rw [if_pos h7, if_pos h7]; simp [shR, shM, shT]; omega
  rw [if_neg h7, if_neg h7]
  by_cases h8 : cl b = 8
  · rw [if_pos h8, if_pos h8]; simp [shR, shM, shT]; omega
  rw [if_neg h8, if_neg h8]
  by_cases h46 : b = 46
  · rw [if_pos h46, if_pos h46]; rfl
  rw [if_neg h46, if_neg h46]; rfl
theorem start_shift2 {T : List Tok} {d M : Nat} (h : Ahead2 T d) (hM : T.length ≤ M) (ts : List Tok) (n : Nat) (b : UInt8) : start M (T ++ ts.map (shT d)) (n + d) b = shR T d (start (M - T.length) ts n b) := by
  unfold start
  rw [opening_shift2 h]
  by_cases h1 : cl b = 1
  · rw [if_pos h1, if_pos h1]; rfl
  rw [if_neg h1, if_neg h1]
  by_cases h2 : b = 37
  · rw [if_pos h2, if_pos h2]; rfl
  rw [if_neg h2, if_neg h2]
  by_cases h3 : b = 47
  · rw [if_pos h3, if_pos h3]; rfl
  rw [if_neg h3, if_neg h3]
  by_cases h0 : cl b = 0
  · rw [if_pos h0, if_pos h0]; rfl
  rw [if_neg h0, if_neg h0]
  by_cases hl : ts.length = M - T.length
  · rw [if_pos ((len_shift T ts d M hM).2 hl), if_pos hl]; rfl
  rw [if_neg (mt (len_shift T ts d M hM).1 hl), if_neg hl]
theorem step_shift2 {T : List Tok} {d M : Nat} (h : Ahead2 T d) (hM : T.length ≤ M) (ts : List Tok) (n : Nat) (b : UInt8) (m : Mode) (hm : At n m) :
    step M (T ++ ts.map (shT d)) (n + d) b (shM d m) = shR T d (step (M - T.length) ts n b m) := by
  have key : ∀ (t : Tok), start M (T ++ ts.map (shT d) ++ [⟨t.kind, t.text, t.frm + d, t.to + d⟩]) (n + d) b = shR T d (start (M - T.length) (ts ++ [t]) n b) := fun t => by
    have := start_shift2 h hM (ts ++ [t]) n b
    rwa [← snoc_shift] at this
  cases m with
  | btw => exact start_shift2 h hM ts n b
  | line => simp only [shM, step]; split <;> rfl
  | slash f =>
    simp only [shM, step]
    by_cases h1 : b = 42
    · rw [if_pos h1, if_pos h1]; rfl
    rw [if_neg h1, if_neg h1]
    by_cases hl : ts.length = M - T.length
    · rw [if_pos ((len_shift T ts d M hM).2 hl), if_pos hl]; rfl
    rw [if_neg (mt (len_shift T ts d M hM).1 hl), if_neg hl]
    by_cases h5 : cl b = 5
    · rw [if_pos h5, if_pos h5]; rfl
    rw [if_neg h5, if_neg h5]; exact key ⟨1, [47], f, n⟩
  | dot f =>
    simp only [shM, step]
    by_cases h5 : cl b = 5
    · rw [if_pos h5, if_pos h5]; rfl
    rw [if_neg h5, if_neg h5]; exact key ⟨_, [46], f, n⟩
  | rem f => simp only [shM, step]; split <;> rfl
  | star f =>
    simp only [shM, step]
    split
    · rfl
    · split <;> rfl
  | word c f acc =>
    simp only [shM, step]
    split
    · rfl
    · exact key ⟨_, acc, f, n⟩
  | quo f acc =>
    simp only [shM, step]
    split
    · rfl
    · split
      · rfl
      · split <;> rfl
  | quoq f acc =>
    simp only [shM, step]
    split
    · rfl
    · exact key ⟨1, acc, f, n⟩
  | esc f acc =>
    have h1 : 1 ≤ n := hm
    simp only [shM, step]
    split
    · rfl
    · split
      · rfl
      · split
        · rfl
        · simp only [shR]; congr 1; omega
theorem ans_shift2 {T : List Tok} {d M : Nat} (h : Ahead2 T d) (hM : T.length ≤ M) : ∀ (l : List UInt8) (ts : List Tok) (n : Nat) (m : Mode), At n m →
    ans M l (T ++ ts.map (shT d)) (n + d) (shM d m) = shO T d (ans (M - T.length) l ts n m) := by
  intro l
  induction l with
  | nil => intro ts n m _; exact fin_shift hM ts n m
  | cons b l ih =>
    intro ts n m hm
    rw [ans_cons, ans_cons, step_shift2 h hM ts n b m hm]
    cases hs : step (M - T.length) ts n b m with
    | go ts' m' =>
      simp only [shR]
      rw [show n + d + 1 = n + 1 + d from by omega]
      exact ih ts' (n + 1) m' (by cases m' <;> simp [At])
    | bad p e => rfl


theorem sh_ok {T c : List Tok} {d : Nat} {o : Out} (h : shO T d o = .ok c) : ∃ b, o = .ok b ∧ c = T ++ b.map (shT d) := by
  cases o with
  | ok b => cases h; exact ⟨b, rfl, rfl⟩
  | bad p e => cases h
end Go.Proofs.Ytjccohcigopdfaa.lx
end
section
/- Tokens as the reader sees them: one row behind another; a text's one sentence. Plain lists. -/
namespace Go.Proofs.Ytjccohcigopdfaa.rd
open Go.Proofs.Ytjccohcigopdfaa.lx (Tok Out toks toksD shT shT)

/-- tokens as the reader sees them ahead of the token e -/
def abw : List Tok → Tok → List K
  | [], _ => []
  | [a], e => [⟨a.kind, a.text, nearB a e⟩]
  | a :: b :: l, e => ⟨a.kind, a.text, nearB a b⟩ :: abw (b :: l) e
theorem ab_app (l : List Tok) (e : Tok) (r : List Tok) : ab (l ++ e :: r) = abw l e ++ ab (e :: r) := by
  induction l with
  | nil => rfl
  | cons a l ih =>
    cases l with
    | nil => rfl
    | cons b l =>
      show (⟨a.kind, a.text, nearB a b⟩ : K) :: ab (b :: l ++ e :: r) = (⟨a.kind, a.text, nearB a b⟩ :: abw (b :: l) e) ++ ab (e :: r)
      rw [ih]; rfl
theorem near_sh (d : Nat) (a b : Tok) : nearB (shT d a) (shT d b) = nearB a b := by
  show (a.kind == 1 && b.frm + d == a.to + d) = (a.kind == 1 && b.frm == a.to)
  congr 1
  rw [Bool.eq_iff_iff]; simp
theorem abw_sh (d : Nat) (l : List Tok) (e : Tok) : abw (l.map (shT d)) (shT d e) = abw l e := by
  induction l with
  | nil => rfl
  | cons a l ih =>
    cases l with
    | nil => show [(⟨a.kind, a.text, nearB (shT d a) (shT d e)⟩ : K)] = _; rw [near_sh]; rfl
    | cons b l =>
      show (⟨a.kind, a.text, nearB (shT d a) (shT d b)⟩ : K) :: abw ((b :: l).map (shT d)) (shT d e) = ⟨a.kind, a.text, nearB a b⟩ :: abw (b :: l) e
      rw [ih, near_sh]
theorem ab_sh (d : Nat) (l : List Tok) : ab (l.map (shT d)) = ab l := by
  rcases l.eq_nil_or_concat with rfl | ⟨r, t, rfl⟩
  · rfl
  · rw [List.concat_eq_append, List.map_append]
    show ab (r.map (shT d) ++ shT d t :: []) = ab (r ++ t :: [])
    rw [ab_app, ab_app, abw_sh]; rfl
theorem near_no {a b : Tok} (h : a.kind ≠ 1) : nearB a b = false := by unfold nearB; simp [h]
/-- behind a token that is no atom -/
theorem ab_cut {l r : List Tok} {e : Tok} (he : e.kind ≠ 1) : ab (l ++ [e] ++ r) = ab (l ++ [e]) ++ ab r := by
  rw [List.append_assoc]
  show ab (l ++ e :: r) = ab (l ++ e :: []) ++ ab r
  rw [ab_app, ab_app]
  cases r with
  | nil => rw [List.append_assoc]; rfl
  | cons b r =>
    show abw l e ++ (⟨e.kind, e.text, nearB e b⟩ :: ab (b :: r)) = abw l e ++ [⟨e.kind, e.text, false⟩] ++ ab (b :: r)
    rw [near_no he]; simp

/-! ### sentences -/
theorem term_suffix {d : Nat} {most : Int} {l l' : List K} {n n' : List (List UInt8)} {t : T} (h : termP d most (l, n) = .ok (t, (l', n'))) : ∃ X, l = X ++ l' := by
  have hS : Sim (fun s s' : St => s = s' ∧ ∃ X, l = X ++ s.1) := ⟨fun h => by rw [h.1], fun ⟨h, _⟩ _ ⟨_, X, hX⟩ => ⟨by rw [h], X, hX⟩, fun {s s'} ⟨h, X, hX⟩ => .inl (by
    subst h
    refine ⟨rfl, rfl, ?_⟩
    cases hs : s.1 with
    | nil => rw [hs] at hX; exact ⟨X, hX⟩
    | cons a r => rw [hs] at hX; exact ⟨X ++ [a], by rw [hX]; simp⟩)⟩
  obtain ⟨s1', _, ⟨_, X, hX⟩, _⟩ := term_sim hS d d (Nat.le_refl _) most (l, n) (l, n) ⟨rfl, [], rfl⟩ t _ h
  exact ⟨X, hX⟩
theorem sent_parts {l r : List K} {x : Sn} (h : sentP l = .ok (x, r)) : ∃ X k, l = X ++ k :: r ∧ k.kind = 6 ∧ termP 65 1200 (X ++ k :: r, []) = .ok (x.1, (k :: r, x.2)) := by
  unfold sentP at h
  cases hx : termP 65 1200 (l, []) with
  | error k => rw [hx] at h; cases h
  | ok ts =>
    obtain ⟨t, ⟨s, n⟩⟩ := ts
    rw [hx] at h
    dsimp only at h
    split at h
    · rename_i hk
      cases h
      cases s with
      | nil => exact absurd hk (by decide)
      | cons k r =>
        obtain ⟨X, rfl⟩ := term_suffix hx
        exact ⟨X, k, rfl, hk, hx⟩
    · cases h
theorem sent_more {l r : List K} {x : Sn} (h : sentP l = .ok (x, r)) (Y : List K) : sentP (l ++ Y) = .ok (x, r ++ Y) ∧ r.length < l.length := by
  obtain ⟨X, k, rfl, hk, ht⟩ := sent_parts h
  have h1 : (nx (k :: r)).kind = 6 := hk
  have h2 : dull (nx (k :: (r ++ Y))) := .inl hk
  have := term_ctx (X' := []) h1 h2 ht
  refine ⟨?_, by simp; omega⟩
  unfold sentP
  rw [show X ++ k :: r ++ Y = X ++ k :: (r ++ Y) by simp, this]
  show (if k.kind = 6 then _ else _) = _
  rw [if_pos hk]; rfl
theorem sents_more {Y : List K} {b : List Sn} : ∀ (f : Nat) (l : List K) (a : List Sn) (g h : Nat), l.length ≤ f → sentsP f l = .ok a → sentsP g Y = .ok b → Y.length ≤ g → (l ++ Y).length ≤ h → sentsP h (l ++ Y) = .ok (a ++ b) := by
  have hfuel : ∀ (n : Nat) (Y : List K) (b : List Sn) (g h : Nat), Y.length ≤ n → Y.length ≤ g → Y.length ≤ h → sentsP g Y = .ok b → sentsP h Y = .ok b := by
    intro n
    induction n with
    | zero =>
      intro Y b g h h1 _ _ hs
      have : Y = [] := List.length_eq_zero_iff.1 (by omega)
      subst this
      have e : ∀ k, sentsP k [] = .ok [] := fun k => by cases k <;> simp [sentsP]
      rw [e] at hs ⊢; exact hs
    | succ n ih =>
      intro Y b g h h1 h2 h3 hs
      by_cases hY : Y = []
      · subst hY
        have e : ∀ k, sentsP k [] = .ok [] := fun k => by cases k <;> simp [sentsP]
        rw [e] at hs ⊢; exact hs
      · have hl : 0 < Y.length := List.length_pos_iff.2 hY
        obtain ⟨g, rfl⟩ : ∃ k, g = k + 1 := ⟨g - 1, by omega⟩
        obtain ⟨h, rfl⟩ : ∃ k, h = k + 1 := ⟨h - 1, by omega⟩
        rw [sentsP, if_neg hY] at hs ⊢
        cases hx : sentP Y with
        | error k => rw [hx] at hs; cases hs
        | ok xr =>
          obtain ⟨x, r⟩ := xr
          rw [hx] at hs
          dsimp only at hs ⊢
          have hlt := (sent_more hx []).2
          cases hr : sentsP g r with
          | error k => rw [hr] at hs; cases hs
          | ok ts =>
            rw [hr] at hs
            rw [ih r ts g h (by omega) (by omega) (by omega) hr]
            exact hs
  intro f
  induction f with
  | zero =>
    intro l a g h hl hs hy hg hh
    have : l = [] := List.length_eq_zero_iff.1 (by omega)
    subst this
    rw [sentsP] at hs; cases hs
    rw [List.nil_append] at hh ⊢
    exact hfuel _ Y b g h (Nat.le_refl _) hg hh hy
  | succ f ih =>
    intro l a g h hl hs hy hg hh
    by_cases hL : l = []
    · subst hL
      rw [sentsP, if_pos rfl] at hs; cases hs
      rw [List.nil_append] at hh ⊢
      exact hfuel _ Y b g h (Nat.le_refl _) hg hh hy
    · rw [sentsP, if_neg hL] at hs
      cases hx : sentP l with
      | error k => rw [hx] at hs; cases hs
      | ok xr =>
        obtain ⟨x, r⟩ := xr
        rw [hx] at hs
        dsimp only at hs
        obtain ⟨hm, hlt⟩ := sent_more hx Y
        cases hr : sentsP f r with
        | error k => rw [hr] at hs; cases hs
        | ok ts =>
          rw [hr] at hs
          cases hs
          rw [List.length_append] at hh
          obtain ⟨h, rfl⟩ : ∃ k, h = k + 1 := ⟨h - 1, by have := List.length_pos_iff.2 hL; omega⟩
          rw [sentsP, if_neg (by simp [hL]), hm]
          dsimp only
          rw [ih r ts g h (by omega) hr hy hg (by rw [List.length_append]; omega)]
          rfl
/-- sentences end as a sentence does -/
theorem sents_end : ∀ (f : Nat) (l : List K) (a : List Sn), l.length ≤ f → sentsP f l = .ok a → l = [] ∨ ∃ X k, l = X ++ [k] ∧ k.kind = 6 := by
  intro f
  induction f with
  | zero => intro l a hl _; exact .inl (List.length_eq_zero_iff.1 (by omega))
  | succ f ih =>
    intro l a hl hs
    by_cases hL : l = []
    · exact .inl hL
    · right
      rw [sentsP, if_neg hL] at hs
      cases hx : sentP l with
      | error k => rw [hx] at hs; cases hs
      | ok xr =>
        obtain ⟨x, r⟩ := xr
        rw [hx] at hs
        dsimp only at hs
        have hlt := (sent_more hx []).2
        obtain ⟨X, k, rfl, hk, _⟩ := sent_parts hx
        cases hr : sentsP f r with
        | error k => rw [hr] at hs; cases hs
        | ok ts =>
          rcases ih r ts (by omega) hr with rfl | ⟨Z, k2, rfl, hk2⟩
          · exact ⟨X, k, rfl, hk⟩
          · exact ⟨X ++ k :: Z, k2, by simp, hk2⟩
/-- one sentence -/
theorem one_sent {l : List K} {x : Sn} {f : Nat} (hl : l.length ≤ f) (h : sentsP f l = .ok [x]) : sentP l = .ok (x, []) := by
  cases f with
  | zero => rw [sentsP] at h; cases h
  | succ f =>
    by_cases hL : l = []
    · rw [sentsP, if_pos hL] at h; cases h
    · rw [sentsP, if_neg hL] at h
      cases hx : sentP l with
      | error k => rw [hx] at h; cases h
      | ok xr =>
        obtain ⟨y, r⟩ := xr
        rw [hx] at h
        dsimp only at h
        have hlt := (sent_more hx []).2
        cases hr : sentsP f r with
        | error k => rw [hr] at h; cases h
        | ok ts =>
          rw [hr] at h
          cases h
          by_cases hR : r = []
          · subst hR; rfl
          · exfalso
            obtain ⟨f, rfl⟩ : ∃ k, f = k + 1 := ⟨f - 1, by have := List.length_pos_iff.2 hR; omega⟩
            rw [sentsP, if_neg hR] at hr
            cases h2 : sentP r with
            | error k => rw [h2] at hr; cases hr
            | ok yr =>
              obtain ⟨y2, r2⟩ := yr
              rw [h2] at hr
              dsimp only at hr
              cases h3 : sentsP f r2 with
              | error k => rw [h3] at hr; cases hr
              | ok t2 => rw [h3] at hr; cases hr
theorem sent_one {l : List K} {x : Sn} {f : Nat} (hf : 0 < f) (h : sentP l = .ok (x, [])) : sentsP f l = .ok [x] := by
  obtain ⟨f, rfl⟩ : ∃ k, f = k + 1 := ⟨f - 1, by omega⟩
  have hL : l ≠ [] := fun e => by subst e; have := (sent_more h []).2; simp at this
  rw [sentsP, if_neg hL, h]
  have e : ∀ k, sentsP k [] = .ok [] := fun k => by cases k <;> simp [sentsP]
  dsimp only
  rw [e]
/-- what oneP is -/
theorem oneP_ok {l : List UInt8} {x : Sn} (h : oneP l = .ok x) : ∃ ts, toksD (endP l) = .ok ts ∧ sentP (ab ts) = .ok (x, []) := by
  unfold oneP at h
  cases ho : toksD (endP l) with
  | bad p e => rw [ho] at h; cases h
  | ok ts =>
    rw [ho] at h
    refine ⟨ts, rfl, ?_⟩
    have hr : readP (.ok ts) = sentsP ts.length (ab ts) := rfl
    rw [hr] at h
    cases hs : sentsP ts.length (ab ts) with
    | error k => rw [hs] at h; cases h
    | ok v =>
      rw [hs] at h
      match v, h, hs with
      | [y], h, hs => cases h; exact one_sent (by rw [ab_len]; exact Nat.le_refl _) hs
theorem oneP_of {l : List UInt8} {x : Sn} {ts : List Tok} (ht : toksD (endP l) = .ok ts) (h : sentP (ab ts) = .ok (x, [])) : oneP l = .ok x := by
  unfold oneP
  rw [ht]
  have hr : readP (.ok ts) = sentsP ts.length (ab ts) := rfl
  rw [hr, sent_one ?_ h]
  have := (sent_more h []).2
  rw [ab_len] at this
  simpa using this
/-- a sentence of a term and its end -/
theorem sent_of {l : List K} {t : T} {n : List (List UInt8)} {k : K} (hk : k.kind = 6) (h : termP 65 1200 (l, []) = .ok (t, ([k], n))) : sentP l = .ok ((t, n), []) := by
  unfold sentP; rw [h]
  show (if k.kind = 6 then _ else _) = _
  rw [if_pos hk]; rfl
end Go.Proofs.Ytjccohcigopdfaa.rd
end
section
/- A term in brackets once and twice. Plain lists. -/
namespace Go.Proofs.Ytjccohcigopdfaa.lx

theorem start_mark {M : Nat} {ts : List Tok} {n : Nat} {b : UInt8} (h8 : cl b = 8) (h1 : b ≠ 37) (h2 : b ≠ 47) : start M ts n b = if ts.length = M then .bad n 34 else .go (ts ++ [⟨if b = 40 ∧ opens ts n = true then 4 else 5, [b], n, n + 1⟩]) .btw := by
  unfold start opening
  rw [if_neg (by omega), if_neg h1, if_neg h2, if_neg (by omega)]
  split
  · rfl
  · simp [h8]
/-- behind a line feed: between two tokens, or in a remark -/
theorem feed_mode {M : Nat} {ts ts' : List Tok} {n : Nat} {m m' : Mode} (h : step M ts n 10 m = .go ts' m') : m' = .btw ∨ ∃ f, m' = .rem f := by
  have hst : ∀ (T : List Tok), start M T n 10 = .go T .btw := fun T => by unfold start; rw [if_pos (by decide)]
  have hj : ∀ c, joinB c (cl 10) = false := fun c => by
    unfold joinB
    repeat' split
    · decide
    · rename_i hc; rcases hc with rfl | rfl <;> decide
    · rfl
  cases m with
  | btw => rw [step, hst] at h; cases h; exact .inl rfl
  | line => rw [step, if_pos rfl] at h; cases h; exact .inl rfl
  | slash f =>
    rw [step, if_neg (by decide)] at h
    split at h
    · cases h
    · rw [if_neg (by decide), hst] at h; cases h; exact .inl rfl
  | dot f => rw [step, if_neg (by decide), hst] at h; cases h; exact .inl rfl
  | rem f => rw [step, if_neg (by decide)] at h; cases h; exact .inr ⟨_, rfl⟩
  | star f => rw [step, if_neg (by decide), if_neg (by decide)] at h; cases h; exact .inr ⟨_, rfl⟩
  | word c f acc => rw [step, if_neg (by rw [hj]; decide), hst] at h; cases h; exact .inl rfl
  | quo f acc => rw [step, if_neg (by decide), if_neg (by decide), if_pos (.inl (by decide))] at h; cases h
  | quoq f acc => rw [step, if_neg (by decide), hst] at h; cases h; exact .inl rfl
  | esc f acc => rw [step, if_neg (by decide), if_neg (by decide), if_neg (by decide)] at h; cases h
theorem run_append (M : Nat) (k l : List UInt8) (ts : List Tok) (n : Nat) (m : Mode) :
    run M (k ++ l) ts n m = match run M k ts n m with | .go ts' m' => run M l ts' (n + k.length) m' | .bad p e => .bad p e := by
  induction k generalizing ts n m with
  | nil => rfl
  | cons b k ih =>
    rw [List.cons_append, run, run]
    cases h : step M ts n b m with
    | go ts' m' => simp only [ih]; rw [List.length_cons, show n + (k.length + 1) = n + 1 + k.length from by omega]
    | bad p e => rfl
/-- a text that ends in a line feed and closing brackets -/
theorem closed {s : List UInt8} {c : List Tok} (j : Nat) (h : toks (s ++ 10 :: List.replicate (j + 1) 41) = .ok c) :
    run 1000 (s ++ 10 :: List.replicate (j + 1) 41) [] 0 .btw = .go c .btw ∧ ∃ t, c = t ++ [⟨5, [41], s.length + 1 + j, s.length + 2 + j⟩] := by
  have hmark : ∀ (T : List Tok) (n : Nat), start 1000 T n 41 = if T.length = 1000 then .bad n 34 else .go (T ++ [⟨5, [41], n, n + 1⟩]) .btw := fun T n => by
    rw [start_mark (by decide) (by decide) (by decide)]; rfl
  have hrem : ∀ (j : Nat) (T : List Tok) (n f : Nat), run 1000 (List.replicate j 41) T n (.rem f) = .go T (.rem f) := by
    intro j
    induction j with
    | zero => intro T n f; rfl
    | succ j ih => intro T n f; rw [List.replicate_succ, run, step, if_neg (by decide)]; exact ih _ _ _
  have hbtw : ∀ (j : Nat) (T : List Tok) (n : Nat) (T' : List Tok) (m' : Mode), run 1000 (List.replicate (j + 1) 41) T n .btw = .go T' m' → m' = .btw ∧ ∃ t, T' = t ++ [⟨5, [41], n + j, n + j + 1⟩] := by
    intro j
    induction j with
    | zero =>
      intro T n T' m' hr
      rw [show List.replicate (0 + 1) (41 : UInt8) = [41] from rfl, run, step, hmark] at hr
      split at hr
      · rename_i hh; split at hh <;> cases hh; cases hr; exact ⟨rfl, _, rfl⟩
      · cases hr
    | succ j ih =>
      intro T n T' m' hr
      rw [List.replicate_succ, run, step, hmark] at hr
      split at hr
      · rename_i hh; split at hh <;> cases hh
        obtain ⟨a, t, b⟩ := ih _ _ _ _ hr
        exact ⟨a, t, by rw [b, show n + 1 + j = n + (j + 1) from by omega]⟩
      · cases hr
  unfold toks at h
  rw [ans_run, run_append] at h
  rw [run_append]
  cases h1 : run 1000 s [] 0 .btw with
  | bad p e => rw [h1] at h; cases h
  | go t1 m1 =>
    rw [h1] at h
    dsimp only at h ⊢
    rw [run] at h ⊢
    cases h2 : step 1000 t1 (0 + s.length) 10 m1 with
    | bad p e => rw [h2] at h; cases h
    | go t2 m2 =>
      rw [h2] at h
      dsimp only at h ⊢
      rcases feed_mode h2 with rfl | ⟨f, rfl⟩
      · cases h3 : run 1000 (List.replicate (j + 1) 41) t2 (0 + s.length + 1) .btw with
        | bad p e => rw [h3] at h; cases h
        | go t3 m3 =>
          rw [h3] at h
          obtain ⟨rfl, t, ht⟩ := hbtw j _ _ _ _ h3
          dsimp only [fin] at h
          cases h
          exact ⟨rfl, t, by rw [ht, show 0 + s.length + 1 + j = s.length + 1 + j from by omega, show s.length + 1 + j + 1 = s.length + 2 + j from by omega]⟩
      · rw [hrem] at h
        cases h
/-- a blank and a dot behind a text at rest -/
theorem dotted {l : List UInt8} {c : List Tok} (h : run 1000 l [] 0 .btw = .go c .btw) : toks (l ++ [32, 46]) = if c.length = 1000 then .bad (l.length + 1) 34 else .ok (c ++ [⟨6, [46], l.length + 1, l.length + 2⟩]) := by
  unfold toks
  rw [ans_append, h]
  dsimp only
  rw [Nat.zero_add, ans_space, ans_cons, step]
  have hst : start 1000 c (l.length + 1) 46 = if c.length = 1000 then .bad (l.length + 1) 34 else .go c (.dot (l.length + 1)) := by
    unfold start opening
    rw [if_neg (by decide), if_neg (by decide), if_neg (by decide), if_neg (by decide)]
    split
    · rfl
    · rw [if_neg (by decide), if_neg (by decide), if_neg (by decide), if_pos rfl]
  rw [hst]
  by_cases hc : c.length = 1000
  · rw [if_pos hc, if_pos hc]
  · rw [if_neg hc, if_neg hc]; rfl
theorem at_rest {l : List UInt8} {c : List Tok} (h : run 1000 l [] 0 .btw = .go c .btw) : toks l = .ok c := by
  unfold toks; rw [ans_run, h]; rfl
/-- an opening bracket in front -/
theorem open1 (U : List UInt8) : toks (40 :: U) = shO [⟨5, [40], 0, 1⟩] 1 (ans 999 U [] 0 .btw) := by
  unfold toks
  rw [ans_cons, step, start_mark (by decide) (by decide) (by decide), if_neg (by decide)]
  exact ans_shift2 (T := [⟨5, [40], 0, 1⟩]) (d := 1) (M := 1000) (fun t ht => by cases ht; intro h; exact absurd h (by decide)) (by decide) U [] 0 .btw trivial
theorem open2 (U : List UInt8) : toks (40 :: 40 :: U) = shO [⟨5, [40], 0, 1⟩, ⟨5, [40], 1, 2⟩] 2 (ans 998 U [] 0 .btw) := by
  unfold toks
  rw [ans_cons, step, start_mark (by decide) (by decide) (by decide), if_neg (by decide)]
  dsimp only
  rw [ans_cons, step, start_mark (by decide) (by decide) (by decide), if_neg (by decide)]
  exact ans_shift2 (T := [⟨5, [40], 0, 1⟩, ⟨5, [40], 1, 2⟩]) (d := 2) (M := 1000) (fun t ht => by cases ht; intro h; exact absurd h (by decide)) (by decide) U [] 0 .btw trivial
theorem up1000 {M : Nat} {U : List UInt8} {c : List Tok} (hM : M ≤ 1000) (h : ans M U [] 0 .btw = .ok c) (hc : c.length ≤ 1000) : toks U = .ok c := (ans_less (M' := 1000) U [] 0 .btw h).2 hc
end Go.Proofs.Ytjccohcigopdfaa.lx
namespace Go.Proofs.Ytjccohcigopdfaa.rd
open Go.Proofs.Ytjccohcigopdfaa.lx (Tok Out toks toksD shT shO closed dotted at_rest open1 open2 up1000 sh_ok toksD_small ans_many)

def bo : K := ⟨5, [40], false⟩
def bc : K := ⟨5, [41], false⟩
def en : K := ⟨6, [46], false⟩
theorem ends_mark {t : List Tok} {f g : Nat} : endsB (t ++ [⟨5, [41], f, g⟩]) = false := by unfold endsB; rw [List.getLast?_concat]; rfl
theorem toks_le {l : List UInt8} {c : List Tok} (h : toks l = .ok c) : c.length ≤ 1000 := ans_many l [] 0 .btw (by simp [lx.pend]) h
/-- the tokens of a text in brackets, its sentence's end behind -/
theorem in_brackets {s' : List UInt8} {j : Nat} (hl : (s' ++ 10 :: List.replicate (j + 1) 41).length ≤ 4000) {x : Sn} (h : oneP (s' ++ 10 :: List.replicate (j + 1) 41) = .ok x) :
    ∃ c E, toks (s' ++ 10 :: List.replicate (j + 1) 41) = .ok c ∧ E.kind = 6 ∧ E.text = [46] ∧ sentP (ab (c ++ [E])) = .ok (x, []) := by
  generalize hA : s' ++ 10 :: List.replicate (j + 1) 41 = A at *
  obtain ⟨ts, h1, h2⟩ := oneP_ok h
  cases ho : toksD A with
  | bad p e =>
    have he : endP A = A := by unfold endP; rw [ho]
    rw [he, ho] at h1; cases h1
  | ok c =>
    have hc : toks A = .ok c := by rw [toksD_small (by omega)] at ho; exact ho
    obtain ⟨hr, t, ht⟩ := closed j (hA ▸ hc)
    rw [hA] at hr
    have he : endP A = A ++ [32, 46] := by unfold endP; rw [ho]; dsimp only; rw [ht, ends_mark]; rfl
    rw [he, toksD_small (by simp; omega), dotted hr] at h1
    split at h1
    · cases h1
    · cases h1
      exact ⟨c, ⟨6, [46], A.length + 1, A.length + 2⟩, hc, rfl, rfl, h2⟩
theorem operand_open {W' : W} {most : Int} {l : List K} {nm : List (List UInt8)} : operandP W' most (bo :: l, nm) = zeroP (bracketP W' [41] (l, nm)) := by
  unfold operandP
  dsimp only
  rw [if_neg (by show ¬ (5 : Nat) = 1; decide), if_neg (by show ¬ (5 : Nat) = 2; decide), if_neg (by show ¬ (5 : Nat) = 3; decide), if_neg (by show ¬ (5 : Nat) = 4; decide)]
  unfold markedP
  rw [if_pos (by rfl)]
  rfl
/-- P5.1: brackets once and twice -/
theorem brackets {s : List UInt8} (hs : s.length ≤ 1024) {x y : Sn} (hx : oneP (40 :: (s ++ [10, 41])) = .ok x) (hy : oneP (40 :: 40 :: (s ++ [10, 41, 41])) = .ok y) : x.1 = y.1 := by
  obtain ⟨ca, ea, a1, a2, a3, a4⟩ := in_brackets (s' := 40 :: s) (j := 0) (by simp; omega) hx
  obtain ⟨cb, eb, b1, b2, b3, b4⟩ := in_brackets (s' := 40 :: 40 :: s) (j := 1) (by simp; omega) hy
  -- the tokens of the text
  have a1' : toks (40 :: (s ++ [10, 41])) = .ok ca := a1
  have b1' : toks (40 :: 40 :: ((s ++ [10, 41]) ++ [41])) = .ok cb := by rw [← b1]; simp [List.replicate]
  have la := toks_le a1'
  have lb := toks_le b1'
  rw [open1] at a1'
  rw [open2] at b1'
  obtain ⟨c, hc, rfl⟩ := sh_ok a1'
  obtain ⟨c', hc', rfl⟩ := sh_ok b1'
  simp only [List.length_append, List.length_map, List.length_cons, List.length_nil] at la lb
  have hU := up1000 (by decide) hc (by omega)
  have hU' := up1000 (by decide) hc' (by omega)
  obtain ⟨hr, t, ht⟩ := closed 0 hU
  have hcc : ∃ q : Tok, q.kind = 5 ∧ q.text = [41] ∧ c' = c ++ [q] := by
    unfold toks at hU'
    rw [lx.ans_append, show s ++ [10, 41] = s ++ 10 :: List.replicate (0 + 1) 41 from rfl, hr] at hU'
    dsimp only at hU'
    rw [lx.ans_cons, lx.step, lx.start_mark (by decide) (by decide) (by decide)] at hU'
    by_cases hl : c.length = 1000
    · rw [if_pos hl] at hU'; cases hU'
    · rw [if_neg hl] at hU'
      cases hU'
      exact ⟨_, rfl, rfl, rfl⟩
  obtain ⟨Q, q1, q2, rfl⟩ := hcc
  generalize hq : (⟨5, [41], s.length + 1 + 0, s.length + 2 + 0⟩ : Tok) = q at ht
  have q3 : q.kind = 5 := by rw [← hq]
  have q4 : q.text = [41] := by rw [← hq]
  subst ht
  -- as the reader sees them
  have one : ∀ (e : Tok) (k : Nat) (z : List UInt8), e.kind = k → e.text = z → ab [e] = [⟨k, z, false⟩] := fun e k z h1 h2 => by show [(⟨e.kind, e.text, false⟩ : K)] = _; rw [h1, h2]
  have kA : ab ([⟨5, [40], 0, 1⟩] ++ (t ++ [q]).map (shT 1) ++ [ea]) = (bo :: ab (t ++ [q])) ++ [en] := by
    have e1 : [⟨5, [40], 0, 1⟩] ++ (t ++ [q]).map (shT 1) ++ [ea] = [] ++ [(⟨5, [40], 0, 1⟩ : Tok)] ++ (t.map (shT 1) ++ [shT 1 q] ++ [ea]) := by simp
    rw [e1, ab_cut (by decide), ab_cut (by show q.kind ≠ 1; omega), one ea 6 [46] a2 a3]
    rw [show t.map (shT 1) ++ [shT 1 q] = (t ++ [q]).map (shT 1) by simp, ab_sh]
    rfl
  have kB : ab ([⟨5, [40], 0, 1⟩, ⟨5, [40], 1, 2⟩] ++ (t ++ [q] ++ [Q]).map (shT 2) ++ [eb]) = bo :: ((bo :: ab (t ++ [q])) ++ [bc, en]) := by
    have e1 : [⟨5, [40], 0, 1⟩, ⟨5, [40], 1, 2⟩] ++ (t ++ [q] ++ [Q]).map (shT 2) ++ [eb] = [] ++ [(⟨5, [40], 0, 1⟩ : Tok)] ++ ([] ++ [(⟨5, [40], 1, 2⟩ : Tok)] ++ (t.map (shT 2) ++ [shT 2 q] ++ ([] ++ [shT 2 Q] ++ [eb]))) := by simp
    rw [e1, ab_cut (by decide), ab_cut (by decide), ab_cut (by show q.kind ≠ 1; omega), ab_cut (by show Q.kind ≠ 1; omega), one eb 6 [46] b2 b3]
    rw [show t.map (shT 2) ++ [shT 2 q] = (t ++ [q]).map (shT 2) by simp, ab_sh, List.nil_append, List.nil_append, List.nil_append, one (shT 2 Q) 5 [41] q1 q2]
    simp [bo, bc, en, ab]
  rw [kA] at a4
  rw [kB] at b4
  generalize bo :: ab (t ++ [q]) = Z at a4 b4
  -- what is read of them
  obtain ⟨X, k, h1, h2, h3⟩ := sent_parts a4
  obtain ⟨rfl, hk⟩ : X = Z ∧ k = en := by
    have := List.append_inj' h1 rfl
    exact ⟨this.1.symm, by simpa using this.2.symm⟩
  subst hk
  have hZ := term_ctx (Y1 := [en]) (Y2 := [bc, en]) (X' := []) (by decide) (.inr ⟨rfl, rfl⟩) h3
  obtain ⟨X2, k2, g1, g2, g3⟩ := sent_parts b4
  rw [← g1] at g3
  have e1 : ∀ d most s, termP (d + 1) most s = match operandP (termP d) most s with | .error e => .error e | .ok ((t, prio), s') => loopP (termP d) most s'.1.length t prio s' := fun _ _ _ => rfl
  rw [e1 64, operand_open] at g3
  cases hb : bracketP (termP 64) [41] (X ++ [bc, en], []) with
  | error k => rw [hb] at g3; cases g3
  | ok us =>
    obtain ⟨u, s1⟩ := us
    rw [hb] at g3
    unfold bracketP at hb
    cases ht : termP 64 1200 (X ++ [bc, en], []) with
    | error k => rw [ht] at hb; cases hb
    | ok vs =>
      obtain ⟨v, s2⟩ := vs
      rw [ht] at hb
      obtain ⟨hm, _⟩ := term_mono (d' := 65) (by decide) ht
      rw [hm] at hZ
      cases hZ
      dsimp only at hb
      have hx : expectP [41] ([] ++ [bc, en], x.2) = .ok ([en], x.2) := rfl
      rw [hx] at hb
      cases hb
      change loopP (termP 64) 1200 1 x.1 0 ([en], x.2) = _ at g3
      rw [loop_stop _ _ _ _ _ _ (.inl rfl)] at g3
      have g4 := Except.ok.inj g3
      exact (congrArg Prod.fst g4).symm.symm
end Go.Proofs.Ytjccohcigopdfaa.rd
end
section
/- An integer's text, read. Plain lists. -/
namespace Go.Proofs.Ytjccohcigopdfaa.lx
open Go.Proofs.Ytjccohcigopdfaa.tx (Digs dec text digs_dec dec_ne)

theorem cl_dig {b : UInt8} (h : 48 ≤ b.toNat ∧ b.toNat ≤ 57) : cl b = 4 := by
  unfold cl cls
  rw [if_neg (by omega), if_neg (by omega), if_pos h]
theorem start_dig {M : Nat} {ts : List Tok} {n : Nat} {b : UInt8} (h : 48 ≤ b.toNat ∧ b.toNat ≤ 57) (hl : ts.length ≠ M) : start M ts n b = .go ts (.word 4 n [b]) := by
  have h4 := cl_dig h
  have n37 : b ≠ 37 := fun e => by subst e; simp at h
  have n47 : b ≠ 47 := fun e => by subst e; simp at h
  have n46 : b ≠ 46 := fun e => by subst e; simp at h
  unfold start opening
  rw [if_neg (by omega), if_neg n37, if_neg n47, if_neg (by omega), if_neg hl, if_neg (by omega), if_neg (by omega), if_neg (by omega), if_neg n46, h4]
theorem ans_digits {M : Nat} {l : List UInt8} (hd : Digs l) (h0 : l ≠ []) (r : List UInt8) {ts : List Tok} (n : Nat) (hl : ts.length ≠ M) : ans M (l ++ r) ts n .btw = ans M r ts (n + l.length) (.word 4 n l) := by
  cases l with
  | nil => exact absurd rfl h0
  | cons b l =>
    rw [List.cons_append, ans_cons, step, start_dig (hd b (by simp)) hl]
    dsimp only
    rw [ans_word M 4 n l r [b] ts (n + 1) (fun c hc => by rw [cl_dig (hd c (by simp [hc]))]; rfl)]
    rw [List.length_cons, show n + 1 + l.length = n + (l.length + 1) from by omega]
    rfl
/-- a minus sign ahead of digits -/
theorem ans_minus {M : Nat} {l : List UInt8} (hd : Digs l) (h0 : l ≠ []) (r : List UInt8) {ts : List Tok} (n : Nat) (hl : ts.length + 2 ≤ M) : ans M (45 :: l ++ r) ts n .btw = ans M (l ++ r) (ts ++ [⟨1, [45], n, n + 1⟩]) (n + 1) .btw := by
  have hs : start M ts n 45 = .go ts (.word 5 n [45]) := by
    unfold start opening
    rw [if_neg (by decide), if_neg (by decide), if_neg (by decide), if_neg (by decide), if_neg (by omega), if_neg (by decide), if_neg (by decide), if_neg (by decide), if_neg (by decide)]
    rfl
  rw [List.cons_append, ans_cons, step, hs]
  dsimp only
  rw [ans_word_end M 5 n (l ++ r) [45] ts (n + 1) (fun b q hb => by
    cases l with
    | nil => exact absurd rfl h0
    | cons c l =>
      rw [List.cons_append] at hb
      cases hb
      rw [cl_dig (hd b (by simp))]; rfl)]
  rfl
/-- the tokens of an integer's text at the place n -/
def intToks (a : Int) (n : Nat) : List Tok := if a < 0 then [⟨1, [45], n, n + 1⟩, ⟨3, dec a.natAbs, n + 1, n + 1 + (dec a.natAbs).length⟩] else [⟨3, dec a.natAbs, n, n + (dec a.natAbs).length⟩]
theorem intToks_len (a : Int) (n : Nat) : 1 ≤ (intToks a n).length ∧ (intToks a n).length ≤ 2 := by unfold intToks; split <;> simp
/-- behind an integer's text: what comes begins no digit -/
theorem ans_int {M : Nat} (a : Int) {r : List UInt8} (hr : ∀ b q, r = b :: q → joinB 4 (cl b) = false) {ts : List Tok} (n : Nat) (hl : ts.length + 2 ≤ M) : ans M (text a ++ r) ts n .btw = ans M r (ts ++ intToks a n) (n + (text a).length) .btw := by
  by_cases h : a < 0
  · rw [tx.text_neg h, ans_minus (digs_dec _) (dec_ne _) r n hl, ans_digits (digs_dec _) (dec_ne _) r (n + 1) (by simp; omega), ans_word_end M 4 (n + 1) r _ _ _ hr]
    unfold intToks
    rw [if_pos h, List.append_assoc, List.length_cons, show n + 1 + (dec a.natAbs).length = n + ((dec a.natAbs).length + 1) from by omega]
    rfl
  · rw [tx.text_pos h, ans_digits (digs_dec _) (dec_ne _) r n (by omega), ans_word_end M 4 n r _ _ _ hr]
    unfold intToks
    rw [if_neg h]
    rfl
theorem toks_int (a : Int) : toks (text a) = .ok (intToks a 0) := by
  have := ans_int (M := 1000) a (r := []) (fun _ _ h => by cases h) (ts := []) 0 (by simp)
  rw [List.append_nil] at this
  unfold toks
  rw [this]; rfl
theorem blank4 : ∀ b q (r : List UInt8), (32 :: r : List UInt8) = b :: q → joinB 4 (cl b) = false := fun b q r h => by cases h; decide
theorem ans_bdot (ts : List Tok) (n : Nat) (hl : ts.length < 1000) : ans 1000 [32, 46] ts n .btw = .ok (ts ++ [⟨6, [46], n + 1, n + 2⟩]) := by
  rw [ans_space, ans_cons, step]
  have hst : start 1000 ts (n + 1) 46 = .go ts (.dot (n + 1)) := by
    unfold start opening
    rw [if_neg (by decide), if_neg (by decide), if_neg (by decide), if_neg (by decide), if_neg (by omega), if_neg (by decide), if_neg (by decide), if_neg (by decide), if_pos rfl]
  rw [hst]; rfl
theorem toks_int_dot (a : Int) : toks (text a ++ [32, 46]) = .ok (intToks a 0 ++ [⟨6, [46], (text a).length + 1, (text a).length + 2⟩]) := by
  unfold toks
  rw [ans_int a (fun b q h => blank4 b q _ h) 0 (by simp), ans_bdot _ _ (by have := intToks_len a 0; simp; omega), List.nil_append, Nat.zero_add]
theorem toks_fun (a : Int) (e : List UInt8) (he : e = [] ∨ e = [32, 46]) : ∃ t : List Tok, toks ([102, 40, 32] ++ text a ++ [32, 41] ++ e) = .ok ([⟨1, [102], 0, 1⟩, ⟨4, [40], 1, 2⟩] ++ intToks a 3 ++ [⟨5, [41], 4 + (text a).length, 5 + (text a).length⟩] ++ t) ∧ (e = [] → t = []) ∧ (e = [32, 46] → t = [⟨6, [46], 6 + (text a).length, 7 + (text a).length⟩]) := by
  have hl := intToks_len a 3
  have h1 : toks ([102, 40, 32] ++ text a ++ [32, 41] ++ e) = ans 1000 (text a ++ 32 :: (41 :: e)) [⟨1, [102], 0, 1⟩, ⟨4, [40], 1, 2⟩] 3 .btw := by
    rw [show [102, 40, 32] ++ text a ++ [32, 41] ++ e = 102 :: 40 :: 32 :: (text a ++ 32 :: (41 :: e)) by simp]
    unfold toks
    rw [ans_cons, step]
    have hs : start 1000 [] 0 102 = .go [] (.word 2 0 [102]) := rfl
    rw [hs]
    dsimp only
    rw [ans_word_end 1000 2 0 _ [102] [] (0 + 1) (fun b q h => by cases h; decide)]
    rw [ans_cons, step]
    have hs2 : start 1000 ([] ++ [⟨kindOf 2, [102], 0, 0 + 1⟩]) (0 + 1) 40 = .go [⟨1, [102], 0, 1⟩, ⟨4, [40], 1, 2⟩] .btw := rfl
    rw [hs2]
    dsimp only
    rw [ans_space]
  rw [h1, ans_int a (fun b q h => blank4 b q _ h) 3 (by simp), ans_space, ans_cons, step, start_mark (by decide) (by decide) (by decide), if_neg (by simp; omega)]
  dsimp only
  rw [if_neg (fun h => absurd h.1 (by decide)), show 3 + (text a).length + 1 = 4 + (text a).length from by omega]
  rcases he with rfl | rfl
  · exact ⟨[], by rw [ans_nil, List.append_nil, show 4 + (text a).length + 1 = 5 + (text a).length from by omega]; rfl, fun _ => rfl, fun h => by cases h⟩
  · exact ⟨_, by rw [ans_bdot _ _ (by simp; omega), show 4 + (text a).length + 1 = 5 + (text a).length from by omega, show 5 + (text a).length + 1 = 6 + (text a).length from by omega, show 5 + (text a).length + 2 = 7 + (text a).length from by omega], (fun h => by cases h), fun _ => rfl⟩
end Go.Proofs.Ytjccohcigopdfaa.lx
namespace Go.Proofs.Ytjccohcigopdfaa.rd
open Go.Proofs.Ytjccohcigopdfaa.op (progI progP)
open Go.Proofs.Ytjccohcigopdfaa.nm (Fit)
open Go.Proofs.Ytjccohcigopdfaa.tx (Digs dec text digs_dec dec_ne parse_yes parseE parseV)
open Go.Proofs.Ytjccohcigopdfaa.lx (Tok Out toks toksD toksD_small intToks toks_int toks_int_dot toks_fun intToks_len)

theorem dec_pos {m : Nat} (h : 1 ≤ m) : ∃ c l, dec m = c :: l ∧ c ≠ 48 := by
  have key : ∀ m r, 1 ≤ m → ∃ c l, tx.decTo m r = c :: l ∧ c ≠ 48 := by
    intro m
    induction m using Nat.strongRecOn with
    | ind m ih =>
      intro r h
      by_cases h1 : m < 10
      · refine ⟨_, _, tx.decTo_lt h1 r, fun e => ?_⟩
        have := congrArg UInt8.toNat e
        rw [tx.dig_nat] at this
        simp at this
        omega
      · rw [tx.decTo_ge h1]; exact ih (m / 10) (by omega) _ (by omega)
  exact key m [] h
theorem trim_dec {m : Nat} (h : 1 ≤ m) : trim (dec m) = dec m := by
  obtain ⟨c, l, e, hc⟩ := dec_pos h
  rw [e]; unfold trim; rw [List.dropWhile_cons]; simp [hc]
theorem trim_dec0 : trim (dec 0) = [] := by unfold dec; rw [tx.decTo_lt (by decide)]; rfl
/-- an integer as the reader sees it -/
def intK (a : Int) : List K := if a < 0 then [⟨1, [45], true⟩, ⟨3, dec a.natAbs, false⟩] else [⟨3, dec a.natAbs, false⟩]
theorem intK_ab (a : Int) (n : Nat) (r : List Tok) : ab (intToks a n ++ r) = intK a ++ ab r := by
  unfold intToks intK
  split
  · rename_i h
    cases r with
    | nil => show [(⟨1, [45], nearB _ _⟩ : K), ⟨3, dec a.natAbs, false⟩] = _; simp [nearB, ab]
    | cons b r =>
      show (⟨1, [45], nearB _ _⟩ : K) :: ⟨3, dec a.natAbs, nearB _ b⟩ :: ab (b :: r) = _
      rw [near_no (a := ⟨3, _, _, _⟩) (by show (3 : Nat) ≠ 1; decide)]
      simp [nearB]
  · cases r with
    | nil => rfl
    | cons b r =>
      show (⟨3, dec a.natAbs, nearB _ b⟩ : K) :: ab (b :: r) = _
      rw [near_no (a := ⟨3, _, _, _⟩) (by show (3 : Nat) ≠ 1; decide)]; rfl
theorem term_e1 (d : Nat) (most : Int) (s : St) : termP (d + 1) most s = match operandP (termP d) most s with | .error e => .error e | .ok ((t, prio), s') => loopP (termP d) most s'.1.length t prio s' := rfl
theorem int_term {a : Int} (ha : Fit a) (d : Nat) (most : Int) {r : List K} (hr : (infixK (nx r)).2.2.2 = false) (nm : List (List UInt8)) : termP (d + 1) most (intK a ++ r, nm) = .ok (.leaf 2 a [], (r, nm)) := by
  have ho : operandP (termP d) most (intK a ++ r, nm) = .ok ((.leaf 2 a [], 0), (r, nm)) := by
    unfold intK
    split
    · rename_i h
      have hp : parseV (45 :: dec a.natAbs) = a ∧ parseE (45 :: dec a.natAbs) = 0 := parse_yes ha (by rw [tx.text_neg h])
      have ht := trim_dec (m := a.natAbs) (by omega)
      unfold operandP
      dsimp only
      rw [if_pos (by rfl)]
      unfold namedP
      dsimp only
      rw [if_neg (by show ¬ (3 : Nat) = 4; decide), if_pos ⟨rfl, rfl, rfl⟩]
      unfold intP
      show zeroP (if trim (dec a.natAbs) = [] then _ else if parseE ([45] ++ trim (dec a.natAbs)) = 0 then .ok (.leaf 2 (parseV ([45] ++ trim (dec a.natAbs))) [], (r, nm)) else .error 51) = _
      rw [ht, if_neg (dec_ne _), show [45] ++ dec a.natAbs = 45 :: dec a.natAbs from rfl, if_pos hp.2, hp.1]
      rfl
    · rename_i h
      have hp : parseV (dec a.natAbs) = a ∧ parseE (dec a.natAbs) = 0 := parse_yes ha (by rw [tx.text_pos h])
      unfold operandP
      dsimp only
      rw [if_neg (by show ¬ (3 : Nat) = 1; decide), if_neg (by show ¬ (3 : Nat) = 2; decide), if_pos (by rfl)]
      unfold intP
      show zeroP (if trim (dec a.natAbs) = [] then .ok (.leaf 2 0 [], (r, nm)) else if parseE ([] ++ trim (dec a.natAbs)) = 0 then .ok (.leaf 2 (parseV ([] ++ trim (dec a.natAbs))) [], (r, nm)) else .error 51) = _
      by_cases h0 : a.natAbs = 0
      · rw [h0, trim_dec0, if_pos rfl, show a = 0 by omega]; rfl
      · rw [trim_dec (by omega), if_neg (dec_ne _), List.nil_append, if_pos hp.2, hp.1]; rfl
  rw [term_e1, ho]
  show loopP (termP d) most r.length (.leaf 2 a []) 0 (r, nm) = _
  rw [loop_stop _ _ _ _ _ _ (.inl hr)]
theorem ends_int (a : Int) (n : Nat) : endsB (intToks a n) = false := by unfold intToks; split <;> rfl
/-- P5.1: an integer's text is that integer -/
theorem numbers {a : Int} (ha : Fit a) : oneP (text a) = .ok (.leaf 2 a [], []) := by
  have hl := tx.text_len ha
  have he : endP (text a) = text a ++ [32, 46] := by unfold endP; rw [toksD_small (by omega), toks_int]; dsimp only; rw [ends_int]; rfl
  refine oneP_of (ts := intToks a 0 ++ [⟨6, [46], (text a).length + 1, (text a).length + 2⟩]) (by rw [he, toksD_small (by simp; omega), toks_int_dot]) ?_
  rw [intK_ab]
  exact sent_of (k := en) rfl (int_term ha 64 1200 (r := [en]) rfl [])
theorem numbers_in {a : Int} (ha : Fit a) : oneP ([102, 40, 32] ++ text a ++ [32, 41]) = .ok (.cmp [102] [.leaf 2 a []], []) := by
  have hl := tx.text_len ha
  obtain ⟨t1, h1, e1, _⟩ := toks_fun a [] (.inl rfl)
  obtain ⟨t2, h2, _, e2⟩ := toks_fun a [32, 46] (.inr rfl)
  rw [e1 rfl, List.append_nil, List.append_nil] at h1
  rw [e2 rfl] at h2
  have he : endP ([102, 40, 32] ++ text a ++ [32, 41]) = [102, 40, 32] ++ text a ++ [32, 41] ++ [32, 46] := by
    unfold endP; rw [toksD_small (by simp; omega), h1]; dsimp only; rw [ends_mark]; rfl
  refine oneP_of (by rw [he, toksD_small (by simp; omega), h2]) ?_
  have hk : ab ([⟨1, [102], 0, 1⟩, ⟨4, [40], 1, 2⟩] ++ intToks a 3 ++ [⟨5, [41], 4 + (text a).length, 5 + (text a).length⟩] ++ [⟨6, [46], 6 + (text a).length, 7 + (text a).length⟩]) = ⟨1, [102], true⟩ :: ⟨4, [40], false⟩ :: (intK a ++ [bc, en]) := by
    have hi := intK_ab a 3 [⟨5, [41], 4 + (text a).length, 5 + (text a).length⟩, ⟨6, [46], 6 + (text a).length, 7 + (text a).length⟩]
    rw [List.append_assoc, List.append_assoc]
    rw [show (intToks a 3 ++ ([⟨5, [41], 4 + (text a).length, 5 + (text a).length⟩] ++ [⟨6, [46], 6 + (text a).length, 7 + (text a).length⟩]) : List Tok) = intToks a 3 ++ [⟨5, [41], 4 + (text a).length, 5 + (text a).length⟩, ⟨6, [46], 6 + (text a).length, 7 + (text a).length⟩] from rfl]
    have h0 : ∀ l : List Tok, ab ([⟨1, [102], 0, 1⟩, ⟨4, [40], 1, 2⟩] ++ l) = ⟨1, [102], true⟩ :: ⟨4, [40], false⟩ :: ab l := fun l => by
      rw [show ([⟨1, [102], 0, 1⟩, ⟨4, [40], 1, 2⟩] ++ l : List Tok) = [⟨1, [102], 0, 1⟩] ++ [⟨4, [40], 1, 2⟩] ++ l from rfl, ab_cut (by decide)]; rfl
    rw [h0, hi]
    rfl
  rw [hk]
  refine sent_of (k := en) rfl ?_
  rw [term_e1]
  have ho : operandP (termP 64) 1200 (⟨1, [102], true⟩ :: ⟨4, [40], false⟩ :: (intK a ++ [bc, en]), []) = .ok ((.cmp [102] [.leaf 2 a []], 0), ([en], [])) := by
    unfold operandP
    dsimp only
    rw [if_pos (by rfl)]
    unfold namedP
    dsimp only
    rw [if_pos (by rfl)]
    have hr : rowP (termP 64) (intK a ++ [bc, en], []) = .ok ([.leaf 2 a []], ([bc, en], [])) := by
      unfold rowP
      rw [int_term ha 63 999 (r := [bc, en]) rfl []]
      rfl
    show (match rowP (termP 64) (intK a ++ [bc, en], []) with | .error e => _ | .ok (l, s2) => _) = _
    rw [hr]
    rfl
  rw [ho]
  rfl
end Go.Proofs.Ytjccohcigopdfaa.rd
end
