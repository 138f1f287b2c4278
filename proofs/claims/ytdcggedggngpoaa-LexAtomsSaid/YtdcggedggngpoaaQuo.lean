/- Quoted names. Plain lists. -/
import Derived.Test.YtdcggedggngpoaaWhole
import Derived.Test.YtdcggedggngpoaaScanQ
namespace Go.Proofs.Ytdcggedggngpoaa.lx

/-- a byte in quotes -/
def enc1 (b : UInt8) : List UInt8 := if b = 10 then [92, 110] else if b = 9 then [92, 116] else if b = 92 ∨ b = 39 then [92, b] else [b]
def encL (l : List UInt8) : List UInt8 := l.flatMap enc1
/-- a name in quotes -/
def inQ (l : List UInt8) : List UInt8 := 39 :: (encL l ++ [39])
/-- a byte that can stand in quotes -/
def okB (b : UInt8) : Bool := b == 10 || b == 9 || (decide (32 ≤ b.toNat) && decide (b.toNat ≤ 126))
def okL (l : List UInt8) : Bool := l.all okB
theorem enc1_len (b : UInt8) : 1 ≤ (enc1 b).length ∧ (enc1 b).length ≤ 2 := by
  unfold enc1
  by_cases h1 : b = 10
  · simp [h1]
  by_cases h2 : b = 9
  · simp [h2]
  by_cases h3 : b = 92 ∨ b = 39
  · simp [h1, h2, h3]
  · simp [h1, h2, h3]
theorem encL_len (l : List UInt8) : l.length ≤ (encL l).length ∧ (encL l).length ≤ 2 * l.length := by
  induction l with
  | nil => exact ⟨Nat.le_refl _, Nat.le_refl _⟩
  | cons b l ih =>
    have := enc1_len b
    simp only [encL, List.flatMap_cons, List.length_append, List.length_cons] at ih ⊢
    omega
theorem ans_enc1 (M f : Nat) (b : UInt8) (l acc : List UInt8) (ts : List Tok) (n : Nat) (h : okB b = true) : ans M (enc1 b ++ l) ts n (.quo f acc) = ans M l ts (n + (enc1 b).length) (.quo f (acc ++ [b])) := by
  unfold enc1
  by_cases h1 : b = 10
  · rw [if_pos h1, h1]; exact ans_q_esc M f 110 l acc ts n
  rw [if_neg h1]
  by_cases h2 : b = 9
  · rw [if_pos h2, h2]; exact ans_q_esc M f 116 l acc ts n
  rw [if_neg h2]
  by_cases h3 : b = 92 ∨ b = 39
  · rw [if_pos h3]
    rcases h3 with rfl | rfl
    · exact ans_q_esc M f 92 l acc ts n
    · exact ans_q_esc M f 39 l acc ts n
  rw [if_neg h3]
  unfold okB at h
  simp [h1, h2] at h
  exact ans_q_plain M f b l acc ts n (fun e => h3 (.inr e)) (fun e => h3 (.inl e)) (by omega)
theorem ans_enc1_bad (M f : Nat) (b : UInt8) (l acc : List UInt8) (ts : List Tok) (n : Nat) (h : okB b = false) : ans M (enc1 b ++ l) ts n (.quo f acc) = .bad n 30 := by
  unfold okB at h
  simp only [Bool.or_eq_false_iff, Bool.and_eq_false_iff, beq_eq_false_iff_ne, decide_eq_false_iff_not] at h
  obtain ⟨⟨h1, h2⟩, h3⟩ := h
  have h4 : ¬ (b = 92 ∨ b = 39) := by rintro (rfl | rfl) <;> simp at h3
  unfold enc1
  rw [if_neg h1, if_neg h2, if_neg h4]
  exact ans_q_bad M f b l acc ts n (fun e => h4 (.inr e)) (fun e => h4 (.inl e)) (by omega)
theorem ans_encL (M f : Nat) (k l : List UInt8) (ts : List Tok) : ∀ (acc : List UInt8) (n : Nat), okL k = true → ans M (encL k ++ l) ts n (.quo f acc) = ans M l ts (n + (encL k).length) (.quo f (acc ++ k)) := by
  induction k with
  | nil => intro acc n _; rw [List.append_nil]; rfl
  | cons b k ih =>
    intro acc n h
    simp only [okL, List.all_cons, Bool.and_eq_true] at h
    have e : encL (b :: k) = enc1 b ++ encL k := rfl
    rw [e, List.append_assoc, ans_enc1 M f b _ acc ts n h.1, ih _ _ h.2, List.length_append, List.append_assoc, show n + ((enc1 b).length + (encL k).length) = n + (enc1 b).length + (encL k).length from by omega]; rfl
theorem ans_encL_bad (M f : Nat) (k l : List UInt8) (ts : List Tok) : ∀ (acc : List UInt8) (n : Nat), okL k = false → ∃ p, ans M (encL k ++ l) ts n (.quo f acc) = .bad p 30 := by
  induction k with
  | nil => intro acc n h; cases h
  | cons b k ih =>
    intro acc n h
    have e : encL (b :: k) = enc1 b ++ encL k := rfl
    rw [e, List.append_assoc]
    cases hb : okB b with
    | false => exact ⟨n, ans_enc1_bad M f b _ acc ts n hb⟩
    | true =>
      rw [ans_enc1 M f b _ acc ts n hb]
      have hk : okL k = false := by simp only [okL, List.all_cons, hb, Bool.true_and] at h; exact h
      exact ih _ _ hk
theorem inQ_len (l : List UInt8) : (inQ l).length = (encL l).length + 2 := by simp [inQ]
theorem toks_inQ (l : List UInt8) (h : okL l = true) : toks (inQ l) = .ok [⟨1, l, 0, (inQ l).length⟩] := by
  unfold toks inQ
  have e : ans 1000 (39 :: (encL l ++ [39])) [] 0 .btw = ans 1000 (encL l ++ [39]) [] 1 (.quo 0 []) := by
    rw [ans_cons, step, start, if_neg (by decide), if_neg (by decide), if_neg (by decide), if_neg (by decide), if_neg (by decide), opening, if_pos (by decide)]
  rw [e, ans_encL 1000 0 l [39] [] [] 1 h, ans_q_end _ _ [] _ _ _ (fun b r hb => by cases hb)]
  simp [ans_nil, fin]; omega
theorem toks_inQ_bad (l : List UInt8) (h : okL l = false) : ∃ p, toks (inQ l) = .bad p 30 := by
  unfold toks inQ
  have e : ans 1000 (39 :: (encL l ++ [39])) [] 0 .btw = ans 1000 (encL l ++ [39]) [] 1 (.quo 0 []) := by
    rw [ans_cons, step, start, if_neg (by decide), if_neg (by decide), if_neg (by decide), if_neg (by decide), if_neg (by decide), opening, if_pos (by decide)]
  rw [e]
  exact ans_encL_bad 1000 0 l [39] [] [] 1 h

/-- o is one atom of this name -/
def isOne (name : List UInt8) : Out → Bool
  | .ok [t] => t.kind == 1 && t.text == name
  | _ => false
theorem isOne_iff {name : List UInt8} {o : Out} (h : isOne name o = true) : ∃ f n, o = .ok [⟨1, name, f, n⟩] := by
  match o, h with
  | .ok [t], h =>
    simp only [isOne, Bool.and_eq_true, beq_iff_eq] at h
    obtain ⟨k, x, f, n⟩ := t
    simp only at h
    exact ⟨f, n, by rw [h.1, h.2]⟩
  | .ok [], h => cases h
  | .ok (_ :: _ :: _), h => cases h
  | .bad _ _, h => cases h
/-- a name that is itself one atom: from its first byte to its last, and no quote ahead -/
theorem self_atom {name : List UInt8} {f n : Nat} (h : toks name = .ok [⟨1, name, f, n⟩]) : f = 0 ∧ n = name.length ∧ name.getD 0 0 ≠ 39 := by
  have hp := places h 0 (by simp)
  obtain ⟨_, h2, h3, h4, h5⟩ := hp
  simp only [List.getElem_cons_zero] at h2 h3 h4 h5
  by_cases hq : name.getD f 0 = 39
  · have := h5 hq; omega
  · have hl := congrArg List.length (h4 hq)
    rw [List.length_drop, List.length_take] at hl
    have hf : f = 0 := by omega
    subst hf
    exact ⟨rfl, by omega, hq⟩
/-- P3.2 -/
def quoteS (name : List UInt8) : List UInt8 := if isOne name (toks name) = true then name else if okL name = true then inQ name else []
theorem isOne_inQ (name : List UInt8) : isOne name (toks (inQ name)) = okL name := by
  cases h : okL name with
  | true => rw [toks_inQ name h]; simp [isOne]
  | false => obtain ⟨p, hp⟩ := toks_inQ_bad name h; rw [hp]; rfl
/-- P3.3: what is quoted is one atom of that name -/
theorem quote_toks {name : List UInt8} (h : quoteS name ≠ []) : toks (quoteS name) = .ok [⟨1, name, 0, (quoteS name).length⟩] := by
  unfold quoteS at h ⊢
  by_cases h1 : isOne name (toks name) = true
  · rw [if_pos h1] at h ⊢
    obtain ⟨f, n, hf⟩ := isOne_iff h1
    obtain ⟨rfl, rfl, _⟩ := self_atom hf
    exact hf
  · rw [if_neg h1] at h ⊢
    by_cases h2 : okL name = true
    · rw [if_pos h2] at h ⊢; exact toks_inQ name h2
    · rw [if_neg h2] at h; exact absurd rfl h
theorem quote_len (name : List UInt8) : (quoteS name).length ≤ 2 * name.length + 2 := by
  unfold quoteS
  split
  · omega
  · split
    · rw [inQ_len]; have := (encL_len name).2; omega
    · simp
/-- several names, quoted, with blanks between -/
theorem atoms_run {q name : List UInt8} (hq : toks q = .ok [⟨1, name, 0, q.length⟩]) (l : List UInt8) {T : List Tok} {d : Nat} (hT : Ahead T d) (hn : T.length + 1 ≤ 1000) :
    ans 1000 (q ++ 32 :: l) T d .btw = ans 1000 l (T ++ [⟨1, name, d, d + q.length⟩]) (d + q.length + 1) .btw := by
  have h1 := ans_behind hT hq (by simpa using hn)
  have e : [(⟨1, name, 0, q.length⟩ : Tok)].map (shT d) = [⟨1, name, d, d + q.length⟩] := by simp [shT, Nat.add_comm]
  rw [e] at h1
  -- the state behind q
  rw [ans_run] at h1
  rw [ans_append]
  obtain ⟨ts0, m0, hr0, hf0⟩ := run_of hq
  have hinv := inv_run (M := 1000) (l := q) q [] 0 .btw ts0 m0 (by simp) (plAll_nil q) (Nat.zero_le _) hr0
  have hm0 : m0 ≠ .line := by
    intro e0
    subst e0
    cases hf0
    have h2 : lastTo _ < 0 + q.length := hinv.2
    rw [show lastTo [(⟨1, name, 0, q.length⟩ : Tok)] = q.length from rfl] at h2
    omega
  cases hr : run 1000 q T d .btw with
  | bad p e => rw [hr] at h1; cases h1
  | go ts m =>
    rw [hr] at h1
    simp only at h1 ⊢
    have hm : m ≠ .line := by
      intro e1
      subst e1
      -- the same machine, shifted: its mode there is m0 shifted
      have := run_shift hT (M := 1000) (by omega) q [] 0 .btw trivial ts0 m0 ?_
      · rw [List.map_nil, List.append_nil, Nat.zero_add] at this
        have h3 : run 1000 q T d .btw = _ := this
        rw [hr] at h3
        cases m0 <;> simp [shM] at h3
        exact hm0 rfl
      · have hlen : ts0.length + pend m0 ≤ 1 := by
          have := (fin_less (M' := 1000) hf0).1
          simpa using this
        exact run_less q [] 0 .btw ts0 m0 hr0 (by omega)
    rw [ans_cons, fin_blank h1 hm]
theorem ahead_snoc (T : List Tok) (t : Tok) {d : Nat} (h : t.to < d) : Ahead (T ++ [t]) d := by
  intro x hx
  simp at hx
  rw [← hx]; exact h
end Go.Proofs.Ytdcggedggngpoaa.lx
