/- Quoted names. Plain lists.; lex's isAtom, inQuotes, Quote.; A slice of bytes in a block of the call's own: made, appended to, made a string.; The bytes' classes: the reference's sign.; The reference: two, run, between.; The reference: quoted.; The reference: run. -/
import Derived.Test.YtpihmockcjdafaaQ3
import Derived.Test.YtpihmockcjdafaaQ4
import Derived.Test.YtpihmockcjdafaaQ6
import Derived.WalkSpells
import Derived.Lib.UnsafeStr
import Derived.WideShapes
set_option linter.unusedVariables false
set_option linter.unusedSimpArgs false
section
/- Quoted names. Plain lists. -/
namespace Go.Proofs.Ytpihmockcjdafaa.lx

/-- a byte in quotes -/
def enc1 (b : UInt8) : List UInt8 := if b = 10 then [92, 110] else if b = 9 then [92, 116] else if b = 92 ∨ b = 39 then [92, b] else [b]
def encL (l : List UInt8) : List UInt8 := l.flatMap enc1
/-- a name in quotes -/
def inQ (l : List UInt8) : List UInt8 := 39 :: (encL l ++ [39])
/-- a byte that can stand in quotes -/
def okB (b : UInt8) : Bool := b == 10 || b == 9 || (decide (32 ≤ b.toNat) && decide (b.toNat ≤ 126))
def okL (l : List UInt8) : Bool := l.all okB
theorem enc1_len (b : UInt8) : 1 ≤ (enc1 b).length ∧ (enc1 b).length ≤ 2 := by
  unfold enc1
  by_cases h1 : b = 10
  · simp [h1]
  by_cases h2 : b = 9
  · simp [h2]
  by_cases h3 : b = 92 ∨ b = 39
  · simp [h1, h2, h3]
  · simp [h1, h2, h3]
theorem encL_len (l : List UInt8) : l.length ≤ (encL l).length ∧ (encL l).length ≤ 2 * l.length := by
  induction l with
  | nil => exact ⟨Nat.le_refl _, Nat.le_refl _⟩
  | cons b l ih =>
    have := enc1_len b
    simp only [encL, List.flatMap_cons, List.length_append, List.length_cons] at ih ⊢
    omega
theorem ans_enc1 (M f : Nat) (b : UInt8) (l acc : List UInt8) (ts : List Tok) (n : Nat) (h : okB b = true) : ans M (enc1 b ++ l) ts n (.quo f acc) = ans M l ts (n + (enc1 b).length) (.quo f (acc ++ [b])) := by
  unfold enc1
  by_cases h1 : b = 10
  · rw [if_pos h1, h1]; exact ans_q_esc M f 110 l acc ts n
  rw [if_neg h1]
  by_cases h2 : b = 9
  · rw [if_pos h2, h2]; exact ans_q_esc M f 116 l acc ts n
  rw [if_neg h2]
  by_cases h3 : b = 92 ∨ b = 39
  · rw [if_pos h3]
    rcases h3 with rfl | rfl
    · exact ans_q_esc M f 92 l acc ts n
    · exact ans_q_esc M f 39 l acc ts n
  rw [if_neg h3]
  unfold okB at h
  simp [h1, h2] at h
  exact ans_q_plain M f b l acc ts n (fun e => h3 (.inr e)) (fun e => h3 (.inl e)) (by omega)
theorem ans_enc1_bad (M f : Nat) (b : UInt8) (l acc : List UInt8) (ts : List Tok) (n : Nat) (h : okB b = false) : ans M (enc1 b ++ l) ts n (.quo f acc) = .bad n 30 := by
  unfold okB at h
  simp only [Bool.or_eq_false_iff, Bool.and_eq_false_iff, beq_eq_false_iff_ne, decide_eq_false_iff_not] at h
  obtain ⟨⟨h1, h2⟩, h3⟩ := h
  have h4 : ¬ (b = 92 ∨ b = 39) := by rintro (rfl | rfl) <;> simp at h3
  unfold enc1
  rw [if_neg h1, if_neg h2, if_neg h4]
  exact ans_q_bad M f b l acc ts n (fun e => h4 (.inr e)) (fun e => h4 (.inl e)) (by omega)
theorem ans_encL (M f : Nat) (k l : List UInt8) (ts : List Tok) : ∀ (acc : List UInt8) (n : Nat), okL k = true → ans M (encL k ++ l) ts n (.quo f acc) = ans M l ts (n + (encL k).length) (.quo f (acc ++ k)) := by
  induction k with
  | nil => intro acc n _; rw [List.append_nil]; rfl
  | cons b k ih =>
    intro acc n h
    simp only [okL, List.all_cons, Bool.and_eq_true] at h
    have e : encL (b :: k) = enc1 b ++ encL k := rfl
    rw [e, List.append_assoc, ans_enc1 M f b _ acc ts n h.1, ih _ _ h.2, List.length_append, List.append_assoc, show n + ((enc1 b).length + (encL k).length) = n + (enc1 b).length + (encL k).length from by omega]; rfl
theorem ans_encL_bad (M f : Nat) (k l : List UInt8) (ts : List Tok) : ∀ (acc : List UInt8) (n : Nat), okL k = false → ∃ p, ans M (encL k ++ l) ts n (.quo f acc) = .bad p 30 := by
  induction k with
  | nil => intro acc n h; cases h
  | cons b k ih =>
    intro acc n h
    have e : encL (b :: k) = enc1 b ++ encL k := rfl
    rw [e, List.append_assoc]
    cases hb : okB b with
    | false => exact ⟨n, ans_enc1_bad M f b _ acc ts n hb⟩
    | true =>
      rw [ans_enc1 M f b _ acc ts n hb]
      have hk : okL k = false := by simp only [okL, List.all_cons, hb, Bool.true_and] at h; exact h
      exact ih _ _ hk
theorem inQ_len (l : List UInt8) : (inQ l).length = (encL l).length + 2 := by simp [inQ]
theorem toks_inQ (l : List UInt8) (h : okL l = true) : toks (inQ l) = .ok [⟨1, l, 0, (inQ l).length⟩] := by
  unfold toks inQ
  have e : ans 1000 (39 :: (encL l ++ [39])) [] 0 .btw = ans 1000 (encL l ++ [39]) [] 1 (.quo 0 []) := by
    rw [ans_cons, step, start, if_neg (by decide), if_neg (by decide), if_neg (by decide), if_neg (by decide), if_neg (by decide), opening, if_pos (by decide)]
  rw [e, ans_encL 1000 0 l [39] [] [] 1 h, ans_q_end _ _ [] _ _ _ (fun b r hb => by cases hb)]
  simp [ans_nil, fin]; omega
theorem toks_inQ_bad (l : List UInt8) (h : okL l = false) : ∃ p, toks (inQ l) = .bad p 30 := by
  unfold toks inQ
  have e : ans 1000 (39 :: (encL l ++ [39])) [] 0 .btw = ans 1000 (encL l ++ [39]) [] 1 (.quo 0 []) := by
    rw [ans_cons, step, start, if_neg (by decide), if_neg (by decide), if_neg (by decide), if_neg (by decide), if_neg (by decide), opening, if_pos (by decide)]
  rw [e]
  exact ans_encL_bad 1000 0 l [39] [] [] 1 h

/-- o is one atom of this name -/
def isOne (name : List UInt8) : Out → Bool
  | .ok [t] => t.kind == 1 && t.text == name
  | _ => false
theorem isOne_iff {name : List UInt8} {o : Out} (h : isOne name o = true) : ∃ f n, o = .ok [⟨1, name, f, n⟩] := by
  match o, h with
  | .ok [t], h =>
    simp only [isOne, Bool.and_eq_true, beq_iff_eq] at h
    obtain ⟨k, x, f, n⟩ := t
    simp only at h
    exact ⟨f, n, by rw [h.1, h.2]⟩
  | .ok [], h => cases h
  | .ok (_ :: _ :: _), h => cases h
  | .bad _ _, h => cases h
/-- a name that is itself one atom: from its first byte to its last, and no quote ahead -/
theorem self_atom {name : List UInt8} {f n : Nat} (h : toks name = .ok [⟨1, name, f, n⟩]) : f = 0 ∧ n = name.length ∧ name.getD 0 0 ≠ 39 := by
  have hp := places h 0 (by simp)
  obtain ⟨_, h2, h3, h4, h5⟩ := hp
  simp only [List.getElem_cons_zero] at h2 h3 h4 h5
  by_cases hq : name.getD f 0 = 39
  · have := h5 hq; omega
  · have hl := congrArg List.length (h4 hq)
    rw [List.length_drop, List.length_take] at hl
    have hf : f = 0 := by omega
    subst hf
    exact ⟨rfl, by omega, hq⟩
/-- P3.2 -/
def quoteS (name : List UInt8) : List UInt8 := if isOne name (toks name) = true then name else if okL name = true then inQ name else []
theorem isOne_inQ (name : List UInt8) : isOne name (toks (inQ name)) = okL name := by
  cases h : okL name with
  | true => rw [toks_inQ name h]; simp [isOne]
  | false => obtain ⟨p, hp⟩ := toks_inQ_bad name h; rw [hp]; rfl
/-- P3.3: what is quoted is one atom of that name -/
theorem quote_toks {name : List UInt8} (h : quoteS name ≠ []) : toks (quoteS name) = .ok [⟨1, name, 0, (quoteS name).length⟩] := by
  unfold quoteS at h ⊢
  by_cases h1 : isOne name (toks name) = true
  · rw [if_pos h1] at h ⊢
    obtain ⟨f, n, hf⟩ := isOne_iff h1
    obtain ⟨rfl, rfl, _⟩ := self_atom hf
    exact hf
  · rw [if_neg h1] at h ⊢
    by_cases h2 : okL name = true
    · rw [if_pos h2] at h ⊢; exact toks_inQ name h2
    · rw [if_neg h2] at h; exact absurd rfl h
theorem quote_len (name : List UInt8) : (quoteS name).length ≤ 2 * name.length + 2 := by
  unfold quoteS
  split
  · omega
  · split
    · rw [inQ_len]; have := (encL_len name).2; omega
    · simp
/-- several names, quoted, with blanks between -/
theorem atoms_run {q name : List UInt8} (hq : toks q = .ok [⟨1, name, 0, q.length⟩]) (l : List UInt8) {T : List Tok} {d : Nat} (hT : Ahead T d) (hn : T.length + 1 ≤ 1000) :
    ans 1000 (q ++ 32 :: l) T d .btw = ans 1000 l (T ++ [⟨1, name, d, d + q.length⟩]) (d + q.length + 1) .btw := by
  have h1 := ans_behind hT hq (by simpa using hn)
  have e : [(⟨1, name, 0, q.length⟩ : Tok)].map (shT d) = [⟨1, name, d, d + q.length⟩] := by simp [shT, Nat.add_comm]
  rw [e] at h1
  -- the state behind q
  rw [ans_run] at h1
  rw [ans_append]
  obtain ⟨ts0, m0, hr0, hf0⟩ := run_of hq
  have hinv := inv_run (M := 1000) (l := q) q [] 0 .btw ts0 m0 (by simp) (plAll_nil q) (Nat.zero_le _) hr0
  have hm0 : m0 ≠ .line := by
    intro e0
    subst e0
    cases hf0
    have h2 : lastTo _ < 0 + q.length := hinv.2
    rw [show lastTo [(⟨1, name, 0, q.length⟩ : Tok)] = q.length from rfl] at h2
    omega
  cases hr : run 1000 q T d .btw with
  | bad p e => rw [hr] at h1; cases h1
  | go ts m =>
    rw [hr] at h1
    simp only at h1 ⊢
    have hm : m ≠ .line := by
      intro e1
      subst e1
      -- the same machine, shifted: its mode there is m0 shifted
      have := run_shift hT (M := 1000) (by omega) q [] 0 .btw trivial ts0 m0 ?_
      · rw [List.map_nil, List.append_nil, Nat.zero_add] at this
        have h3 : run 1000 q T d .btw = _ := this
        rw [hr] at h3
        cases m0 <;> simp [shM] at h3
        exact hm0 rfl
      · have hlen : ts0.length + pend m0 ≤ 1 := by
          have := (fin_less (M' := 1000) hf0).1
          simpa using this
        exact run_less q [] 0 .btw ts0 m0 hr0 (by omega)
    rw [ans_cons, fin_blank h1 hm]
theorem ahead_snoc (T : List Tok) (t : Tok) {d : Nat} (h : t.to < d) : Ahead (T ++ [t]) d := by
  intro x hx
  simp at hx
  rw [← hx]; exact h
end Go.Proofs.Ytpihmockcjdafaa.lx
end
section
/- lex's isAtom, inQuotes, Quote. -/
namespace Go.Proofs.Ytpihmockcjdafaa.lx
open Go.RowKit

theorem ret_s {a b : ByteArray} (h : a = b) : Ending.returned (.string a) = .returned (.string b) := by rw [h]
theorem bytes_of {s : ByteArray} {l : List UInt8} (h : s.data.toList = l) : s = ⟨l.toArray⟩ := h ▸ (Lib.mk_data s).symm
theorem data_of (l : List UInt8) : (ByteArray.mk l.toArray).data.toList = l := by simp
/-- not one token -/
def NotOne : Out → Prop
  | .ok ts => ts.length ≠ 1
  | .bad _ _ => True
theorem gives_len {w w' : World} {v : Value} {p k : Nat} {o : Out} (h : Gives w w' v p k o) (hn : NotOne o) : ∃ a n cap, v = .slice a n cap ∧ n ≠ 1 := by
  cases o with
  | ok ts => obtain ⟨a, cap, hv⟩ := h.1.shape; exact ⟨a, _, cap, hv, hn⟩
  | bad q j => exact ⟨none, 0, 0, h.1, by omega⟩
theorem not_one_isOne {name : List UInt8} {o : Out} (h : NotOne o) : isOne name o = false := by
  match o, h with
  | .ok [], _ => rfl
  | .ok [t], h => exact absurd rfl h
  | .ok (_ :: _ :: _), _ => rfl
  | .bad _ _, _ => rfl

set_option maxHeartbeats 1000000 in
theorem isAtom_no (s name : ByteArray) (w : World) (hg : GM w) (hz : s.size ≤ 9223372036854775807) (hn : NotOne (toksD s.data.toList)) :
    Calls Try.prog 48 #[.string s, .string name] w fun e w' => e = .returned (.bool false) ∧ Below w.heap.size w w' := by
  have kt := tokens_c s w hg hz
  have hG := Lib.hid hg
  clear hg
  have Hn := Lib.hid hn
  clear hn
  go_enter Try.func48, Try.ntmps48
  go_wp2_with fail
  refine kt.mono ?_
  rintro e w1 ⟨v, p, k, rfl, hv, hb⟩
  obtain ⟨a, n, cap, rfl, hn1⟩ := gives_len hv Hn.out
  obtain ⟨a1, a2⟩ := ieq_no (a := n) 1 (by omega)
  have HB := Lib.hid hb
  clear hb hv kt hn1
  go_wp2
  go_ret
  exact ⟨rfl, HB.out⟩
set_option maxHeartbeats 1000000 in
theorem isAtom_one (s name : ByteArray) (w : World) (hg : GM w) (hz : s.size ≤ 9223372036854775807) {t : Tok} (hn : toksD s.data.toList = .ok [t]) :
    Calls Try.prog 48 #[.string s, .string name] w fun e w' => e = .returned (.bool (t.kind == 1 && t.text == name.data.toList)) ∧ Below w.heap.size w w' := by
  have kt := tokens_c s w hg hz
  clear hg
  rw [hn] at kt
  clear hn
  by_cases hk : t.kind = 1
  · obtain ⟨a1, a2⟩ := ieq_yes (a := t.kind) 1 (by omega)
    have Hk := Lib.hid (show (t.kind == 1) = true by simpa using hk)
    clear hk
    go_enter Try.func48, Try.ntmps48
    go_wp2_with fail
    refine kt.mono ?_
    rintro e w1 ⟨v, p, k, rfl, ⟨hT, rfl, rfl⟩, hb⟩
    obtain ⟨g, cap, rfl, hcap, _, _, hcell⟩ := hT.row (by simp)
    obtain ⟨c0, c1, c2, c3⟩ := hcell 0 (by simp)
    simp only [List.getElem_cons_zero, Nat.zero_mul, Nat.zero_add, List.length_singleton] at c0 c1 c2 c3 hcap
    have HB := Lib.hid hb
    clear hb hT kt hcell
    go_wp2
    go_ret
    exact ⟨ret_b (by rw [Hk.out, Bool.true_and, ByteArray.toList_eq]), HB.out⟩
  · obtain ⟨a1, a2⟩ := ieq_no (a := t.kind) 1 (by omega)
    have Hk := Lib.hid (show (t.kind == 1) = false by simpa using hk)
    clear hk
    go_enter Try.func48, Try.ntmps48
    go_wp2_with fail
    refine kt.mono ?_
    rintro e w1 ⟨v, p, k, rfl, ⟨hT, rfl, rfl⟩, hb⟩
    obtain ⟨g, cap, rfl, hcap, _, _, hcell⟩ := hT.row (by simp)
    obtain ⟨c0, c1, c2, c3⟩ := hcell 0 (by simp)
    simp only [List.getElem_cons_zero, Nat.zero_mul, Nat.zero_add, List.length_singleton] at c0 c1 c2 c3 hcap
    have HB := Lib.hid hb
    clear hb hT kt hcell
    go_wp2
    go_ret
    exact ⟨ret_b (by rw [Hk.out]; rfl), HB.out⟩

/-- whether a text is one atom of a name -/
theorem isAtom_c (s name : ByteArray) (w : World) (hg : GM w) (hz : s.size ≤ 9223372036854775807) :
    Calls Try.prog 48 #[.string s, .string name] w fun e w' => e = .returned (.bool (isOne name.data.toList (toksD s.data.toList))) ∧ Below w.heap.size w w' := by
  cases ho : toksD s.data.toList with
  | bad p k => exact isAtom_no s name w hg hz (by rw [ho]; trivial)
  | ok ts =>
    match ts, ho with
    | [], ho => exact isAtom_no s name w hg hz (by rw [ho]; show (0 : Nat) ≠ 1; omega)
    | [t], ho => exact isAtom_one s name w hg hz ho
    | a :: b :: r, ho => exact isAtom_no s name w hg hz (by rw [ho]; show r.length + 2 ≠ 1; omega)

theorem encL_snoc (l : List UInt8) (b : UInt8) : encL (l ++ [b]) = encL l ++ enc1 b := by simp [encL]
set_option maxRecDepth 100000 in
set_option maxHeartbeats 2000000 in
theorem inQuotes_c (s : ByteArray) (w : World) (hs : s.size ≤ 100000) :
    Calls Try.prog 49 #[.string s] w fun e w' => e = .returned (.string ⟨(inQ s.data.toList).toArray⟩) ∧ Below w.heap.size w w' := by
  have hgt := get_bA s
  have hB1 := Lib.hid (bl_new w)
  have hal := Lib.hid ((Below.refl w.heap.size w).alloc (Nat.le_refl _) (.cells #[.pointer none, .slice none 0 0] 55))
  go_enter Try.func49, Try.ntmps49
  go_wp2_with fail
  refine (writeByte_c w.heap.size w.heap.size [] 39 _ hB1.out (by simp) hal.out.size).mono ?_
  rintro e w1 ⟨rfl, hBl, hb1⟩
  have HBl := Lib.hid hBl
  have HB := Lib.hid (hal.out.trans hb1)
  clear hBl hb1
  go_wp2
  go_loopg [9] s.size (fun k i wr => ∃ m : Nat, k = s.size - m ∧ m ≤ s.size ∧ i = .int .i64 m ∧ Hid (Bl w.heap.size w.heap.size (39 :: encL (s.data.toList.take m)) wr) ∧ Hid (Below w.heap.size w wr))
  case atStart => exact ⟨0, by omega, by omega, rfl, HBl, HB⟩
  case round =>
    clear HBl HB hB1 hal
    obtain ⟨m, hgk, hm, rfl, hBl, hb⟩ := hrel
    have hel : (39 :: encL (s.data.toList.take m)).length ≤ 200002 := by
      have := (encL_len (s.data.toList.take m)).2
      have h2 := List.length_take_le m s.data.toList
      rw [List.length_cons]; omega
    by_cases hlt : m < s.size
    · have hlt2 : (m : Int) < s.size := by omega
      have hsn := Lib.hid (show s.data.toList.take (m + 1) = s.data.toList.take m ++ [bA s m] by
        have hz : s.data.toList.length = s.size := by simp
        rw [List.take_succ_eq_append_getElem (by omega)]
        unfold bA
        rw [List.getD_eq_getElem?_getD, List.getElem?_eq_getElem (by omega)]; rfl)
      by_cases c10 : (bA s m).toNat = 10
      · obtain ⟨a10, b10⟩ := ieq_yes (a := (bA s m).toNat) 10 (by omega)
        have he := Lib.hid (show enc1 (bA s m) = [92, 110] by rw [show bA s m = 10 from UInt8.toNat_inj.1 (by rw [c10]; rfl)]; rfl)
        clear c10
        go_wp2_with fail
        refine (writeString_c w.heap.size w.heap.size _ ⟨#[92, 110]⟩ _ hBl.out (by omega) (by decide) hb.out.size).mono ?_
        rintro e w2 ⟨rfl, hBl2, hb2⟩
        have HBl9 := Lib.hid (show Bl w.heap.size w.heap.size (39 :: encL (s.data.toList.take (m + 1))) _ from by
          have h := hBl2
          rw [hsn.out, encL_snoc, he.out]
          simpa using h)
        have HB9 := Lib.hid (hb.out.trans hb2)
        clear hBl2 hb2
        go_wp2
        go_roundg (s.size - (m + 1))
        case measure => omega
        case rel => exact ⟨m + 1, rfl, by omega, by go_num, HBl9, HB9⟩
      obtain ⟨p10, q10⟩ := ieq_no (a := (bA s m).toNat) 10 (by omega)
      by_cases c9 : (bA s m).toNat = 9
      · obtain ⟨a9, b9⟩ := ieq_yes (a := (bA s m).toNat) 9 (by omega)
        have he := Lib.hid (show enc1 (bA s m) = [92, 116] by rw [show bA s m = 9 from UInt8.toNat_inj.1 (by rw [c9]; rfl)]; rfl)
        clear c9
        go_wp2_with fail
        refine (writeString_c w.heap.size w.heap.size _ ⟨#[92, 116]⟩ _ hBl.out (by omega) (by decide) hb.out.size).mono ?_
        rintro e w2 ⟨rfl, hBl2, hb2⟩
        have HBl9 := Lib.hid (show Bl w.heap.size w.heap.size (39 :: encL (s.data.toList.take (m + 1))) _ from by
          have h := hBl2
          rw [hsn.out, encL_snoc, he.out]
          simpa using h)
        have HB9 := Lib.hid (hb.out.trans hb2)
        clear hBl2 hb2
        go_wp2
        go_roundg (s.size - (m + 1))
        case measure => omega
        case rel => exact ⟨m + 1, rfl, by omega, by go_num, HBl9, HB9⟩
      obtain ⟨p9, q9⟩ := ieq_no (a := (bA s m).toNat) 9 (by omega)
      by_cases c92 : (bA s m).toNat = 92
      · obtain ⟨a92, b92⟩ := ieq_yes (a := (bA s m).toNat) 92 (by omega)
        have he := Lib.hid (show enc1 (bA s m) = [92, bA s m] by rw [show bA s m = 92 from UInt8.toNat_inj.1 (by rw [c92]; rfl)]; rfl)
        clear c10 c9 c92
        go_wp2_with fail
        refine (writeByte_c w.heap.size w.heap.size _ 92 _ hBl.out (by omega) hb.out.size).mono ?_
        rintro e w2 ⟨rfl, hBl1, hb1⟩
        have HBl1 := Lib.hid hBl1
        have HB1 := Lib.hid (hb.out.trans hb1)
        clear hBl1 hb1
        go_wp2_with fail
        refine (writeByte_c w.heap.size w.heap.size _ (bA s m) _ HBl1.out (by rw [List.length_append, List.length_singleton]; omega) HB1.out.size).mono ?_
        rintro e w3 ⟨rfl, hBl2, hb2⟩
        have HBl9 := Lib.hid (show Bl w.heap.size w.heap.size (39 :: encL (s.data.toList.take (m + 1))) _ from by
          have h := hBl2
          rw [hsn.out, encL_snoc, he.out]
          simpa using h)
        have HB9 := Lib.hid (HB1.out.trans hb2)
        clear hBl2 hb2
        go_wp2
        go_roundg (s.size - (m + 1))
        case measure => omega
        case rel => exact ⟨m + 1, rfl, by omega, by go_num, HBl9, HB9⟩
      obtain ⟨p92, q92⟩ := ieq_no (a := (bA s m).toNat) 92 (by omega)
      by_cases c39 : (bA s m).toNat = 39
      · obtain ⟨a39, b39⟩ := ieq_yes (a := (bA s m).toNat) 39 (by omega)
        have he := Lib.hid (show enc1 (bA s m) = [92, bA s m] by rw [show bA s m = 39 from UInt8.toNat_inj.1 (by rw [c39]; rfl)]; rfl)
        clear c10 c9 c92 c39
        go_wp2_with fail
        refine (writeByte_c w.heap.size w.heap.size _ 92 _ hBl.out (by omega) hb.out.size).mono ?_
        rintro e w2 ⟨rfl, hBl1, hb1⟩
        have HBl1 := Lib.hid hBl1
        have HB1 := Lib.hid (hb.out.trans hb1)
        clear hBl1 hb1
        go_wp2_with fail
        refine (writeByte_c w.heap.size w.heap.size _ (bA s m) _ HBl1.out (by rw [List.length_append, List.length_singleton]; omega) HB1.out.size).mono ?_
        rintro e w3 ⟨rfl, hBl2, hb2⟩
        have HBl9 := Lib.hid (show Bl w.heap.size w.heap.size (39 :: encL (s.data.toList.take (m + 1))) _ from by
          have h := hBl2
          rw [hsn.out, encL_snoc, he.out]
          simpa using h)
        have HB9 := Lib.hid (HB1.out.trans hb2)
        clear hBl2 hb2
        go_wp2
        go_roundg (s.size - (m + 1))
        case measure => omega
        case rel => exact ⟨m + 1, rfl, by omega, by go_num, HBl9, HB9⟩
      obtain ⟨p39, q39⟩ := ieq_no (a := (bA s m).toNat) 39 (by omega)
      have he := Lib.hid (show enc1 (bA s m) = [bA s m] by
        unfold enc1
        rw [if_neg (fun e => c10 (by rw [e]; rfl)), if_neg (fun e => c9 (by rw [e]; rfl)), if_neg]
        rintro (e | e)
        · exact c92 (by rw [e]; rfl)
        · exact c39 (by rw [e]; rfl))
      clear c10 c9 c92 c39
      go_wp2_with fail
      refine (writeByte_c w.heap.size w.heap.size _ (bA s m) _ hBl.out (by omega) hb.out.size).mono ?_
      rintro e w2 ⟨rfl, hBl2, hb2⟩
      have HBl9 := Lib.hid (show Bl w.heap.size w.heap.size (39 :: encL (s.data.toList.take (m + 1))) _ from by
        have h := hBl2
        rw [hsn.out, encL_snoc, he.out]
        simpa using h)
      have HB9 := Lib.hid (hb.out.trans hb2)
      clear hBl2 hb2
      go_wp2
      go_roundg (s.size - (m + 1))
      case measure => omega
      case rel => exact ⟨m + 1, rfl, by omega, by go_num, HBl9, HB9⟩
    · have hlt2 : ¬ ((m : Int) < s.size) := by omega
      have htk := Lib.hid (show s.data.toList.take m = s.data.toList from List.take_of_length_le (by simp; omega))
      go_wp2_with fail
      refine (writeByte_c w.heap.size w.heap.size _ 39 _ hBl.out (by omega) hb.out.size).mono ?_
      rintro e w2 ⟨rfl, hBl2, hb2⟩
      have HBl2 := Lib.hid hBl2
      have HB2 := Lib.hid (hb.out.trans hb2)
      clear hBl2 hb2 hBl hb
      go_wp2_with fail
      refine (bString_c w.heap.size w.heap.size _ _ HBl2.out HB2.out.size).mono ?_
      rintro e w3 ⟨rfl, hb3⟩
      have HB3 := Lib.hid (HB2.out.trans hb3)
      clear hb3
      go_wp2
      go_ret
      exact ⟨by rw [htk.out]; rfl, HB3.out⟩

/-- a name of which both Quotes answer alike: it is not long, or is one atom as it stands -/
def Qn (x : List UInt8) : Prop := x.length ≤ 2047 ∨ (x.length ≤ 4096 ∧ isOne x (toks x) = true)
theorem Qn.small {x : List UInt8} (h : x.length ≤ 2047) : Qn x := .inl h
/-- lex's Quote, of such names -/
theorem quote_c (s : ByteArray) (w : World) (hg : GM w) (hq : Qn s.data.toList) :
    Calls Try.prog 25 #[.string s] w fun e w' => e = .returned (.string ⟨(quoteS s.data.toList).toArray⟩) ∧ Below w.heap.size w w' := by
  have hz : s.data.toList.length = s.size := by simp
  have hs : s.size ≤ 4096 := by rcases hq with h | ⟨h, _⟩ <;> omega
  have hD : toksD s.data.toList = toks s.data.toList := by unfold toksD; rw [if_neg (by omega)]
  have hp := heap_pos hg
  have k1 := isAtom_c s s w hg (by omega)
  rw [hD] at k1
  have Hg := Lib.hid hg
  clear hg
  cases h1 : isOne s.data.toList (toks s.data.toList) with
  | true =>
    rw [h1] at k1
    have hq := Lib.hid (show (⟨(quoteS s.data.toList).toArray⟩ : ByteArray) = s by unfold quoteS; rw [if_pos h1])
    clear h1 hD
    go_enter Try.func25, Try.ntmps25
    go_wp2_with fail
    refine k1.mono ?_
    rintro e w1 ⟨rfl, hb⟩
    have HB := Lib.hid hb
    clear hb k1
    go_wp2
    go_ret
    exact ⟨ret_s hq.out.symm, HB.out⟩
  | false =>
    have hs : s.size ≤ 2047 := by rcases hq with h | ⟨_, h⟩; omega; rw [h1] at h; cases h
    rw [h1] at k1
    have hl := inQ_len s.data.toList
    have hl2 := (encL_len s.data.toList).2
    have hD2 : toksD (inQ s.data.toList) = toks (inQ s.data.toList) := by unfold toksD; rw [if_neg (by omega)]
    have hqs : quoteS s.data.toList = if okL s.data.toList = true then inQ s.data.toList else [] := by unfold quoteS; rw [if_neg (by rw [h1]; decide)]
    rw [hqs]
    clear h1 hD hqs
    cases hok : okL s.data.toList
    all_goals
      have Hok := Lib.hid hok
      clear hok
      go_enter Try.func25, Try.ntmps25
      go_wp2_with fail
      refine k1.mono ?_
      rintro e w1 ⟨rfl, hb⟩
      have HB := Lib.hid hb
      clear hb
      go_wp2_with fail
      refine (inQuotes_c s _ (by omega)).mono ?_
      rintro e w2 ⟨rfl, hb2⟩
      have HB2 := Lib.hid (HB.out.trans (hb2.mono HB.out.size))
      clear hb2
      have k2 := isAtom_c ⟨(inQ s.data.toList).toArray⟩ s w2 (Hg.out.below HB2.out hp) (by simp [ByteArray.size]; omega)
      rw [data_of, hD2, isOne_inQ, Hok.out] at k2
      go_wp2_with fail
      refine k2.mono ?_
      rintro e w3 ⟨rfl, hb3⟩
      have HB3 := Lib.hid (HB2.out.trans (hb3.mono HB2.out.size))
      clear hb3 k1 k2
      go_wp2
      go_ret
      exact ⟨rfl, HB3.out⟩
end Go.Proofs.Ytpihmockcjdafaa.lx
end
section
/- A slice of bytes in a block of the call's own: made, appended to, made a string. -/
namespace Go.Proofs.Ytpihmockcjdafaa.lx
open Go.RowKit

/-- the slice at block g of room cap holds the bytes l -/
def By (B : Nat) (w : World) (g cap : Nat) (l : List UInt8) : Prop := w.ownsRow B 5 1 (.slice (some ⟨g, 0, none⟩) l.length cap) l.length (Lib.byteCells l)
theorem By.lt {B : Nat} {w : World} {g cap : Nat} {l : List UInt8} (h : By B w g cap l) : B ≤ g ∧ g < w.heap.size := (World.ownsRow.lt h) g rfl
theorem By.drawn {B : Nat} {w : World} {g cap : Nat} {l : List UInt8} (h : By B w g cap l) (k : Nat) : By B (w.drewN k) g cap l := h
theorem By.empty (B : Nat) (w : World) (hB : B ≤ w.heap.size) : By B (w.alloc (.cells #[] 5)) w.heap.size 0 [] :=
  ⟨rfl, .inr ⟨w.heap.size, 0, #[], rfl, hB, heap_alloc_new w _, Nat.le_refl _, by unfold maxLen; omega, rfl, rfl⟩⟩
theorem By.one (B : Nat) (w : World) (hB : B ≤ w.heap.size) (b : UInt8) {e : Int} (he : e = (b.toNat : Nat)) : By B (w.alloc (.cells #[.int .u8 e] 5)) w.heap.size 1 [b] := by
  subst he
  exact ⟨rfl, .inr ⟨w.heap.size, 1, #[.int .u8 (b.toNat : Nat)], rfl, hB, heap_alloc_new w _, Nat.le_refl _, by unfold maxLen; omega, rfl, rfl⟩⟩
theorem wpList_pushN {ops : Array Oper} {rest : List Oper} {o : Oper} {a : Act} {Q : Exit → Act → World → Prop} (hgd : o.guard = none) (s x : Operand)
    (ho : o.op = .call { callee := .builtin .append, args := #[s, x], argTypes := #[53, 53] })
    (B : Nat) (w : World) (g cap : Nat) (l news : List UInt8) (cs : Array Value) (hcs : cs.toList = Lib.byteCells news) (hn0 : 0 < news.length) (hs : a.eval s = .slice (some ⟨g, 0, none⟩) l.length cap) (hown : By B w g cap l)
    (m : Nat) (hm : m = news.length) (hx : a.eval x = .slice (some ⟨w.heap.size, 0, none⟩) m m) (hlen : l.length + news.length ≤ 1000000) (hB : B ≤ w.heap.size)
    (h : ∀ g' cap' w', By B w' g' cap' (l ++ news) → Below B w w' → wpList Try.prog ops Q rest (a.put o.dst (.slice (some ⟨g', 0, none⟩) (l.length + m) cap')) w') :
    wpList Try.prog ops Q (o :: rest) a (w.alloc (.cells cs 5)) := by
  obtain ⟨i0, hi, hz0, hz1, hz2⟩ := info_parts u8_info
  have hbn : (Lib.byteCells news).length = news.length := Lib.byteCells_length news
  have hbl : (Lib.byteCells l).length = l.length := Lib.byteCells_length l
  have hb0 : (w.alloc (.cells cs 5)).heap[w.heap.size]? = some (.cells cs 5 (0, 0)) := heap_alloc_new w _
  refine wpList_append_own _ hgd s x 53 ho B 5 i0 (.int .u8 0) 1 1 Try.underlying53 hi hz0 hz1 hz2 rfl (by decide) _ l.length (Lib.byteCells l) hs (World.ownsRow.alloc hown _) ⟨w.heap.size, 0, none⟩ m m (Lib.byteCells news) hx (by rw [hbn, hm, Nat.mul_one]) ?_ ?_ ?_ ?_ ?_ ?_
  · intro j u hj
    have e : (⟨w.heap.size, 0, none⟩ : Addr).add j = ⟨w.heap.size, j, none⟩ := by
      by_cases h0 : j = 0
      · subst h0; simp [Addr.add]
      · simp [Addr.add, h0]
    rw [e, cell_at hb0, ← Array.getElem?_toList, hcs]; exact hj
  · intro u hu; simp [Lib.byteCells] at hu; obtain ⟨b, _, rfl⟩ := hu; rfl
  · unfold maxLen; omega
  · omega
  · show B ≤ (w.heap.push _).size; simp; omega
  · intro v' w' hown' hgr hnil
    have e1 : Lib.byteCells l ++ Lib.byteCells news = Lib.byteCells (l ++ news) := by simp [Lib.byteCells]
    rw [e1] at hown'
    have hb : Below B w w' := ((Below.refl B w).alloc hB _).grown hgr (by show B ≤ (w.heap.push _).size; simp; omega) (fun k hk => by simp [Value.ownBlock] at hk; have := hown.lt.1; omega)
    rcases hown'.2 with ⟨h1, h2⟩ | ⟨g', cap', cur, h1, h2⟩
    · omega
    · subst h1
      refine h g' cap' w' ?_ hb
      unfold By
      rw [List.length_append, ← hm]; exact hown'
/-- one byte more -/
theorem wpList_push1 {ops : Array Oper} {rest : List Oper} {o : Oper} {a : Act} {Q : Exit → Act → World → Prop} (hgd : o.guard = none) (s x : Operand)
    (ho : o.op = .call { callee := .builtin .append, args := #[s, x], argTypes := #[53, 53] })
    (B : Nat) (w : World) (g cap : Nat) (l : List UInt8) (b : UInt8) (e : Int) (he : e = (b.toNat : Nat)) (hs : a.eval s = .slice (some ⟨g, 0, none⟩) l.length cap) (hown : By B w g cap l)
    (hx : a.eval x = .slice (some ⟨w.heap.size, 0, none⟩) 1 1) (hlen : l.length ≤ 100000) (hB : B ≤ w.heap.size)
    (h : ∀ g' cap' w', By B w' g' cap' (l ++ [b]) → Below B w w' → wpList Try.prog ops Q rest (a.put o.dst (.slice (some ⟨g', 0, none⟩) (l.length + 1) cap')) w') :
    wpList Try.prog ops Q (o :: rest) a (w.alloc (.cells #[.int .u8 e] 5)) :=
  wpList_pushN hgd s x ho B w g cap l [b] _ (by rw [he]; rfl) (by simp) hs hown 1 rfl hx (by simp; omega) hB h
/-- two bytes more -/
theorem wpList_push2 {ops : Array Oper} {rest : List Oper} {o : Oper} {a : Act} {Q : Exit → Act → World → Prop} (hgd : o.guard = none) (s x : Operand)
    (ho : o.op = .call { callee := .builtin .append, args := #[s, x], argTypes := #[53, 53] })
    (B : Nat) (w : World) (g cap : Nat) (l : List UInt8) (b c : UInt8) (e f : Int) (he : e = (b.toNat : Nat)) (hf : f = (c.toNat : Nat)) (hs : a.eval s = .slice (some ⟨g, 0, none⟩) l.length cap) (hown : By B w g cap l)
    (hx : a.eval x = .slice (some ⟨w.heap.size, 0, none⟩) 2 2) (hlen : l.length ≤ 100000) (hB : B ≤ w.heap.size)
    (h : ∀ g' cap' w', By B w' g' cap' (l ++ [b, c]) → Below B w w' → wpList Try.prog ops Q rest (a.put o.dst (.slice (some ⟨g', 0, none⟩) (l.length + 2) cap')) w') :
    wpList Try.prog ops Q (o :: rest) a (w.alloc (.cells #[.int .u8 e, .int .u8 f] 5)) :=
  wpList_pushN hgd s x ho B w g cap l [b, c] _ (by rw [he, hf]; rfl) (by simp) hs hown 2 rfl hx (by simp; omega) hB h
set_option maxRecDepth 20000 in
theorem By.conv {B : Nat} {w : World} {g cap : Nat} {l : List UInt8} (h : By B w g cap l) : (convert 53 9 (.slice (some ⟨g, 0, none⟩) l.length cap)).run Try.prog w = .ok (.string ⟨l.toArray⟩) w := by
  have hc := World.ownsRow.cells h (g := g) rfl
  have := run_convert_bytes_arg (P := Try.prog) w 53 5 Try.underlying53 Try.underlying5 g 0 l.length cap (l.map fun c => (c.toNat : Int)) (by simp) (fun i hi => by
    have e : (⟨g, 0, none⟩ : Addr).add i = ⟨g, i, none⟩ := by
      by_cases h0 : i = 0
      · subst h0; simp [Addr.add]
      · simp [Addr.add, h0]
    rw [Nat.zero_add, ← e]
    refine hc i _ ?_
    simp [Lib.byteCells, hi]) 9 Try.underlying9
  rw [this]
  congr 2
  unfold strOfNums
  simp only [List.map_map]
  rw [show ((fun n : Int => UInt8.ofNat n.toNat) ∘ fun c : UInt8 => (c.toNat : Int)) = id from funext fun c => by simp, List.map_id]
end Go.Proofs.Ytpihmockcjdafaa.lx
end
section
/- The bytes' classes: the reference's sign. -/
namespace Go.Proofs.Ytpihmockcjdafaa.lx
open Go.RowKit

/-! the reference's signs -/
def sg : ByteArray := ⟨#[43, 45, 42, 47, 92, 94, 60, 62, 61, 58, 46, 63, 64, 35, 36, 38, 126]⟩
theorem sg_in (c : Nat) (hc : c ≤ 255) : (cls c == 5) = (List.range 17).any (fun k => PlainAid.bt sg k == (c : Int)) := by
  have := all_bytes (P := fun c => (cls c == 5) == (List.range 17).any (fun k => PlainAid.bt sg k == (c : Int))) (by decide +kernel) hc
  exact eq_of_beq this
theorem sign_c (c : Nat) (hc : c ≤ 255) (w : World) :
    Calls Try.prog 32 #[.int .u8 c] w fun e w' => e = .returned (.bool (cls c == 5)) ∧ w = w' := by
  have hs := Lib.hid (sg_in c hc)
  go_enter Try.func32, Try.ntmps32
  go_wp2
  go_loop [4] (fun i => ∃ k : Nat, i = .int .i64 k ∧ k ≤ 17 ∧ Hid (∀ j, j < k → PlainAid.bt sg j ≠ (c : Int))) (fun i => 17 - (intOf i).toNat)
  case atStart => exact ⟨0, rfl, by omega, Lib.hid (fun j hj => absurd hj (by omega))⟩
  case round =>
    obtain ⟨k, rfl, hk, hm⟩ := hrel
    have hgt : ∀ (n : Nat) (h : n < (ByteArray.mk #[43, 45, 42, 47, 92, 94, 60, 62, 61, 58, 46, 63, 64, 35, 36, 38, 126]).size), ((((ByteArray.mk #[43, 45, 42, 47, 92, 94, 60, 62, 61, 58, 46, 63, 64, 35, 36, 38, 126])[n]'h).toNat : Nat) : Int) = PlainAid.bt sg n := PlainAid.get_bt sg
    by_cases hlt : k < 17
    · by_cases he : PlainAid.bt sg k = c
      · have hh := Lib.hid he
        have he' : (PlainAid.bt sg k == (c : Int)) = true := by simpa using he
        clear he
        go_wp2
        go_ret
        refine ⟨ret_b ?_, rfl⟩
        rw [hs.out]
        symm
        rw [List.any_eq_true]
        exact ⟨k, List.mem_range.2 hlt, by simpa using hh.out⟩
      · have he' : (PlainAid.bt sg k == (c : Int)) = false := by simpa using he
        have hm' : Hid (∀ j, j < k + 1 → PlainAid.bt sg j ≠ (c : Int)) := Lib.hid fun j hj => by
          by_cases h : j = k
          · subst h; exact he
          · exact hm.out j (by omega)
        clear he hm
        go_wp2
        exact ⟨⟨k + 1, by go_num, by omega, hm'⟩, by simp [intOf]; omega⟩
    · obtain rfl : k = 17 := by omega
      clear hgt
      go_wp2
      go_ret
      refine ⟨ret_b ?_, rfl⟩
      rw [hs.out]
      symm
      rw [List.any_eq_false]
      intro j hj
      have := hm.out j (List.mem_range.1 hj)
      simpa using this
end Go.Proofs.Ytpihmockcjdafaa.lx
end
section
/- The reference: two, run, between. -/
namespace Go.Proofs.Ytpihmockcjdafaa.lx
open Go.RowKit

def twoB (s : ByteArray) (n a b : Nat) : Bool := decide (n + 1 < s.size) && (bA s n).toNat == a && (bA s (n + 1)).toNat == b
set_option maxHeartbeats 1000000 in
theorem two_c (s : ByteArray) (n a b : Nat) (hn : n ≤ 10000) (_hs : s.size ≤ 20000) (w : World) :
    Calls Try.prog 50 #[.string s, .int .i64 n, .int .u8 a, .int .u8 b] w fun e w' => e = .returned (.bool (twoB s n a b)) ∧ w = w' := by
  have hgt := get_bA s
  unfold twoB
  by_cases h2 : n + 1 < s.size
  · have H2 := Lib.hid (show decide (n + 1 < s.size) = true by simpa using h2)
    have h3 : (n : Int) + 1 < s.size := by omega
    by_cases h1 : (bA s n).toNat = a
    · have a1 : (((bA s n).toNat : Int) == (a : Int)) = true := by simp; omega
      have H1 := Lib.hid (show ((bA s n).toNat == a) = true by simpa using h1)
      clear h1
      go_enter Try.func50, Try.ntmps50
      go_wp2
      go_ret
      refine ⟨ret_b ?_, rfl⟩
      rw [H1.out, H2.out, Bool.eq_iff_iff]; simp; omega
    · have a1 : (((bA s n).toNat : Int) == (a : Int)) = false := by simp; omega
      have H1 := Lib.hid (show ((bA s n).toNat == a) = false by simpa using h1)
      clear h1
      go_enter Try.func50, Try.ntmps50
      go_wp2
      go_ret
      refine ⟨ret_b ?_, rfl⟩
      rw [H1.out, H2.out]; rfl
  · have H2 := Lib.hid (show decide (n + 1 < s.size) = false by simpa using h2)
    have h3 : ¬ ((n : Int) + 1 < s.size) := by omega
    go_enter Try.func50, Try.ntmps50
    go_wp2
    go_ret
    refine ⟨ret_b ?_, rfl⟩
    first | rw [H2.out]; rfl | rfl

theorem prefix_twoB {s : ByteArray} {n : Nat} (hn : n < s.size) : Lib.hasPrefix (s.data.toList.drop n) [47, 42] = twoB s n 47 42 := by
  unfold twoB Lib.hasPrefix
  rw [drop_bA hn]
  by_cases h : n + 1 < s.size
  · rw [drop_bA h, decide_eq_true h, Bool.true_and]
    simp only [List.isPrefixOf, Bool.and_true]
    rw [← u8_eq _ 47 (by omega), ← u8_eq _ 42 (by omega)]
    rw [Bool.beq_comm (a := bA s n), Bool.beq_comm (a := bA s (n + 1))]; rfl
  · rw [drop_end (k := n + 1) (by omega), decide_eq_false h]
    simp [List.isPrefixOf]
theorem cutRem_step {s : ByteArray} {k : Nat} (hk : k < s.size) (h : twoB s k 42 47 = false) : cutRem (s.data.toList.drop k) = cutRem (s.data.toList.drop (k + 1)) := by
  rw [drop_bA hk]
  by_cases hl : k + 1 < s.size
  · rw [drop_bA hl, cutRem, if_neg]
    rintro ⟨e1, e2⟩
    unfold twoB at h
    rw [e1, e2, decide_eq_true hl] at h
    exact absurd h (by decide)
  · rw [drop_end (k := k + 1) (by omega)]; rfl
theorem cutRem_hit {s : ByteArray} {k : Nat} (h : twoB s k 42 47 = true) : k + 2 ≤ s.size ∧ cutRem (s.data.toList.drop k) = some (s.data.toList.drop (k + 2)) := by
  unfold twoB at h
  simp only [Bool.and_eq_true, decide_eq_true_eq, beq_iff_eq] at h
  obtain ⟨⟨h1, h2⟩, h3⟩ := h
  refine ⟨by omega, ?_⟩
  rw [drop2 h1, cutRem, if_pos ⟨UInt8.toNat_inj.1 (by rw [h2]; rfl), UInt8.toNat_inj.1 (by rw [h3]; rfl)⟩]
end Go.Proofs.Ytpihmockcjdafaa.lx
end
section
/- The reference: quoted. -/
namespace Go.Proofs.Ytpihmockcjdafaa.lx
open Go.RowKit

def RQuoP (s : ByteArray) (n : Nat) (w : World) (e : Ending) (w' : World) : Prop :=
  Below w.heap.size w w' ∧ ((∃ (m : Nat) (acc : List UInt8), e = .returned (.tuple #[.string ⟨acc.toArray⟩, .int .i64 (m : Int), .int .i64 0]) ∧ n < m ∧ m ≤ s.size ∧ QuoOk s n m acc) ∨
    (∃ p k : Nat, e = .returned (.tuple #[.string ⟨#[]⟩, .int .i64 (p : Int), .int .i64 (k : Int)]) ∧ 0 < k ∧ k < 100 ∧ QuoBad s n p k))

set_option maxRecDepth 100000 in
set_option maxHeartbeats 4000000 in
theorem rquoted_c (s : ByteArray) (n : Nat) (hn : n < s.size) (hs : s.size ≤ 4096) (w : World) :
    Calls Try.prog 34 #[.string s, .int .i64 n] w (RQuoP s n w) := by
  have hgt := get_bA s
  have hE := Lib.hid (By.empty w.heap.size w (Nat.le_refl _))
  go_enter Try.func34, Try.ntmps34
  go_wp2
  go_loopg [7, 8] (s.size - (n + 1)) (fun k v i wr => ∃ (m : Nat) (acc : List UInt8) (g cap : Nat), k = s.size - m ∧ m ≤ s.size ∧ n < m ∧ v = .slice (some ⟨g, 0, none⟩) acc.length cap ∧ i = .int .i64 m ∧ acc.length ≤ m ∧ Hid (Quo s n m acc) ∧ Hid (By w.heap.size wr g cap acc) ∧ Hid (Below w.heap.size w wr))
  case atStart => exact ⟨n + 1, [], w.heap.size, 0, rfl, by omega, by omega, rfl, by go_num, by simp, Lib.hid (fun _ _ => rfl), hE, Lib.hid ((Below.refl _ w).alloc (Nat.le_refl _) _)⟩
  case round =>
    obtain ⟨m, acc, g, cap, hgk, hm, hnm, rfl, rfl, hal, hj, hY, hb⟩ := hrel
    have hsz := Lib.hid hb.out.size
    by_cases hlt : m < s.size
    · have hlt2 : (m : Int) < s.size := by omega
      have hd := Lib.hid (drop_bA hlt)
      have kt := two_c s m 39 39 (by omega) (by omega)
      cases ht : twoB s m 39 39 <;> rw [ht] at kt
      · by_cases h39 : (bA s m).toNat = 39
        · obtain ⟨a1, a2⟩ := ieq_yes (a := (bA s m).toNat) 39 (by omega)
          have e39 : bA s m = 39 := UInt8.toNat_inj.1 (by rw [h39]; rfl)
          have hq := Lib.hid (show QuoOk s n (m + 1) acc from fun M ts' => by
            rw [hj.out M ts', hd.out, e39, ans_q_end]
            intro b r hbr e
            subst e
            by_cases h3 : m + 1 < s.size
            · rw [drop_bA h3] at hbr
              unfold twoB at ht
              rw [(List.cons.inj hbr).1] at ht
              simp [h3, h39] at ht
            · rw [drop_end (k := m + 1) (by omega)] at hbr; cases hbr)
          have hcv := hY.out.conv
          clear ht h39 e39
          go_wp2_with (go_at_call 50; refine (kt _).mono ?_; rintro e w' ⟨rfl, rfl⟩)
          go_wp2
          go_ret3
          exact ⟨hb.out, .inl ⟨m + 1, acc, rfl, by omega, by omega, hq.out⟩⟩
        have n39 := Lib.hid (show bA s m ≠ 39 from fun e => h39 (by rw [e]; rfl))
        obtain ⟨a1, a2⟩ := ieq_no (a := (bA s m).toNat) 39 (by omega)
        clear h39 ht
        by_cases h92 : (bA s m).toNat = 92
        · obtain ⟨b1, b2⟩ := ieq_yes (a := (bA s m).toNat) 92 (by omega)
          have e92 := Lib.hid (show bA s m = 92 from UInt8.toNat_inj.1 (by rw [h92]; rfl))
          clear h92
          by_cases hend : m + 1 = s.size
          · have x1 : ((m : Int) + 1 == (s.size : Int)) = true := by simp; omega
            have hq := Lib.hid (show QuoBad s n n 31 from fun M ts' => by rw [hj.out M ts', drop1 hend, e92.out]; rfl)
            clear hend
            go_wp2_with (go_at_call 50; refine (kt _).mono ?_; rintro e w' ⟨rfl, rfl⟩)
            go_ret3
            exact ⟨hb.out, .inr ⟨n, 31, rfl, by omega, by omega, hq.out⟩⟩
          · have hlt3 : m + 1 < s.size := by omega
            have x1 : ((m : Int) + 1 == (s.size : Int)) = false := by simp; omega
            have hlt4 : (m : Int) + 1 < s.size := by omega
            clear hend
            have hstep := Lib.hid (show ∀ M ts', ans M (s.data.toList.drop (n + 1)) ts' (n + 1) (.quo n []) = if escOk (bA s (m + 1)) = true then ans M (s.data.toList.drop (m + 2)) ts' (m + 2) (.quo n (acc ++ [escV (bA s (m + 1))])) else .bad m 32 from fun M ts' => by
              rw [hj.out M ts', drop2 hlt3, e92.out, ans_q_esc])
            by_cases g110 : (bA s (m + 1)).toNat = 110
            · obtain ⟨p1, p2⟩ := ieq_yes (a := (bA s (m + 1)).toNat) 110 (by omega)
              have ev : bA s (m + 1) = 110 := UInt8.toNat_inj.1 (by rw [g110]; rfl)
              have hq := Lib.hid (show Quo s n (m + 2) (acc ++ [10]) from fun M ts' => by
                rw [hstep.out M ts', ev]; rfl)
              clear ev g110 hstep
              go_wp2_with (first | (go_at_call 50; refine (kt _).mono ?_; rintro e w' ⟨rfl, rfl⟩) | (at_builtin; refine wpList_push1 rfl _ _ rfl w.heap.size wr g cap acc (10) _ (rfl) rfl hY.out rfl (by omega) hsz.out ?_; intro g' cap' w3 hY3 hB3))
              have HY3 := Lib.hid hY3
              have HB3 := Lib.hid (hb.out.trans hB3)
              clear hY3 hB3
              go_wp2
              go_roundg (s.size - (m + 2))
              case measure => omega
              case rel => exact ⟨m + 2, acc ++ [10], g', cap', rfl, by omega, by omega, by simp, by go_num, by simp; omega, hq, HY3, HB3⟩
            obtain ⟨p110, q110⟩ := ieq_no (a := (bA s (m + 1)).toNat) 110 (by omega)
            by_cases g116 : (bA s (m + 1)).toNat = 116
            · obtain ⟨p1, p2⟩ := ieq_yes (a := (bA s (m + 1)).toNat) 116 (by omega)
              have ev : bA s (m + 1) = 116 := UInt8.toNat_inj.1 (by rw [g116]; rfl)
              have hq := Lib.hid (show Quo s n (m + 2) (acc ++ [9]) from fun M ts' => by
                rw [hstep.out M ts', ev]; rfl)
              clear ev g116 hstep
              go_wp2_with (first | (go_at_call 50; refine (kt _).mono ?_; rintro e w' ⟨rfl, rfl⟩) | (at_builtin; refine wpList_push1 rfl _ _ rfl w.heap.size wr g cap acc (9) _ (rfl) rfl hY.out rfl (by omega) hsz.out ?_; intro g' cap' w3 hY3 hB3))
              have HY3 := Lib.hid hY3
              have HB3 := Lib.hid (hb.out.trans hB3)
              clear hY3 hB3
              go_wp2
              go_roundg (s.size - (m + 2))
              case measure => omega
              case rel => exact ⟨m + 2, acc ++ [9], g', cap', rfl, by omega, by omega, by simp, by go_num, by simp; omega, hq, HY3, HB3⟩
            obtain ⟨p116, q116⟩ := ieq_no (a := (bA s (m + 1)).toNat) 116 (by omega)
            by_cases g92 : (bA s (m + 1)).toNat = 92
            · obtain ⟨p1, p2⟩ := ieq_yes (a := (bA s (m + 1)).toNat) 92 (by omega)
              have ev : bA s (m + 1) = 92 := UInt8.toNat_inj.1 (by rw [g92]; rfl)
              have hq := Lib.hid (show Quo s n (m + 2) (acc ++ [bA s (m + 1)]) from fun M ts' => by
                rw [hstep.out M ts', ev]; rfl)
              clear ev g92 hstep
              go_wp2_with (first | (go_at_call 50; refine (kt _).mono ?_; rintro e w' ⟨rfl, rfl⟩) | (at_builtin; refine wpList_push1 rfl _ _ rfl w.heap.size wr g cap acc (bA s (m + 1)) _ (rfl) rfl hY.out rfl (by omega) hsz.out ?_; intro g' cap' w3 hY3 hB3))
              have HY3 := Lib.hid hY3
              have HB3 := Lib.hid (hb.out.trans hB3)
              clear hY3 hB3
              go_wp2
              go_roundg (s.size - (m + 2))
              case measure => omega
              case rel => exact ⟨m + 2, acc ++ [bA s (m + 1)], g', cap', rfl, by omega, by omega, by simp, by go_num, by simp; omega, hq, HY3, HB3⟩
            obtain ⟨p92, q92⟩ := ieq_no (a := (bA s (m + 1)).toNat) 92 (by omega)
            by_cases g39 : (bA s (m + 1)).toNat = 39
            · obtain ⟨p1, p2⟩ := ieq_yes (a := (bA s (m + 1)).toNat) 39 (by omega)
              have ev : bA s (m + 1) = 39 := UInt8.toNat_inj.1 (by rw [g39]; rfl)
              have hq := Lib.hid (show Quo s n (m + 2) (acc ++ [bA s (m + 1)]) from fun M ts' => by
                rw [hstep.out M ts', ev]; rfl)
              clear ev g39 hstep
              go_wp2_with (first | (go_at_call 50; refine (kt _).mono ?_; rintro e w' ⟨rfl, rfl⟩) | (at_builtin; refine wpList_push1 rfl _ _ rfl w.heap.size wr g cap acc (bA s (m + 1)) _ (rfl) rfl hY.out rfl (by omega) hsz.out ?_; intro g' cap' w3 hY3 hB3))
              have HY3 := Lib.hid hY3
              have HB3 := Lib.hid (hb.out.trans hB3)
              clear hY3 hB3
              go_wp2
              go_roundg (s.size - (m + 2))
              case measure => omega
              case rel => exact ⟨m + 2, acc ++ [bA s (m + 1)], g', cap', rfl, by omega, by omega, by simp, by go_num, by simp; omega, hq, HY3, HB3⟩
            obtain ⟨p39, q39⟩ := ieq_no (a := (bA s (m + 1)).toNat) 39 (by omega)
            have hno : escOk (bA s (m + 1)) = false := by
              unfold escOk
              rw [show (110 : UInt8) = UInt8.ofNat 110 from rfl, show (116 : UInt8) = UInt8.ofNat 116 from rfl, show (92 : UInt8) = UInt8.ofNat 92 from rfl, show (39 : UInt8) = UInt8.ofNat 39 from rfl,
                u8_eq _ _ (by omega), u8_eq _ _ (by omega), u8_eq _ _ (by omega), u8_eq _ _ (by omega)]
              simp [g110, g116, g92, g39]
            have hq := Lib.hid (show QuoBad s n m 32 from fun M ts' => by rw [hstep.out M ts', if_neg (by rw [hno]; decide)])
            clear hno hstep g110 g116 g92 g39
            go_wp2_with (go_at_call 50; refine (kt _).mono ?_; rintro e w' ⟨rfl, rfl⟩)
            go_ret3
            exact ⟨hb.out, .inr ⟨m, 32, rfl, by omega, by omega, hq.out⟩⟩
        have n92 := Lib.hid (show bA s m ≠ 92 from fun e => h92 (by rw [e]; rfl))
        obtain ⟨b1, b2⟩ := ieq_no (a := (bA s m).toNat) 92 (by omega)
        clear h92
        by_cases h32 : (bA s m).toNat < 32
        · have hq := Lib.hid (show QuoBad s n m 30 from fun M ts' => by rw [hj.out M ts', hd.out, ans_q_bad M n _ _ _ _ _ n39.out n92.out (.inl h32)])
          have t1 : (((bA s m).toNat : Nat) : Int) < 32 := by omega
          clear h32
          go_wp2_with (go_at_call 50; refine (kt _).mono ?_; rintro e w' ⟨rfl, rfl⟩)
          go_ret3
          exact ⟨hb.out, .inr ⟨m, 30, rfl, by omega, by omega, hq.out⟩⟩
        have t1 : ¬ ((((bA s m).toNat : Nat) : Int) < 32) := by omega
        by_cases h126 : 126 < (bA s m).toNat
        · have hq := Lib.hid (show QuoBad s n m 30 from fun M ts' => by rw [hj.out M ts', hd.out, ans_q_bad M n _ _ _ _ _ n39.out n92.out (.inr h126)])
          have t2 : (126 : Int) < (((bA s m).toNat : Nat) : Int) := by omega
          clear h126
          go_wp2_with (go_at_call 50; refine (kt _).mono ?_; rintro e w' ⟨rfl, rfl⟩)
          go_ret3
          exact ⟨hb.out, .inr ⟨m, 30, rfl, by omega, by omega, hq.out⟩⟩
        have t2 : ¬ ((126 : Int) < (((bA s m).toNat : Nat) : Int)) := by omega
        have hq := Lib.hid (show Quo s n (m + 1) (acc ++ [bA s m]) from fun M ts' => by rw [hj.out M ts', hd.out, ans_q_plain M n _ _ _ _ _ n39.out n92.out (by omega)])
        clear h32 h126
        go_wp2_with (first | (go_at_call 50; refine (kt _).mono ?_; rintro e w' ⟨rfl, rfl⟩) | (at_builtin; refine wpList_push1 rfl _ _ rfl w.heap.size wr g cap acc (bA s m) _ (rfl) rfl hY.out rfl (by omega) hsz.out ?_; intro g' cap' w3 hY3 hB3))
        have HY3 := Lib.hid hY3
        have HB3 := Lib.hid (hb.out.trans hB3)
        clear hY3 hB3
        go_wp2
        go_roundg (s.size - (m + 1))
        case measure => omega
        case rel => exact ⟨m + 1, acc ++ [bA s m], g', cap', rfl, by omega, by omega, by simp, by go_num, by simp; omega, hq, HY3, HB3⟩
      · have hlt3 : m + 1 < s.size := by unfold twoB at ht; simp at ht; exact ht.1.1
        have hq := Lib.hid (show Quo s n (m + 2) (acc ++ [39]) from fun M ts' => by
          unfold twoB at ht
          simp only [Bool.and_eq_true, decide_eq_true_eq, beq_iff_eq] at ht
          have e1 : bA s m = 39 := UInt8.toNat_inj.1 (by rw [ht.1.2]; rfl)
          have e2 : bA s (m + 1) = 39 := UInt8.toNat_inj.1 (by rw [ht.2]; rfl)
          rw [hj.out M ts', drop2 hlt3, e1, e2, ans_q_two])
        clear ht
        go_wp2_with (first | (go_at_call 50; refine (kt _).mono ?_; rintro e w' ⟨rfl, rfl⟩) | (at_builtin; refine wpList_push1 rfl _ _ rfl w.heap.size wr g cap acc (39) _ (rfl) rfl hY.out rfl (by omega) hsz.out ?_; intro g' cap' w3 hY3 hB3))
        have HY3 := Lib.hid hY3
        have HB3 := Lib.hid (hb.out.trans hB3)
        clear hY3 hB3
        go_wp2
        go_roundg (s.size - (m + 2))
        case measure => omega
        case rel => exact ⟨m + 2, acc ++ [39], g', cap', rfl, by omega, by omega, by simp, by go_num, by simp; omega, hq, HY3, HB3⟩
    · have hlt2 : ¬ ((m : Int) < s.size) := by omega
      have hq := Lib.hid (show QuoBad s n n 31 from fun M ts' => by rw [hj.out M ts', drop_end (k := m) (by omega)]; rfl)
      go_wp2
      go_ret3
      exact ⟨hb.out, .inr ⟨n, 31, rfl, by omega, by omega, hq.out⟩⟩
end Go.Proofs.Ytpihmockcjdafaa.lx
end
section
/- The reference: run. -/
namespace Go.Proofs.Ytpihmockcjdafaa.lx
open Go.RowKit

theorem run_end {s : ByteArray} {n m y : Nat} (hn : n ≤ m) (hlt : n < s.size) (hm : m ≤ s.size) (h0 : joinB y (cl (bA s n)) = true) (h1 : ∀ j, n ≤ j → j < m → joinB y (cl (bA s j)) = true) (h2 : m < s.size → joinB y (cl (bA s m)) = false) :
    m = n + 1 + (wordL s n y).length := by
  have hne : n ≠ m := fun e => by
    subst e; rw [h2 hlt] at h0; cases h0
  rw [(wordL_is (s := s) (n := n) (m := m) (y := y) (by omega) hm (fun j a b => h1 j (by omega) b) h2).2]; omega

set_option maxHeartbeats 1000000 in
theorem run1_c (s : ByteArray) (n : Nat) (hn : n < s.size) (hs : s.size ≤ 4096) (h0 : joinB 2 (cl (bA s n)) = true) (w : World) :
    Calls Try.prog 29 #[.string s, .int .i64 n, .int .i64 1] w fun e w' => e = .returned (.int .i64 ((n + 1 + (wordL s n 2).length : Nat) : Int)) ∧ w = w' := by
  have H0 := Lib.hid h0
  have hgt := get_bA s
  clear h0
  go_enter Try.func29, Try.ntmps29
  go_wp2
  go_loop [1] (fun i => ∃ m : Nat, i = .int .i64 m ∧ n ≤ m ∧ m ≤ s.size ∧ Hid (∀ j, n ≤ j → j < m → joinB 2 (cl (bA s j)) = true)) (fun i => s.size - (intOf i).toNat)
  case atStart => exact ⟨n, rfl, by omega, by omega, Lib.hid (fun j a b => absurd b (by omega))⟩
  case round =>
    obtain ⟨m, rfl, hnm, hm, hj⟩ := hrel
    by_cases hlt : m < s.size
    · have hlt2 : (m : Int) < s.size := by omega
      have kc := named_c (bA s m).toNat (bA_le s _)
      cases hb : joinB 2 (cl (bA s m))
      all_goals
        have Hb := Lib.hid hb
        unfold cl at hb
        first | rw [(joinB_name _).2.2.1] at hb | rw [(joinB_name _).2.2.2] at hb | skip
        rw [hb] at kc
        clear hb
      · go_wp2_with (go_at_call 51; (with_reducible refine (kc _).mono ?_); rintro e w' ⟨rfl, rfl⟩)
        go_ret
        exact ⟨ret_i (by have := run_end hnm hn hm H0.out hj.out (fun _ => Hb.out); omega), rfl⟩
      · have hj' := Lib.hid (show ∀ j, n ≤ j → j < m + 1 → joinB 2 (cl (bA s j)) = true from fun j a b => by
          by_cases e : j = m
          · rw [e]; exact Hb.out
          · exact hj.out j a (by omega))
        go_wp2_with (go_at_call 51; (with_reducible refine (kc _).mono ?_); rintro e w' ⟨rfl, rfl⟩)
        exact ⟨⟨m + 1, by go_num, by omega, by omega, hj'⟩, by simp [intOf]; omega⟩
    · have hlt2 : ¬ ((m : Int) < s.size) := by omega
      go_wp2
      go_ret
      exact ⟨ret_i (by have := run_end hnm hn hm H0.out hj.out (fun h => absurd h hlt); omega), rfl⟩

set_option maxHeartbeats 1000000 in
theorem run2_c (s : ByteArray) (n : Nat) (hn : n < s.size) (hs : s.size ≤ 4096) (h0 : joinB 4 (cl (bA s n)) = true) (w : World) :
    Calls Try.prog 29 #[.string s, .int .i64 n, .int .i64 2] w fun e w' => e = .returned (.int .i64 ((n + 1 + (wordL s n 4).length : Nat) : Int)) ∧ w = w' := by
  have H0 := Lib.hid h0
  have hgt := get_bA s
  clear h0
  go_enter Try.func29, Try.ntmps29
  go_wp2
  go_loop [1] (fun i => ∃ m : Nat, i = .int .i64 m ∧ n ≤ m ∧ m ≤ s.size ∧ Hid (∀ j, n ≤ j → j < m → joinB 4 (cl (bA s j)) = true)) (fun i => s.size - (intOf i).toNat)
  case atStart => exact ⟨n, rfl, by omega, by omega, Lib.hid (fun j a b => absurd b (by omega))⟩
  case round =>
    obtain ⟨m, rfl, hnm, hm, hj⟩ := hrel
    by_cases hlt : m < s.size
    · have hlt2 : (m : Int) < s.size := by omega
      have kc := digit_c (bA s m).toNat (bA_le s _)
      cases hb : joinB 4 (cl (bA s m))
      all_goals
        have Hb := Lib.hid hb
        unfold cl at hb
        first | rw [(joinB_name _).2.2.1] at hb | rw [(joinB_name _).2.2.2] at hb | skip
        rw [hb] at kc
        clear hb
      · go_wp2_with (go_at_call 31; (with_reducible refine (kc _).mono ?_); rintro e w' ⟨rfl, rfl⟩)
        go_ret
        exact ⟨ret_i (by have := run_end hnm hn hm H0.out hj.out (fun _ => Hb.out); omega), rfl⟩
      · have hj' := Lib.hid (show ∀ j, n ≤ j → j < m + 1 → joinB 4 (cl (bA s j)) = true from fun j a b => by
          by_cases e : j = m
          · rw [e]; exact Hb.out
          · exact hj.out j a (by omega))
        go_wp2_with (go_at_call 31; (with_reducible refine (kc _).mono ?_); rintro e w' ⟨rfl, rfl⟩)
        exact ⟨⟨m + 1, by go_num, by omega, by omega, hj'⟩, by simp [intOf]; omega⟩
    · have hlt2 : ¬ ((m : Int) < s.size) := by omega
      go_wp2
      go_ret
      exact ⟨ret_i (by have := run_end hnm hn hm H0.out hj.out (fun h => absurd h hlt); omega), rfl⟩

set_option maxHeartbeats 1000000 in
theorem run3_c (s : ByteArray) (n : Nat) (hn : n < s.size) (hs : s.size ≤ 4096) (h0 : joinB 5 (cl (bA s n)) = true) (w : World) :
    Calls Try.prog 29 #[.string s, .int .i64 n, .int .i64 3] w fun e w' => e = .returned (.int .i64 ((n + 1 + (wordL s n 5).length : Nat) : Int)) ∧ w = w' := by
  have H0 := Lib.hid h0
  have hgt := get_bA s
  clear h0
  go_enter Try.func29, Try.ntmps29
  go_wp2
  go_loop [1] (fun i => ∃ m : Nat, i = .int .i64 m ∧ n ≤ m ∧ m ≤ s.size ∧ Hid (∀ j, n ≤ j → j < m → joinB 5 (cl (bA s j)) = true)) (fun i => s.size - (intOf i).toNat)
  case atStart => exact ⟨n, rfl, by omega, by omega, Lib.hid (fun j a b => absurd b (by omega))⟩
  case round =>
    obtain ⟨m, rfl, hnm, hm, hj⟩ := hrel
    by_cases hlt : m < s.size
    · have hlt2 : (m : Int) < s.size := by omega
      have kc := sign_c (bA s m).toNat (bA_le s _)
      cases hb : joinB 5 (cl (bA s m))
      all_goals
        have Hb := Lib.hid hb
        unfold cl at hb
        first | rw [(joinB_name _).2.2.1] at hb | rw [(joinB_name _).2.2.2] at hb | skip
        rw [hb] at kc
        clear hb
      · go_wp2_with (go_at_call 32; (with_reducible refine (kc _).mono ?_); rintro e w' ⟨rfl, rfl⟩)
        go_ret
        exact ⟨ret_i (by have := run_end hnm hn hm H0.out hj.out (fun _ => Hb.out); omega), rfl⟩
      · have hj' := Lib.hid (show ∀ j, n ≤ j → j < m + 1 → joinB 5 (cl (bA s j)) = true from fun j a b => by
          by_cases e : j = m
          · rw [e]; exact Hb.out
          · exact hj.out j a (by omega))
        go_wp2_with (go_at_call 32; (with_reducible refine (kc _).mono ?_); rintro e w' ⟨rfl, rfl⟩)
        exact ⟨⟨m + 1, by go_num, by omega, by omega, hj'⟩, by simp [intOf]; omega⟩
    · have hlt2 : ¬ ((m : Int) < s.size) := by omega
      go_wp2
      go_ret
      exact ⟨ret_i (by have := run_end hnm hn hm H0.out hj.out (fun h => absurd h hlt); omega), rfl⟩
end Go.Proofs.Ytpihmockcjdafaa.lx
end
