/- A written term's tokens, read: the term, its variables numbered anew. Plain lists.; A written term's text, read whole. Plain lists.; Two terms alike but for the numbers of variables: a written term and what is read of it. Plain lists. -/
import Derived.Test.YtjccohcigopdfaaQ18
set_option linter.unusedVariables false
set_option linter.unusedSimpArgs false
section
/- A written term's tokens, read: the term, its variables numbered anew. Plain lists. -/
namespace Go.Proofs.Ytjccohcigopdfaa.rd
open Go.Proofs.Ytjccohcigopdfaa.op (progI progP)
open Go.Proofs.Ytjccohcigopdfaa.nm (Fit)
open Go.Proofs.Ytjccohcigopdfaa.tx (dec text)
open Go.Proofs.Ytjccohcigopdfaa.lx (Tok Pc mk wd mP psT psP psQ psR psL psM leafP atomX leafX varX gdT gdL quoteS)

/-- pieces as the reader sees them; is what comes right behind the last? -/
def kps : List Pc → Bool → List K
  | [], _ => []
  | [(k, x, _)], f => [⟨k, x, k == 1 && f⟩]
  | (k, x, _) :: p :: l, f => ⟨k, x, k == 1⟩ :: kps (p :: l) f
theorem kps_two (k : Nat) (x : List UInt8) (w : Nat) {l : List Pc} (hl : l ≠ []) (f : Bool) : kps ((k, x, w) :: l) f = ⟨k, x, k == 1⟩ :: kps l f := by
  cases l with
  | nil => exact absurd rfl hl
  | cons p l => rfl
theorem kps_app (a : List Pc) {b : List Pc} (hb : b ≠ []) (f : Bool) : kps (a ++ b) f = kps a true ++ kps b f := by
  induction a with
  | nil => rfl
  | cons p a ih =>
    obtain ⟨k, x, w⟩ := p
    rw [List.cons_append, kps_two k x w (by simp [hb]), ih]
    cases a with
    | nil => show _ :: kps b f = (⟨k, x, k == 1 && true⟩ : K) :: kps b f; simp
    | cons q a => rfl
theorem kps_mark (b : UInt8) (f : Bool) : kps [mP b] f = [⟨5, [b], false⟩] := rfl
theorem kps_m (b : UInt8) (l : List Pc) (f : Bool) : kps (mP b :: l) f = ⟨5, [b], false⟩ :: kps l f := by
  cases l with
  | nil => rfl
  | cons q l => rfl
theorem abw_mk (ps : List Pc) (d : Nat) (e : Tok) : abw (mk d ps) e = kps ps (e.frm == d + wd ps) := by
  induction ps generalizing d with
  | nil => rfl
  | cons p ps ih =>
    obtain ⟨k, x, w⟩ := p
    cases ps with
    | nil => show [(⟨k, x, nearB _ e⟩ : K)] = [⟨k, x, _⟩]; simp [nearB, wd]
    | cons q ps =>
      obtain ⟨k', x', w'⟩ := q
      show (⟨k, x, nearB _ _⟩ : K) :: abw (mk (d + w) ((k', x', w') :: ps)) e = ⟨k, x, k == 1⟩ :: kps ((k', x', w') :: ps) _
      rw [ih (d + w)]
      simp [nearB, wd, Nat.add_assoc]

mutual
/-- a term, its variables numbered by where they first come -/
def rnT (nm : List (List UInt8)) : T → List (List UInt8) → T × List (List UInt8)
  | .leaf k n s, w => if k = 1 then (.leaf 1 (w.idxOf (varX nm n) : Nat) [], if w.idxOf (varX nm n) = w.length then w ++ [varX nm n] else w) else if k = 2 then (.leaf 2 n [], w) else (.leaf 3 0 s, w)
  | .cmp s l, w => (.cmp s (rnL nm l w).1, (rnL nm l w).2)
def rnL (nm : List (List UInt8)) : List T → List (List UInt8) → List T × List (List UInt8)
  | [], w => ([], w)
  | t :: l, w => ((rnT nm t w).1 :: (rnL nm l (rnT nm t w).2).1, (rnL nm l (rnT nm t w).2).2)
end
mutual
/-- how deep a term's text is -/
def dpT : T → Nat
  | .leaf _ _ _ => 1
  | .cmp s l => if s = [46] ∧ l.length = 2 then dpP l + 1 else dpL l + 1
def dpP : List T → Nat
  | [] => 0
  | a :: l => max (dpT a) (dpQ l)
def dpQ : List T → Nat
  | [] => 0
  | b :: _ => dpR b
def dpR : T → Nat
  | .leaf k _ s => if k = 3 ∧ s = [91, 93] then 0 else 1
  | .cmp s l => if s = [46] ∧ l.length = 2 then dpP l else dpL l + 1
def dpL : List T → Nat
  | [] => 0
  | t :: l => max (dpT t) (dpL l)
end
mutual
/-- its integers are in 64 bits -/
def ftT : T → Prop
  | .leaf k n _ => k = 2 → Fit n
  | .cmp _ l => ftL l
def ftL : List T → Prop
  | [] => True
  | t :: l => ftT t ∧ ftL l
end
/-- what ends a term -/
def Stop (most : Int) (k : K) : Prop := k.kind ≠ 3 ∧ k.kind ≠ 4 ∧ mayB k = false ∧ ((infixK k).2.2.2 = false ∨ most < (infixK k).1)
theorem stop_mark {b : UInt8} (hb : b = 44 ∨ b = 124 ∨ b = 93 ∨ b = 41) (g : Bool) : Stop 999 ⟨5, [b], g⟩ := by
  refine ⟨show (5 : Nat) ≠ 3 from by decide, show (5 : Nat) ≠ 4 from by decide, ?_, ?_⟩
  · rcases hb with rfl | rfl | rfl | rfl <;> rfl
  · rcases hb with rfl | rfl | rfl | rfl
    · right; show 999 < (progI [44]).1; decide +kernel
    all_goals exact .inl rfl
/-- read, or nested too deeply -/
def Rs {α : Type} (d dp : Nat) (x : Res α) (v : α × St) : Prop := x = .ok v ∨ (x = .error 52 ∧ d < dp)
theorem Rs.up {α : Type} {d d' dp dp' : Nat} {x : Res α} {v : α × St} (h : Rs d dp x v) (hd : d < dp → d' < dp') : Rs d' dp' x v := h.imp id fun h => ⟨h.1, hd h.2⟩

/-- an operand that is whole -/
theorem term_of {d : Nat} {most : Int} {l r : List K} {n n' : List (List UInt8)} {t : T} (hr : Stop most (nx r)) (h : operandP (termP d) most (l, n) = .ok ((t, 0), (r, n'))) : termP (d + 1) most (l, n) = .ok (t, (r, n')) := by
  rw [term_e1, h]
  show loopP (termP d) most r.length t 0 (r, n') = _
  rw [loop_stop _ _ _ _ _ _ (hr.2.2.2.imp id .inl)]
theorem atomK {d : Nat} {most : Int} {s : List UInt8} {g : Bool} {r : List K} (hr : Stop most (nx r)) (n : List (List UInt8)) : termP (d + 1) most (⟨1, s, g⟩ :: r, n) = .ok (.leaf 3 0 s, (r, n)) := by
  refine term_of hr ?_
  unfold operandP
  dsimp only
  rw [if_pos (by rfl)]
  unfold namedP
  dsimp only
  rw [if_neg (by exact hr.2.1), if_neg (fun h => hr.1 h.2.1), if_neg (fun h => absurd (hr.2.2.1.symm.trans (show mayB (nx r) = true from h.2.2)) (by decide))]
  rfl
theorem varK {nm : List (List UInt8)} {d : Nat} {most : Int} {m : Int} {g : Bool} {r : List K} (hr : Stop most (nx r)) (n : List (List UInt8)) : termP (d + 1) most (⟨2, varX nm m, g⟩ :: r, n) = .ok ((rnT nm (.leaf 1 m []) n).1, (r, (rnT nm (.leaf 1 m []) n).2)) := by
  have hx : varX nm m ≠ [95] := by
    unfold varX
    split
    · rename_i h; exact h.2.2
    · have : ∃ c l, text m = c :: l := by
        rcases h : text m with _ | ⟨c, l⟩
        · exfalso
          by_cases h0 : m < 0
          · rw [tx.text_neg h0] at h; cases h
          · rw [tx.text_pos h0] at h; exact tx.dec_ne _ h
        · exact ⟨c, l, rfl⟩
      obtain ⟨c, l, h⟩ := this
      rw [h]; simp
  refine term_of hr ?_
  unfold operandP
  dsimp only
  rw [if_neg (by show ¬ (2 : Nat) = 1; decide), if_pos (by rfl)]
  have e : varP (⟨2, varX nm m, g⟩ :: r, n) = ((rnT nm (.leaf 1 m []) n).1, (r, (rnT nm (.leaf 1 m []) n).2)) := by
    rw [rnT, if_pos rfl]
    unfold varP
    show (if n.idxOf (varX nm m) = n.length ∨ varX nm m = [95] then _ else _) = _
    by_cases hi : n.idxOf (varX nm m) = n.length
    · rw [if_pos (.inl hi), if_pos hi, hi]; rfl
    · rw [if_neg (fun h => h.elim hi hx), if_neg hi]; rfl
  rw [e]
theorem intPs (nm : List (List UInt8)) (a : Int) (s : List UInt8) (f : Bool) : kps (leafP nm 2 a s) f = intK a := by
  unfold leafP intK
  rw [if_neg (by decide), if_pos rfl]
  split <;> rfl
theorem int_operand {a : Int} (ha : Fit a) (w : W) (most : Int) (r : List K) (n : List (List UInt8)) : operandP w most (intK a ++ r, n) = .ok ((.leaf 2 a [], 0), (r, n)) := by
  unfold intK
  split
  · rename_i h
    have hp : tx.parseV (45 :: dec a.natAbs) = a ∧ tx.parseE (45 :: dec a.natAbs) = 0 := tx.parse_yes ha (by rw [tx.text_neg h])
    have ht := trim_dec (m := a.natAbs) (by omega)
    unfold operandP
    dsimp only
    rw [if_pos (by rfl)]
    unfold namedP
    dsimp only
    rw [if_neg (by show ¬ (3 : Nat) = 4; decide), if_pos ⟨rfl, rfl, rfl⟩]
    unfold intP
    show zeroP (if trim (dec a.natAbs) = [] then _ else if tx.parseE ([45] ++ trim (dec a.natAbs)) = 0 then .ok (.leaf 2 (tx.parseV ([45] ++ trim (dec a.natAbs))) [], (r, n)) else .error 51) = _
    rw [ht, if_neg (tx.dec_ne _), show [45] ++ dec a.natAbs = 45 :: dec a.natAbs from rfl, if_pos hp.2, hp.1]
    rfl
  · rename_i h
    have hp : tx.parseV (dec a.natAbs) = a ∧ tx.parseE (dec a.natAbs) = 0 := tx.parse_yes ha (by rw [tx.text_pos h])
    unfold operandP
    dsimp only
    rw [if_neg (by show ¬ (3 : Nat) = 1; decide), if_neg (by show ¬ (3 : Nat) = 2; decide), if_pos (by rfl)]
    unfold intP
    show zeroP (if trim (dec a.natAbs) = [] then .ok (.leaf 2 0 [], (r, n)) else if tx.parseE ([] ++ trim (dec a.natAbs)) = 0 then .ok (.leaf 2 (tx.parseV ([] ++ trim (dec a.natAbs))) [], (r, n)) else .error 51) = _
    by_cases h0 : a.natAbs = 0
    · rw [h0, trim_dec0, if_pos rfl, show a = 0 by omega]; rfl
    · rw [trim_dec (by omega), if_neg (tx.dec_ne _), List.nil_append, if_pos hp.2, hp.1]; rfl
theorem atomP {d : Nat} {most : Int} {s : List UInt8} {f : Bool} {r : List K} (hr : Stop most (nx r)) (n : List (List UInt8)) : termP (d + 1) most (kps (atomX s) f ++ r, n) = .ok (.leaf 3 0 s, (r, n)) := by
  unfold atomX
  by_cases h1 : s = [91, 93]
  · rw [if_pos h1, h1]
    exact term_of hr rfl
  · rw [if_neg h1]
    by_cases h2 : s = [123, 125]
    · rw [if_pos h2, h2]
      exact term_of hr rfl
    · rw [if_neg h2]
      exact atomK hr n
theorem leafK {nm : List (List UInt8)} {k : Nat} {a : Int} {s : List UInt8} (h : gdT nm (.leaf k a s)) (hf : ftT (.leaf k a s)) {d : Nat} {most : Int} {f : Bool} {r : List K} (hr : Stop most (nx r)) (n : List (List UInt8)) :
    termP (d + 1) most (kps (leafP nm k a s) f ++ r, n) = .ok ((rnT nm (.leaf k a s) n).1, (r, (rnT nm (.leaf k a s) n).2)) := by
  rw [gdT] at h
  rcases h with ⟨rfl, h⟩ | rfl | ⟨rfl, h⟩
  · have := varK (nm := nm) (d := d) (m := a) (g := false) hr n
    rw [rnT, if_pos rfl] at this ⊢
    exact this
  · rw [intPs, rnT, if_neg (by decide), if_pos rfl]
    rw [ftT] at hf
    exact term_of hr (int_operand (hf rfl) _ _ r n)
  · rw [rnT, if_neg (by decide), if_neg (by decide)]
    exact atomP hr n

/-- a list's elements behind those that are there, and its rest -/
def listTail (w : W) (fu : Nat) (l : List T) (s : St) : Res T :=
  match rowGo w fu l s with
  | .error e => .error e
  | .ok (l, s1) =>
    match (if isM (nx s1.1) [124] = true then w 999 (s1.1.tail, s1.2) else .ok (nilT, s1) : Res T) with
    | .error e => .error e
    | .ok (r, s2) => match expectP [93] s2 with
      | .error e => .error e
      | .ok s3 => .ok (consAll l r, s3)
/-- an element, and what is behind it -/
def elemTail (w : W) (F : List K → Nat) (l : List T) (s : St) : Res T :=
  match w 999 s with
  | .error e => .error e
  | .ok (t, s') => listTail w (F s'.1) (l ++ [t]) s'
theorem list_elem (w : W) (s : St) (h : isM (nx s.1) [93] = false) : listP w s = elemTail w List.length [] s := by
  unfold listP elemTail rowP
  rw [if_neg (by simp [h])]
  cases w 999 s with
  | error e => rfl
  | ok p => obtain ⟨t, s'⟩ := p; rfl
theorem tail_elem (w : W) (fu : Nat) (l : List T) (s : St) (h : isM (nx s.1) [44] = true) : listTail w (fu + 1) l s = elemTail w (fun _ => fu) l (s.1.tail, s.2) := by
  unfold listTail elemTail
  rw [rowGo, if_pos h]
  cases w 999 (s.1.tail, s.2) with
  | error e => rfl
  | ok p => obtain ⟨t, s'⟩ := p; rfl
theorem cons_app (l : List T) (a r : T) : consAll (l ++ [a]) r = consAll l (.cmp [46] [a, r]) := by unfold consAll; rw [List.foldr_append]; rfl
/-- the rest at once -/
theorem tail_bar {w : W} {fu : Nat} {l : List T} {y r : List K} {n n' : List (List UInt8)} {t : T} (h : w 999 (y, n) = .ok (t, (⟨5, [93], false⟩ :: r, n'))) : listTail w fu l (⟨5, [124], false⟩ :: y, n) = .ok (consAll l t, (r, n')) := by
  unfold listTail
  rw [rowGo_no _ _ _ _ rfl]
  dsimp only
  rw [if_pos (by rfl)]
  show (match w 999 (y, n) with | .error e => _ | .ok (r, s2) => _) = _
  rw [h]; rfl
theorem tail_barE {w : W} {fu : Nat} {l : List T} {y : List K} {n : List (List UInt8)} {e : Nat} (h : w 999 (y, n) = .error e) : listTail w fu l (⟨5, [124], false⟩ :: y, n) = .error e := by
  unfold listTail
  rw [rowGo_no _ _ _ _ rfl]
  dsimp only
  rw [if_pos (by rfl)]
  show (match w 999 (y, n) with | .error e => _ | .ok (r, s2) => _) = _
  rw [h]
theorem tail_end (w : W) (fu : Nat) (l : List T) (r : List K) (n : List (List UInt8)) : listTail w fu l (⟨5, [93], false⟩ :: r, n) = .ok (consAll l nilT, (r, n)) := by
  unfold listTail
  rw [rowGo_no _ _ _ _ rfl]
  rfl
/-- how a term's pieces begin -/
theorem ps_head (nm : List (List UInt8)) (t : T) (f : Bool) : ∃ k l, kps (psT nm t) f = k :: l ∧ isM k [93] = false := by
  cases t with
  | leaf k n s =>
    rw [psT]; unfold leafP
    split
    · exact ⟨_, _, rfl, rfl⟩
    · split
      · split
        · exact ⟨_, _, rfl, rfl⟩
        · exact ⟨_, _, rfl, rfl⟩
      · unfold atomX
        split
        · exact ⟨_, _, rfl, rfl⟩
        · split
          · exact ⟨_, _, rfl, rfl⟩
          · exact ⟨_, _, rfl, rfl⟩
  | cmp s l =>
    rw [psT]
    split
    · exact ⟨_, _, kps_m _ _ _, rfl⟩
    · exact ⟨_, _, rfl, rfl⟩
theorem psR_ne (nm : List (List UInt8)) (t : T) : psR nm t ≠ [] := by
  cases t with
  | leaf k n s => rw [psR]; split <;> simp
  | cmp s l => rw [psR]; split <;> simp
/-- a name and its arguments -/
theorem cmpK {d dp : Nat} {most : Int} {s : List UInt8} {l : List T} {y r : List K} {n n' : List (List UInt8)} (hr : Stop most (nx r)) (h : Rs d dp (rowP (termP d) (y, n)) (l, (⟨5, [41], false⟩ :: r, n'))) : Rs (d + 1) (dp + 1) (termP (d + 1) most (⟨1, s, true⟩ :: ⟨4, [40], false⟩ :: y, n)) (.cmp s l, (r, n')) := by
  have ho : operandP (termP d) most (⟨1, s, true⟩ :: ⟨4, [40], false⟩ :: y, n) = (match rowP (termP d) (y, n) with
    | .error e => .error e
    | .ok (l, s2) => match expectP [41] s2 with
      | .error e => .error e
      | .ok s3 => .ok ((.cmp s l, 0), s3)) := by
    unfold operandP
    dsimp only
    rw [if_pos (by rfl)]
    unfold namedP
    dsimp only
    rw [if_pos (by rfl)]
    rfl
  rcases h with h | ⟨h, hd⟩
  · refine .inl (term_of hr ?_)
    rw [ho, h]; rfl
  · refine .inr ⟨?_, by omega⟩
    rw [term_e1, ho, h]
/-- a list -/
theorem listK {d dp : Nat} {most : Int} {t : T} {y r : List K} {n n' : List (List UInt8)} (hr : Stop most (nx r)) (hy : isM (nx y) [93] = false) (h : Rs d dp (elemTail (termP d) List.length [] (y, n)) (t, (r, n'))) : Rs (d + 1) (dp + 1) (termP (d + 1) most (⟨5, [91], false⟩ :: y, n)) (t, (r, n')) := by
  have ho : operandP (termP d) most (⟨5, [91], false⟩ :: y, n) = zeroP (elemTail (termP d) List.length [] (y, n)) := by
    rw [← list_elem (termP d) (y, n) hy]; rfl
  rcases h with h | ⟨h, hd⟩
  · exact .inl (term_of hr (by rw [ho, h]; rfl))
  · exact .inr ⟨by rw [term_e1, ho, h]; rfl, by omega⟩
theorem kps_appT (a b : List Pc) : kps (a ++ b) true = kps a true ++ kps b true := by
  cases b with
  | nil => simp [kps]
  | cons q b => exact kps_app a (by simp) true
theorem psR_head (nm : List (List UInt8)) (t : T) (f : Bool) : ∃ b l, kps (psR nm t) f = ⟨5, [b], false⟩ :: l ∧ (b = 44 ∨ b = 124 ∨ b = 93 ∨ b = 41) := by
  cases t with
  | leaf k n s =>
    rw [psR]
    split
    · exact ⟨_, _, rfl, by decide⟩
    · exact ⟨_, _, kps_m _ _ _, by decide⟩
  | cmp s l =>
    rw [psR]
    split
    · exact ⟨_, _, kps_m _ _ _, by decide⟩
    · exact ⟨_, _, kps_m _ _ _, by decide⟩
theorem psM_head (nm : List (List UInt8)) (l : List T) (r : List K) : ∃ b l', kps (psM nm l) true ++ (⟨5, [41], false⟩ : K) :: r = ⟨5, [b], false⟩ :: l' ∧ (b = 44 ∨ b = 124 ∨ b = 93 ∨ b = 41) := by
  cases l with
  | nil => rw [psM]; exact ⟨_, _, rfl, by decide⟩
  | cons t l => rw [psM, kps_m]; exact ⟨_, _, rfl, by decide⟩
theorem psQ_one (nm : List (List UInt8)) {l : List T} (h : l.length = 1) : psQ nm l ≠ [] := by
  cases l with
  | nil => simp at h
  | cons b l => rw [psQ]; exact psR_ne nm b
theorem psQ_head (nm : List (List UInt8)) {l : List T} (h : l.length = 1) (f : Bool) : ∃ b l', kps (psQ nm l) f = ⟨5, [b], false⟩ :: l' ∧ (b = 44 ∨ b = 124 ∨ b = 93 ∨ b = 41) := by
  cases l with
  | nil => simp at h
  | cons t l => rw [psQ]; exact psR_head nm t f
theorem dp_pos (t : T) : 0 < dpT t := by
  cases t with
  | leaf k n s => rw [dpT]; omega
  | cmp s l => rw [dpT]; split <;> omega
mutual
/-- a written term, read: the same, its variables numbered anew; or it is nested too deeply -/
theorem parT (nm : List (List UInt8)) : ∀ (t : T), gdT nm t → ftT t → ∀ (d : Nat) (most : Int) (f : Bool) (r : List K) (n : List (List UInt8)), Stop most (nx r) →
    Rs d (dpT t) (termP d most (kps (psT nm t) f ++ r, n)) ((rnT nm t n).1, (r, (rnT nm t n).2))
  | .leaf k a s, hg, hf, d, most, f, r, n, hr => by
    cases d with
    | zero => exact .inr ⟨rfl, dp_pos _⟩
    | succ d => rw [psT]; exact .inl (leafK hg hf hr n)
  | .cmp s l, hg, hf, d, most, f, r, n, hr => by
    cases d with
    | zero => exact .inr ⟨rfl, dp_pos _⟩
    | succ d =>
      rw [gdT] at hg
      rw [ftT] at hf
      obtain ⟨h1, h2, h3⟩ := hg
      rw [psT, rnT, dpT]
      by_cases hp : s = [46] ∧ l.length = 2
      · rw [if_pos hp, if_pos hp, kps_m]
        have hP := parP nm l h3 hf hp.2 d f r n [] List.length (fun x hx => Nat.le_refl _)
        have hy : isM (nx (kps (psP nm l) f ++ r)) [93] = false := by
          cases l with
          | nil => exact absurd rfl h2
          | cons a l =>
            rw [psP]
            have hq : psQ nm l ≠ [] := psQ_one nm (by simpa using hp.2)
            obtain ⟨k, l', e, hk⟩ := ps_head nm a true
            rw [kps_app _ hq, e]; exact hk
        obtain ⟨rfl, _⟩ := hp
        exact listK hr hy hP
      · rw [if_neg hp, if_neg hp]
        have e : kps ((1, s, (quoteS s).length) :: (4, [40], 1) :: (psL nm l ++ [mP 41])) f ++ r = ⟨1, s, true⟩ :: ⟨4, [40], false⟩ :: (kps (psL nm l) true ++ ⟨5, [41], false⟩ :: r) := by
          rw [kps_two _ _ _ (by simp), kps_two _ _ _ (by simp), kps_app _ (by simp)]
          simp [kps_mark]
        rw [e]
        exact cmpK hr (parL nm l h3 hf h2 d r n)
theorem parP (nm : List (List UInt8)) : ∀ (l : List T), gdL nm l → ftL l → l.length = 2 → ∀ (d : Nat) (f : Bool) (r : List K) (n : List (List UInt8)) (l0 : List T) (F : List K → Nat),
    (∀ x : List K, x.length + 1 ≤ (kps (psP nm l) f ++ r).length → x.length ≤ F x) →
    Rs d (dpP l) (elemTail (termP d) F l0 (kps (psP nm l) f ++ r, n)) (consAll l0 (.cmp [46] (rnL nm l n).1), (r, (rnL nm l n).2))
  | [], _, _, hl, _, _, _, _, _, _, _ => by simp at hl
  | a :: l, hg, hf, hl, d, f, r, n, l0, F, hF => by
    rw [gdL] at hg
    rw [ftL] at hf
    have hl1 : l.length = 1 := by simpa using hl
    have hq : psQ nm l ≠ [] := psQ_one nm hl1
    rw [psP, kps_app _ hq, List.append_assoc] at hF ⊢
    rw [rnL, dpP]
    obtain ⟨b, l', e, hb⟩ := psQ_head nm hl1 f
    have hA := parT nm a hg.1 hf.1 d 999 true (kps (psQ nm l) f ++ r) n (by rw [e]; exact stop_mark hb false)
    unfold elemTail
    rcases hA with hA | ⟨hA, hd⟩
    · rw [hA]
      have hx : (kps (psQ nm l) f ++ r).length ≤ F (kps (psQ nm l) f ++ r) := hF _ (by
        obtain ⟨k, l2, e2, _⟩ := ps_head nm a true
        rw [e2]; simp)
      obtain ⟨t', ht, hQ⟩ := parQ nm l hg.2 hf.2 hl1 d f r (rnT nm a n).2 (l0 ++ [(rnT nm a n).1]) _ hx
      show Rs d _ (listTail (termP d) (F (kps (psQ nm l) f ++ r)) (l0 ++ [(rnT nm a n).1]) (kps (psQ nm l) f ++ r, (rnT nm a n).2)) _
      rw [ht, ← cons_app]
      exact hQ.up (fun h => by omega)
    · rw [hA]; exact .inr ⟨rfl, by omega⟩
theorem parQ (nm : List (List UInt8)) : ∀ (l : List T), gdL nm l → ftL l → l.length = 1 → ∀ (d : Nat) (f : Bool) (r : List K) (n : List (List UInt8)) (l0 : List T) (fu : Nat),
    (kps (psQ nm l) f ++ r).length ≤ fu →
    ∃ t', (rnL nm l n).1 = [t'] ∧ Rs d (dpQ l) (listTail (termP d) fu l0 (kps (psQ nm l) f ++ r, n)) (consAll l0 t', (r, (rnL nm l n).2))
  | [], _, _, hl, _, _, _, _, _, _, _ => by simp at hl
  | b :: l, hg, hf, hl, d, f, r, n, l0, fu, hfu => by
    rw [gdL] at hg
    rw [ftL] at hf
    have : l = [] := by simpa using hl
    subst this
    rw [psQ] at hfu ⊢
    rw [rnL, rnL, dpQ]
    exact ⟨_, rfl, parR nm b hg.1 hf.1 d f r n l0 fu hfu⟩
theorem parR (nm : List (List UInt8)) : ∀ (t : T), gdT nm t → ftT t → ∀ (d : Nat) (f : Bool) (r : List K) (n : List (List UInt8)) (l0 : List T) (fu : Nat),
    (kps (psR nm t) f ++ r).length ≤ fu →
    Rs d (dpR t) (listTail (termP d) fu l0 (kps (psR nm t) f ++ r, n)) (consAll l0 (rnT nm t n).1, (r, (rnT nm t n).2))
  | .leaf k a s, hg, hf, d, f, r, n, l0, fu, hfu => by
    rw [psR, dpR]
    by_cases hn : k = 3 ∧ s = [91, 93]
    · rw [if_pos hn, if_pos hn, kps_mark, rnT, if_neg (by omega), if_neg (by omega), hn.2]
      exact .inl (tail_end _ _ _ _ _)
    · rw [if_neg hn, if_neg hn, kps_m, kps_app _ (by simp), kps_mark, List.cons_append, List.append_assoc]
      cases d with
      | zero => exact .inr ⟨tail_barE rfl, by omega⟩
      | succ d => exact .inl (tail_bar (leafK hg hf (r := ⟨5, [93], false⟩ :: r) (stop_mark (by decide) false) n))
  | .cmp s l, hg, hf, d, f, r, n, l0, fu, hfu => by
    rw [gdT] at hg
    rw [ftT] at hf
    obtain ⟨h1, h2, h3⟩ := hg
    rw [psR] at hfu ⊢
    rw [rnT, dpR]
    by_cases hp : s = [46] ∧ l.length = 2
    · rw [if_pos hp] at hfu ⊢
      rw [if_pos hp]
      rw [kps_m, List.cons_append] at hfu ⊢
      rw [List.length_cons] at hfu
      obtain ⟨g, rfl⟩ : ∃ g, fu = g + 1 := ⟨fu - 1, by omega⟩
      rw [tail_elem _ _ _ _ rfl]
      have hP := parP nm l h3 hf hp.2 d f r n l0 (fun _ => g) (fun x hx => by omega)
      rw [hp.1]
      exact hP
    · rw [if_neg hp, if_neg hp]
      have e : kps (mP 124 :: (((1, s, (quoteS s).length) :: (4, [40], 1) :: (psL nm l ++ [mP 41])) ++ [mP 93])) f ++ r = ⟨5, [124], false⟩ :: ⟨1, s, true⟩ :: ⟨4, [40], false⟩ :: (kps (psL nm l) true ++ ⟨5, [41], false⟩ :: ⟨5, [93], false⟩ :: r) := by
        rw [kps_m, kps_app _ (by simp), kps_two _ _ _ (by simp), kps_two _ _ _ (by simp), kps_app _ (by simp)]
        simp [kps_mark]
      rw [e]
      cases d with
      | zero => exact .inr ⟨tail_barE rfl, by omega⟩
      | succ d =>
        have hC := cmpK (most := 999) (s := s) (r := ⟨5, [93], false⟩ :: r) (stop_mark (by decide) false) (parL nm l h3 hf h2 d (⟨5, [93], false⟩ :: r) n)
        rcases hC with hC | ⟨hC, hd⟩
        · exact .inl (tail_bar hC)
        · exact .inr ⟨tail_barE hC, hd⟩
theorem parL (nm : List (List UInt8)) : ∀ (l : List T), gdL nm l → ftL l → l ≠ [] → ∀ (d : Nat) (r : List K) (n : List (List UInt8)),
    Rs d (dpL l) (rowP (termP d) (kps (psL nm l) true ++ ⟨5, [41], false⟩ :: r, n)) ((rnL nm l n).1, (⟨5, [41], false⟩ :: r, (rnL nm l n).2))
  | [], _, _, hl, _, _, _ => absurd rfl hl
  | t :: l, hg, hf, _, d, r, n => by
    rw [gdL] at hg
    rw [ftL] at hf
    rw [psL, kps_appT, List.append_assoc, rnL, dpL]
    obtain ⟨b, l', e, hb⟩ := psM_head nm l r
    have hA := parT nm t hg.1 hf.1 d 999 true (kps (psM nm l) true ++ ⟨5, [41], false⟩ :: r) n (by rw [e]; exact stop_mark hb false)
    unfold rowP
    rcases hA with hA | ⟨hA, hd⟩
    · rw [hA]
      exact (parM nm l hg.2 hf.2 d r (rnT nm t n).2 [(rnT nm t n).1] _ (Nat.le_refl _)).up (fun h => by omega)
    · rw [hA]; exact .inr ⟨rfl, by omega⟩
theorem parM (nm : List (List UInt8)) : ∀ (l : List T), gdL nm l → ftL l → ∀ (d : Nat) (r : List K) (n : List (List UInt8)) (l0 : List T) (fu : Nat),
    (kps (psM nm l) true ++ ⟨5, [41], false⟩ :: r).length ≤ fu →
    Rs d (dpL l) (rowGo (termP d) fu l0 (kps (psM nm l) true ++ ⟨5, [41], false⟩ :: r, n)) (l0 ++ (rnL nm l n).1, (⟨5, [41], false⟩ :: r, (rnL nm l n).2))
  | [], _, _, d, r, n, l0, fu, _ => by
    rw [psM, rnL, List.append_nil]
    exact .inl (rowGo_no _ _ _ _ rfl)
  | t :: l, hg, hf, d, r, n, l0, fu, hfu => by
    rw [gdL] at hg
    rw [ftL] at hf
    rw [psM, kps_m, kps_appT, List.cons_append, List.append_assoc] at hfu ⊢
    rw [rnL, dpL]
    rw [List.length_cons] at hfu
    obtain ⟨g, rfl⟩ : ∃ g, fu = g + 1 := ⟨fu - 1, by omega⟩
    obtain ⟨b, l', e, hb⟩ := psM_head nm l r
    have hA := parT nm t hg.1 hf.1 d 999 true (kps (psM nm l) true ++ ⟨5, [41], false⟩ :: r) n (by rw [e]; exact stop_mark hb false)
    rcases hA with hA | ⟨hA, hd⟩
    · rw [rowGo_yes _ _ _ _ rfl hA]
      have hM := parM nm l hg.2 hf.2 d r (rnT nm t n).2 (l0 ++ [(rnT nm t n).1]) g (by rw [List.length_append] at hfu; omega)
      rw [List.append_assoc] at hM
      exact hM.up (fun h => by omega)
    · exact .inr ⟨rowGo_err _ _ _ _ rfl hA, by omega⟩
end
end Go.Proofs.Ytjccohcigopdfaa.rd
end
section
/- A written term's text, read whole. Plain lists. -/
namespace Go.Proofs.Ytjccohcigopdfaa.lx
open Go.Proofs.Ytjccohcigopdfaa.rd (T)
open Go.Proofs.Ytjccohcigopdfaa.tx (text dec)

/-- behind a text that is tokens: a blank comes next -/
theorem fin_bl {M : Nat} {ts a : List Tok} {n : Nat} {m : Mode} (h : fin M ts n m = .ok a) (h6 : ∀ t, a.getLast? = some t → t.kind ≠ 6) (hl : m ≠ .line) : step M ts n 32 m = .go a .btw := by
  have hs : ∀ T, start M T n 32 = .go T .btw := fun T => by unfold start; rw [if_pos (by decide)]
  have hj : ∀ c, joinB c (cl 32) = false := fun c => by
    unfold joinB
    rw [show cl 32 = 1 from rfl]
    repeat' split
    · decide
    · rename_i hc; rcases hc with rfl | rfl <;> decide
    · rfl
  cases m <;> simp only [fin] at h <;> simp only [step]
  case btw => cases h; exact hs _
  case line => exact absurd rfl hl
  case slash f =>
    split at h
    · cases h
    · rename_i hl2; cases h; rw [if_neg (by decide), if_neg hl2, if_neg (by decide)]; exact hs _
  case dot f => cases h; exact absurd rfl (h6 _ (List.getLast?_concat ..))
  case word c f acc => cases h; rw [if_neg (by rw [hj]; decide)]; exact hs _
  case quoq f acc => cases h; rw [if_neg (by decide)]; exact hs _
  all_goals cases h
/-- the end of a sentence behind a text of tokens -/
theorem dot_behind {M : Nat} {q : List UInt8} {a : List Tok} {t : Tok} (h : ans M q [] 0 .btw = .ok a) (ht : a.getLast? = some t) (hk : t.kind ≠ 6) (hto : t.to = q.length) :
    ans M (q ++ [32, 46]) [] 0 .btw = if a.length = M then .bad (q.length + 1) 34 else .ok (a ++ [⟨6, [46], q.length + 1, q.length + 2⟩]) := by
  rw [ans_run] at h
  rw [ans_append]
  cases hr : run M q [] 0 .btw with
  | bad p e => rw [hr] at h; cases h
  | go ts m =>
    rw [hr] at h
    dsimp only at h ⊢
    rw [Nat.zero_add] at h ⊢
    have hP := inv_run (l := q) q [] 0 .btw ts m (by simp) (plAll_nil q) (Nat.zero_le _) hr
    rw [Nat.zero_add] at hP
    have hl : m ≠ .line := fun e => by
      subst e
      cases h
      have : lastTo a < q.length := hP.2
      unfold lastTo at this
      rw [ht] at this
      exact absurd this (by simp [hto])
    rw [ans_cons, fin_bl h (fun t' h' => by rw [ht] at h'; cases h'; exact hk) hl]
    dsimp only
    rw [ans_cons, step]
    have hst : start M a (q.length + 1) 46 = if a.length = M then .bad (q.length + 1) 34 else .go a (.dot (q.length + 1)) := by
      unfold start opening
      rw [if_neg (by decide), if_neg (by decide), if_neg (by decide), if_neg (by decide)]
      split
      · rfl
      · rfl
    rw [hst]
    by_cases ha : a.length = M
    · rw [if_pos ha, if_pos ha]
    · rw [if_neg ha, if_neg ha]; rfl
mutual
/-- no piece ends a sentence -/
theorem noT (nm : List (List UInt8)) : ∀ (t : T), ∀ p ∈ psT nm t, p.1 ≠ 6
  | .leaf k n s => by rw [psT]; exact no_leaf nm k n s
  | .cmp s l => by
    have h1 := noP nm l
    have h2 := noL nm l
    rw [psT]
    intro p hp
    split at hp
    · rcases List.mem_cons.1 hp with rfl | hp
      · show (5 : Nat) ≠ 6; decide
      · exact h1 p hp
    · simp only [List.mem_cons, List.mem_append, List.not_mem_nil, or_false] at hp
      rcases hp with rfl | rfl | hp | rfl
      · show (1 : Nat) ≠ 6; decide
      · show (4 : Nat) ≠ 6; decide
      · exact h2 p hp
      · show (5 : Nat) ≠ 6; decide
theorem no_leaf (nm : List (List UInt8)) (k : Nat) (n : Int) (s : List UInt8) : ∀ p ∈ leafP nm k n s, p.1 ≠ 6 := by
  intro p hp
  unfold leafP atomX at hp
  repeat' split at hp
  all_goals simp only [List.mem_cons, List.not_mem_nil, or_false] at hp
  all_goals first | (subst hp; simp; done) | (rcases hp with rfl | rfl <;> simp)
theorem noP (nm : List (List UInt8)) : ∀ (l : List T), ∀ p ∈ psP nm l, p.1 ≠ 6
  | [] => by rw [psP]; intro p hp; cases hp
  | a :: l => by
    have h1 := noT nm a
    have h2 := noQ nm l
    rw [psP]
    intro p hp
    rcases List.mem_append.1 hp with hp | hp
    · exact h1 p hp
    · exact h2 p hp
theorem noQ (nm : List (List UInt8)) : ∀ (l : List T), ∀ p ∈ psQ nm l, p.1 ≠ 6
  | [] => by rw [psQ]; intro p hp; cases hp
  | b :: _ => by rw [psQ]; exact noR nm b
theorem noR (nm : List (List UInt8)) : ∀ (t : T), ∀ p ∈ psR nm t, p.1 ≠ 6
  | .leaf k n s => by
    rw [psR]
    intro p hp
    split at hp
    · simp only [List.mem_cons, List.not_mem_nil, or_false] at hp; subst hp; simp
    · simp only [List.mem_cons, List.mem_append, List.not_mem_nil, or_false] at hp
      rcases hp with rfl | hp | rfl
      · simp
      · exact no_leaf nm k n s p hp
      · simp
  | .cmp s l => by
    have h1 := noP nm l
    have h2 := noL nm l
    rw [psR]
    intro p hp
    split at hp
    · rcases List.mem_cons.1 hp with rfl | hp
      · simp
      · exact h1 p hp
    · simp only [List.mem_cons, List.mem_append, List.not_mem_nil, or_false] at hp
      rcases hp with rfl | (rfl | rfl | hp | rfl) | rfl
      · simp
      · simp
      · simp
      · exact h2 p hp
      · simp
      · simp
theorem noL (nm : List (List UInt8)) : ∀ (l : List T), ∀ p ∈ psL nm l, p.1 ≠ 6
  | [] => by rw [psL]; intro p hp; cases hp
  | t :: l => by
    have h1 := noT nm t
    have h2 := noM nm l
    rw [psL]
    intro p hp
    rcases List.mem_append.1 hp with hp | hp
    · exact h1 p hp
    · exact h2 p hp
theorem noM (nm : List (List UInt8)) : ∀ (l : List T), ∀ p ∈ psM nm l, p.1 ≠ 6
  | [] => by rw [psM]; intro p hp; cases hp
  | t :: l => by
    have h1 := noT nm t
    have h2 := noM nm l
    rw [psM]
    intro p hp
    rcases List.mem_cons.1 hp with rfl | hp
    · simp
    rcases List.mem_append.1 hp with hp | hp
    · exact h1 p hp
    · exact h2 p hp
end
theorem mk_last (d : Nat) (ps : List Pc) (h : ps ≠ []) : ∃ t p, (mk d ps).getLast? = some t ∧ p ∈ ps ∧ t.kind = p.1 ∧ t.to = d + wd ps := by
  obtain ⟨qs, p, rfl⟩ : ∃ qs p, ps = qs ++ [p] := by
    rcases ps.eq_nil_or_concat with h0 | ⟨r, t, h0⟩
    · exact absurd h0 h
    · exact ⟨r, t, by rw [h0, List.concat_eq_append]⟩
  obtain ⟨k, x, w⟩ := p
  refine ⟨⟨k, x, d + wd qs, d + wd qs + w⟩, (k, x, w), ?_, by simp, rfl, ?_⟩
  · rw [mk_app]; exact List.getLast?_concat ..
  · rw [wd_app]; simp [wd]; omega
/-- a text alone is these tokens -/
structure La (q : List UInt8) (ps : List Pc) : Prop where
  w : wd ps = q.length
  ne : ps ≠ []
  go : ∀ {M : Nat}, ps.length ≤ M → ans M q [] 0 .btw = .ok (mk 0 ps)
theorem Lz.alone {q : List UInt8} {ps : List Pc} (h : Lz q ps) (hn : ps ≠ []) : La q ps := ⟨h.w, hn, fun {M} hl => by
  have := h.go (M := M) [] [] 0 (fun t ht => by cases ht) (by simpa using hl)
  rw [List.append_nil] at this
  rw [this]; rfl⟩
theorem var_a {x : List UInt8} (hx : VarOk x) : La x [(2, x, x.length)] := by
  obtain ⟨c, l, rfl, hc, hl⟩ := hx
  refine ⟨rfl, by simp, fun {M} hn => ?_⟩
  have n37 : c ≠ 37 := fun e => by subst e; exact absurd hc (by decide)
  have n47 : c ≠ 47 := fun e => by subst e; exact absurd hc (by decide)
  have n46 : c ≠ 46 := fun e => by subst e; exact absurd hc (by decide)
  have hs : start M [] 0 c = .go [] (.word 3 0 [c]) := by
    unfold start opening
    rw [if_neg (by omega), if_neg n37, if_neg n47, if_neg (by omega), if_neg (by simp at hn ⊢; omega), if_neg (by omega), if_neg (by omega), if_neg (by omega), if_neg n46, hc]
  rw [ans_cons, step, hs]
  dsimp only
  have := ans_word M 3 0 l [] [c] [] (0 + 1) hl
  rw [List.append_nil] at this
  rw [this]
  show Out.ok ([] ++ [⟨kindOf 3, [c] ++ l, 0, 0 + 1 + l.length⟩]) = _
  rw [show 0 + 1 + l.length = 0 + (c :: l).length from by simp; omega]
  rfl
theorem int_a (n : Int) : La (text n) (if n < 0 then [(1, [45], 1), (3, dec n.natAbs, (dec n.natAbs).length)] else [(3, dec n.natAbs, (dec n.natAbs).length)]) := by
  refine ⟨(int_x n).w, by split <;> simp, fun {M} hl => ?_⟩
  have := ans_int' (M := M) n (r := []) (fun _ _ h => by cases h) (ts := []) 0 (by by_cases h : n < 0 <;> simp [h] at hl ⊢ <;> omega)
  rw [List.append_nil] at this
  rw [this]
  show Out.ok ([] ++ intToks n 0) = _
  unfold intToks
  split <;> rfl
theorem atom_a {s : List UInt8} (hs : s = [91, 93] ∨ s = [123, 125] ∨ quoteS s ≠ []) : La (if s = [91, 93] ∨ s = [123, 125] then s else quoteS s) (atomX s) := by
  unfold atomX
  by_cases h1 : s = [91, 93]
  · rw [if_pos (.inl h1), if_pos h1, h1]; exact (mark_z (by decide) (by decide) (mark_w (m := 93) (by decide) (by decide)).z).z.alone (by simp)
  · rw [if_neg h1]
    by_cases h2 : s = [123, 125]
    · rw [if_pos (.inr h2), if_pos h2, h2]; exact (mark_z (by decide) (by decide) (mark_w (m := 125) (by decide) (by decide)).z).z.alone (by simp)
    · have hq : quoteS s ≠ [] := by rcases hs with h | h | h; exact absurd h h1; exact absurd h h2; exact h
      rw [if_neg (fun h => h.elim h1 h2), if_neg h2]
      refine ⟨by simp [wd], by simp, fun {M} hl => ?_⟩
      have := (ans_less (M' := M) (quoteS s) [] 0 .btw (quote_toks hq)).2 (by simpa using hl)
      rw [this]; simp [mk]
/-- a term's text alone -/
theorem lexA {nm : List (List UInt8)} {t : T} (h : gdT nm t) : La (txT nm t) (psT nm t) := by
  cases t with
  | leaf k n s =>
    rw [txT, psT]
    rw [gdT] at h
    unfold leafX leafP
    rcases h with ⟨rfl, h⟩ | rfl | ⟨rfl, h⟩
    · rw [if_pos rfl, if_pos rfl]; exact var_a h
    · rw [if_neg (by decide), if_pos rfl, if_neg (by decide), if_pos rfl]; exact int_a n
    · exact atom_a h
  | cmp s l =>
    rw [gdT] at h
    obtain ⟨h1, h2, h3⟩ := h
    rw [txT, psT]
    by_cases hp : s = [46] ∧ l.length = 2
    · rw [if_pos hp, if_pos hp]; exact (mark_z (by decide) (by decide) (lexP nm l h3 hp.2)).z.alone (by simp)
    · rw [if_neg hp, if_neg hp]; exact (open_z h1 (lexL nm l h3 h2)).alone (by simp)
end Go.Proofs.Ytjccohcigopdfaa.lx
namespace Go.Proofs.Ytjccohcigopdfaa.rd
open Go.Proofs.Ytjccohcigopdfaa.lx (Tok Pc mk wd psT txT gdT toks toksD toksD_small lexA noT mk_last mk_len dot_behind ans_cut pend)

/-- why a written term's text is not read -/
def Why (nm : List (List UInt8)) (t : T) (e : Nat) : Prop := (e = 52 ∧ 65 < dpT t) ∨ (e = 33 ∧ 4094 < (txT nm t).length) ∨ (e = 34 ∧ 999 < (psT nm t).length)
/-- a written term's text, read: the term, its variables numbered anew; or it is too deep, too long, or too many tokens -/
theorem backP {nm : List (List UInt8)} {t : T} (hg : gdT nm t) (hf : ftT t) : oneP (txT nm t) = .ok (rnT nm t []) ∨ ∃ e, oneP (txT nm t) = .error e ∧ Why nm t e := by
  have hA := lexA hg
  have hbad : ∀ p e, toksD (txT nm t) = .bad p e → oneP (txT nm t) = .error e := fun p e h => by
    have he : endP (txT nm t) = txT nm t := by unfold endP; rw [h]
    unfold oneP; rw [he, h]; rfl
  by_cases h0 : (txT nm t).length > 4096
  · exact .inr ⟨33, hbad 0 33 (by unfold toksD; rw [if_pos h0]), .inr (.inl ⟨rfl, by omega⟩)⟩
  have hM := hA.go (M := max 1000 (psT nm t).length) (by omega)
  rcases ans_cut (M' := 1000) _ [] 0 .btw (by show 0 + 0 ≤ 1000; omega) hM with ⟨hl, h1⟩ | ⟨p, h1⟩
  · rw [mk_len] at hl
    obtain ⟨x, p, hx, hp, hk, hto⟩ := mk_last 0 (psT nm t) hA.ne
    have hk6 : x.kind ≠ 6 := by rw [hk]; exact noT nm t p hp
    have he : endP (txT nm t) = txT nm t ++ [32, 46] := by
      have hq : toksD (txT nm t) = .ok (mk 0 (psT nm t)) := by rw [toksD_small (by omega)]; exact h1
      have hb : endsB (mk 0 (psT nm t)) = false := by unfold endsB; rw [hx]; simpa using hk6
      unfold endP; rw [hq]
      dsimp only
      rw [hb]; rfl
    have hd := dot_behind h1 hx hk6 (by rw [hto, hA.w, Nat.zero_add])
    rw [mk_len] at hd
    have hone : ∀ p e, toksD (txT nm t ++ [32, 46]) = .bad p e → oneP (txT nm t) = .error e := fun p e h => by unfold oneP; rw [he, h]; rfl
    by_cases h2 : (txT nm t ++ [32, 46]).length > 4096
    · refine .inr ⟨33, hone 0 33 (by unfold toksD; rw [if_pos h2]), .inr (.inl ⟨rfl, ?_⟩)⟩
      simp only [List.length_append, List.length_cons, List.length_nil] at h2; omega
    have hts : toksD (txT nm t ++ [32, 46]) = toks (txT nm t ++ [32, 46]) := toksD_small (by omega)
    by_cases h3 : (psT nm t).length = 1000
    · rw [if_pos h3] at hd
      exact .inr ⟨34, hone _ 34 (by rw [hts]; exact hd), .inr (.inr ⟨rfl, by omega⟩)⟩
    · rw [if_neg h3] at hd
      have hab : ab (mk 0 (psT nm t) ++ [(⟨6, [46], (txT nm t).length + 1, (txT nm t).length + 2⟩ : Tok)]) = kps (psT nm t) false ++ [⟨6, [46], false⟩] := by
        rw [ab_app, abw_mk]
        rw [hA.w, Nat.zero_add, show ((⟨6, [46], (txT nm t).length + 1, (txT nm t).length + 2⟩ : Tok).frm == (txT nm t).length) = false from by simp]
        rfl
      have hstop : Stop 1200 (nx [(⟨6, [46], false⟩ : K)]) := ⟨by decide, by decide, by decide, .inl rfl⟩
      rcases parT nm t hg hf 65 1200 false [⟨6, [46], false⟩] [] hstop with hP | ⟨hP, hdp⟩
      · refine .inl (oneP_of (by rw [he, hts]; exact hd) ?_)
        rw [hab]
        exact sent_of (k := ⟨6, [46], false⟩) rfl hP
      · refine .inr ⟨52, ?_, .inl ⟨rfl, hdp⟩⟩
        have hS : sentP (kps (psT nm t) false ++ [⟨6, [46], false⟩]) = .error 52 := by unfold sentP; rw [hP]
        unfold oneP
        rw [he, hts]
        show (match readP (toks (txT nm t ++ [32, 46])) with | .error k => _ | .ok [x] => _ | .ok _ => _) = _
        have hr : readP (toks (txT nm t ++ [32, 46])) = .error 52 := by
          rw [show toks (txT nm t ++ [32, 46]) = _ from hd]
          show sentsP (mk 0 (psT nm t) ++ [_]).length (ab (mk 0 (psT nm t) ++ [_])) = _
          rw [hab, List.length_append, List.length_singleton, sentsP, if_neg (by simp), hS]
        rw [hr]
  · refine .inr ⟨34, hbad p 34 (by rw [toksD_small (by omega)]; exact h1), .inr (.inr ⟨rfl, ?_⟩)⟩
    by_cases hc : (psT nm t).length ≤ 1000
    · have := hA.go (M := 1000) hc
      rw [this] at h1; cases h1
    · omega
end Go.Proofs.Ytjccohcigopdfaa.rd
end
section
/- Two terms alike but for the numbers of variables: a written term and what is read of it. Plain lists. -/
namespace Go.Proofs.Ytjccohcigopdfaa.rd
open Go.Proofs.Ytjccohcigopdfaa.tx (text dec)
open Go.Proofs.Ytjccohcigopdfaa.lx (varX gdT gdL)

/-- the pair of one of two numbers: are they both its? -/
def lkP (n m : Int) : List (Int × Int) → Option Bool
  | [] => none
  | (a, b) :: l => if a = n ∨ b = m then some (a == n && b == m) else lkP n m l
mutual
/-- the document's alike -/
def alT : T → T → List (Int × Int) → List (Int × Int) × Bool
  | .leaf k n s, .leaf k' n' s', p => if k ≠ k' then (p, false) else if k = 1 then (match lkP n n' p with | some b => (p, b) | none => (p ++ [(n, n')], true)) else if k = 2 then (p, n == n') else (p, s == s')
  | .cmp s l, .cmp s' l', p => if s ≠ s' then (p, false) else if l.length ≠ l'.length then (p, false) else alL l l' p
  | .leaf _ _ _, .cmp _ _, p => (p, false)
  | .cmp _ _, .leaf _ _ _, p => (p, false)
def alL : List T → List T → List (Int × Int) → List (Int × Int) × Bool
  | t :: l, u :: m, p => if (alT t u p).2 = true then alL l m (alT t u p).1 else ((alT t u p).1, false)
  | [], _, p => (p, true)
  | _ :: _, [], p => (p, true)
end
mutual
/-- all of its variables' numbers are such -/
def vsT (D : Int → Prop) : T → Prop
  | .leaf k n _ => k = 1 → D n
  | .cmp _ l => vsL D l
def vsL (D : Int → Prop) : List T → Prop
  | [] => True
  | t :: l => vsT D t ∧ vsL D l
end
/-- pairs by the names that are read -/
structure Pr (nm : List (List UInt8)) (D : Int → Prop) (p : List (Int × Int)) (w : List (List UInt8)) : Prop where
  len : p.length = w.length
  at_ : ∀ i (h : i < p.length), (p[i]).2 = (i : Nat) ∧ D (p[i]).1 ∧ varX nm (p[i]).1 = w.getD i []
theorem pr_nil (nm : List (List UInt8)) (D : Int → Prop) : Pr nm D [] [] := ⟨rfl, fun i h => by simp at h⟩
theorem lk_none {n m : Int} : ∀ (p : List (Int × Int)), (∀ x ∈ p, x.1 ≠ n ∧ x.2 ≠ m) → lkP n m p = none
  | [], _ => rfl
  | (a, b) :: p, h => by
    have h0 := h (a, b) (by simp)
    rw [lkP, if_neg (by rintro (h | h); exact h0.1 h; exact h0.2 h)]
    exact lk_none p (fun x hx => h x (by simp [hx]))
theorem lk_some {n m : Int} : ∀ (p : List (Int × Int)) (i : Nat) (hi : i < p.length), (p[i]).1 = n → (p[i]).2 = m → (∀ j (hj : j < p.length), j < i → (p[j]).1 ≠ n ∧ (p[j]).2 ≠ m) → lkP n m p = some true
  | [], i, hi, _, _, _ => by simp at hi
  | (a, b) :: p, i, hi, h1, h2, h => by
    cases i with
    | zero =>
      have h1 : a = n := h1
      have h2 : b = m := h2
      rw [lkP, if_pos (.inl h1), h1, h2]; simp
    | succ i =>
      have h0 := h 0 (by simp) (by omega)
      have h0' : a ≠ n ∧ b ≠ m := h0
      rw [lkP, if_neg (by rintro (h | h); exact h0'.1 h; exact h0'.2 h)]
      exact lk_some p i (by simpa using hi) (by simpa using h1) (by simpa using h2) (fun j hj hji => h (j + 1) (Nat.succ_lt_succ hj) (Nat.succ_lt_succ hji))
theorem alT_var (n n' : Int) (s s' : List UInt8) (p : List (Int × Int)) : alT (.leaf 1 n s) (.leaf 1 n' s') p = match lkP n n' p with | some b => (p, b) | none => (p ++ [(n, n')], true) := by
  rw [alT, if_neg (by decide), if_pos rfl]
theorem getD_at {α : Type} (l : List α) (i : Nat) (d : α) (h : i < l.length) : l.getD i d = l[i] := by simp [h]
theorem alk_var {nm : List (List UInt8)} {D : Int → Prop} (hD : ∀ a b, D a → D b → varX nm a = varX nm b → a = b) {n : Int} {s : List UInt8} (hn : D n) {p : List (Int × Int)} {w : List (List UInt8)} (h : Pr nm D p w) :
    ∃ p', alT (.leaf 1 n s) (rnT nm (.leaf 1 n s) w).1 p = (p', true) ∧ Pr nm D p' (rnT nm (.leaf 1 n s) w).2 := by
  rw [rnT, if_pos rfl]
  have hl := h.len
  by_cases hi : w.idxOf (varX nm n) = w.length
  · refine ⟨p ++ [(n, ((w.length : Nat) : Int))], ?_, ?_⟩
    · rw [alT_var, lk_none p (fun x hx => ?_), hi]
      obtain ⟨j, hj, rfl⟩ := List.getElem_of_mem hx
      obtain ⟨a1, a2, a3⟩ := h.at_ j hj
      refine ⟨fun e => ?_, fun e => by rw [a1, hi] at e; have : j = w.length := by exact_mod_cast e
                                       omega⟩
      have hm : varX nm n ∈ w := by
        rw [← e, a3, getD_at _ _ _ (by omega)]; exact List.getElem_mem _
      have := List.idxOf_lt_length_iff.2 hm
      omega
    · rw [if_pos hi]
      refine ⟨by simp [hl], fun i hi' => ?_⟩
      by_cases hip : i < p.length
      · obtain ⟨a1, a2, a3⟩ := h.at_ i hip
        rw [List.getElem_append_left hip]
        refine ⟨a1, a2, ?_⟩
        rw [a3, getD_at _ _ _ (by omega), getD_at _ _ _ (by simp; omega), List.getElem_append_left (by omega)]
      · have hie : i = p.length := by simp at hi'; omega
        subst hie
        rw [List.getElem_append_right (Nat.le_refl _)]
        refine ⟨by simp [hl], by simpa using hn, ?_⟩
        rw [getD_at _ _ _ (by simp; omega), List.getElem_append_right (by omega)]
        simp
  · have hlt : w.idxOf (varX nm n) < w.length := by have := List.idxOf_le_length (l := w) (a := varX nm n); omega
    refine ⟨p, ?_, by rw [if_neg hi]; exact h⟩
    have hip : w.idxOf (varX nm n) < p.length := by omega
    obtain ⟨a1, a2, a3⟩ := h.at_ _ hip
    have hw : w.getD (w.idxOf (varX nm n)) [] = varX nm n := by rw [getD_at _ _ _ hlt]; exact List.getElem_idxOf hlt
    have hne : (p[w.idxOf (varX nm n)]).1 = n := hD _ _ a2 hn (by rw [a3, hw])
    rw [alT_var, lk_some p _ hip hne a1 (fun j hj hji => ?_)]
    obtain ⟨b1, b2, b3⟩ := h.at_ j hj
    refine ⟨fun e => ?_, fun e => by rw [b1] at e; have : j = w.idxOf (varX nm n) := by exact_mod_cast e
                                     omega⟩
    rw [e, getD_at _ _ _ (by omega)] at b3
    have := List.not_of_lt_findIdx (p := (· == varX nm n)) (xs := w) (i := j) hji
    rw [← b3] at this
    simp at this
theorem rnL_len (nm : List (List UInt8)) : ∀ (l : List T) (w : List (List UInt8)), (rnL nm l w).1.length = l.length
  | [], w => by rw [rnL]
  | t :: l, w => by rw [rnL]; simp [rnL_len nm l]
mutual
/-- a term and the same, its variables numbered anew -/
theorem alk {nm : List (List UInt8)} {D : Int → Prop} (hD : ∀ a b, D a → D b → varX nm a = varX nm b → a = b) : ∀ (t : T), gdT nm t → vsT D t → ∀ (p : List (Int × Int)) (w : List (List UInt8)), Pr nm D p w →
    ∃ p', alT t (rnT nm t w).1 p = (p', true) ∧ Pr nm D p' (rnT nm t w).2
  | .leaf k n s, hg, hv, p, w, h => by
    rw [gdT] at hg
    rw [vsT] at hv
    rcases hg with ⟨rfl, _⟩ | rfl | ⟨rfl, _⟩
    · exact alk_var hD (hv rfl) h
    · rw [rnT, if_neg (by decide), if_pos rfl]
      exact ⟨p, by rw [alT, if_neg (by decide), if_neg (by decide), if_pos rfl]; simp, h⟩
    · rw [rnT, if_neg (by decide), if_neg (by decide)]
      exact ⟨p, by rw [alT, if_neg (by decide), if_neg (by decide), if_neg (by decide)]; simp, h⟩
  | .cmp s l, hg, hv, p, w, h => by
    rw [gdT] at hg
    rw [vsT] at hv
    obtain ⟨p', h1, h2⟩ := alkL hD l hg.2.2 hv p w h
    rw [rnT]
    exact ⟨p', by rw [alT, if_neg (by simp), if_neg (by simp [rnL_len])]; exact h1, h2⟩
theorem alkL {nm : List (List UInt8)} {D : Int → Prop} (hD : ∀ a b, D a → D b → varX nm a = varX nm b → a = b) : ∀ (l : List T), gdL nm l → vsL D l → ∀ (p : List (Int × Int)) (w : List (List UInt8)), Pr nm D p w →
    ∃ p', alL l (rnL nm l w).1 p = (p', true) ∧ Pr nm D p' (rnL nm l w).2
  | [], _, _, p, w, h => by rw [rnL]; exact ⟨p, by rw [alL], h⟩
  | t :: l, hg, hv, p, w, h => by
    rw [gdL] at hg
    rw [vsL] at hv
    obtain ⟨p1, h1, h2⟩ := alk hD t hg.1 hv.1 p w h
    obtain ⟨p2, h3, h4⟩ := alkL hD l hg.2 hv.2 p1 _ h2
    rw [rnL]
    exact ⟨p2, by rw [alL, h1, if_pos rfl]; exact h3, h4⟩
end
/-- with no names: the numbers in digits -/
theorem varX_nil (n : Int) : varX [] n = 95 :: text n := by unfold varX; rw [if_neg (by simp)]
end Go.Proofs.Ytjccohcigopdfaa.rd
end
