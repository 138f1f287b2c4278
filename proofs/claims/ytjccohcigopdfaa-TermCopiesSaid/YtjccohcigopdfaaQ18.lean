/- A list's text, read. Plain lists.; A name's text, quoted where it must be, ahead of a mark. Plain lists.; Terms as texts: the document's answer, and its tokens. Plain lists. -/
import Derived.Test.YtjccohcigopdfaaQ17
set_option linter.unusedVariables false
set_option linter.unusedSimpArgs false
section
/- A list's text, read. Plain lists. -/
namespace Go.Proofs.Ytjccohcigopdfaa.lx

/-- the atom of a digit -/
def dtx (d : Nat) : List UInt8 := [97, UInt8.ofNat (48 + d)]
def cm (ds : List Nat) : List UInt8 := ds.flatMap fun e => 44 :: dtx e
def bodyL : List Nat → List UInt8
  | [] => []
  | d :: ds => dtx d ++ cm ds
theorem body_snoc (l : List Nat) (h : l ≠ []) (e : Nat) : bodyL (l ++ [e]) = bodyL l ++ 44 :: dtx e := by
  cases l with
  | nil => exact absurd rfl h
  | cons d ds => show dtx d ++ cm (ds ++ [e]) = dtx d ++ cm ds ++ _; unfold cm; simp
theorem dig_cl {d : Nat} (h : d < 10) : joinB 2 (cl (UInt8.ofNat (48 + d))) = true := by
  have : ∀ d, d < 10 → joinB 2 (cl (UInt8.ofNat (48 + d))) = true := by decide
  exact this d h
theorem ans_dtx {M d : Nat} (hd : d < 10) {r : List UInt8} (hr : ∀ b q, r = b :: q → joinB 2 (cl b) = false) {ts : List Tok} (n : Nat) (hl : ts.length ≠ M) : ans M (dtx d ++ r) ts n .btw = ans M r (ts ++ [⟨1, dtx d, n, n + 2⟩]) (n + 2) .btw := by
  have hs : start M ts n 97 = .go ts (.word 2 n [97]) := by
    unfold start opening
    rw [if_neg (by decide), if_neg (by decide), if_neg (by decide), if_neg (by decide), if_neg hl, if_neg (by decide), if_neg (by decide), if_neg (by decide), if_neg (by decide)]
    rfl
  unfold dtx
  rw [List.cons_append, ans_cons, step, hs]
  dsimp only
  rw [ans_word M 2 n [UInt8.ofNat (48 + d)] r [97] ts (n + 1) (fun b hb => by rw [List.mem_singleton] at hb; rw [hb]; exact dig_cl hd), ans_word_end M 2 n r _ _ _ hr]
  rfl
theorem ans_mk {M : Nat} {b : UInt8} (h8 : cl b = 8) (h1 : b ≠ 37) (h2 : b ≠ 47) (h3 : b ≠ 40) (r : List UInt8) {ts : List Tok} (n : Nat) (hl : ts.length ≠ M) : ans M (b :: r) ts n .btw = ans M r (ts ++ [⟨5, [b], n, n + 1⟩]) (n + 1) .btw := by
  rw [ans_cons, step, start_mark h8 h1 h2, if_neg hl, if_neg (fun h => h3 h.1)]
def ctoks : List Nat → Nat → List Tok
  | [], _ => []
  | e :: ds, n => ⟨5, [44], n, n + 1⟩ :: ⟨1, dtx e, n + 1, n + 3⟩ :: ctoks ds (n + 3)
theorem ctoks_len (ds : List Nat) (n : Nat) : (ctoks ds n).length = 2 * ds.length := by
  induction ds generalizing n with
  | nil => rfl
  | cons e ds ih => simp [ctoks, ih]; omega
theorem join44 (ds : List Nat) {r : List UInt8} (hr : ∀ b q, r = b :: q → joinB 2 (cl b) = false) : ∀ b q, cm ds ++ r = b :: q → joinB 2 (cl b) = false := by
  cases ds with
  | nil => exact hr
  | cons e ds => intro b q h; have : b = 44 := by simp [cm] at h; exact h.1.symm
                 rw [this]; decide
theorem ans_cm {M : Nat} {r : List UInt8} (hr : ∀ b q, r = b :: q → joinB 2 (cl b) = false) : ∀ (ds : List Nat), (∀ d ∈ ds, d < 10) → ∀ (ts : List Tok) (n : Nat), ts.length + 2 * ds.length ≤ M →
    ans M (cm ds ++ r) ts n .btw = ans M r (ts ++ ctoks ds n) (n + 3 * ds.length) .btw := by
  intro ds
  induction ds with
  | nil => intro _ ts n _; rw [ctoks, List.append_nil]; rfl
  | cons e ds ih =>
    intro hd ts n hl
    rw [List.length_cons] at hl
    have e1 : cm (e :: ds) ++ r = 44 :: (dtx e ++ (cm ds ++ r)) := by simp [cm]
    rw [e1, ans_mk (by decide) (by decide) (by decide) (by decide) _ n (by omega), ans_dtx (hd e (by simp)) (join44 ds hr) (n + 1) (by simp; omega), ih (fun d h => hd d (by simp [h])) _ _ (by simp; omega)]
    rw [List.length_cons, show n + 1 + 2 + 3 * ds.length = n + 3 * (ds.length + 1) from by omega]
    simp [ctoks]
def bodyT : List Nat → Nat → List Tok
  | [], _ => []
  | d :: ds, n => ⟨1, dtx d, n, n + 2⟩ :: ctoks ds (n + 2)
/-- what comes behind the elements -/
def restL (b : Bool) : List UInt8 := if b = true then [124, 122] else []
def restT (b : Bool) (n : Nat) : List Tok := if b = true then [⟨5, [124], n, n + 1⟩, ⟨1, [122], n + 1, n + 2⟩] else []
theorem ans_rest {M : Nat} (b : Bool) {r : List UInt8} (hr : ∀ b q, r = b :: q → joinB 2 (cl b) = false) {ts : List Tok} (n : Nat) (hl : ts.length + 2 ≤ M) : ans M (restL b ++ r) ts n .btw = ans M r (ts ++ restT b n) (n + (restL b).length) .btw := by
  cases b with
  | false => rw [show restT false n = [] from rfl, List.append_nil]; rfl
  | true =>
    show ans M (124 :: 122 :: r) ts n .btw = _
    rw [ans_mk (by decide) (by decide) (by decide) (by decide) _ n (by omega)]
    have hs : start M (ts ++ [⟨5, [124], n, n + 1⟩]) (n + 1) 122 = .go (ts ++ [⟨5, [124], n, n + 1⟩]) (.word 2 (n + 1) [122]) := by
      unfold start opening
      rw [if_neg (by decide), if_neg (by decide), if_neg (by decide), if_neg (by decide), if_neg (by simp; omega), if_neg (by decide), if_neg (by decide), if_neg (by decide), if_neg (by decide)]
      rfl
    rw [ans_cons, step, hs]
    dsimp only
    rw [ans_word_end M 2 (n + 1) r [122] _ _ hr, List.append_assoc]
    rfl
/-- the whole text -/
def listL (ds : List Nat) (b : Bool) : List UInt8 := 91 :: (bodyL ds ++ (restL b ++ [93]))
def listT (ds : List Nat) (b : Bool) : List Tok := [⟨5, [91], 0, 1⟩] ++ bodyT ds 1 ++ restT b (1 + (bodyL ds).length) ++ [⟨5, [93], 1 + (bodyL ds).length + (restL b).length, 1 + (bodyL ds).length + (restL b).length + 1⟩]
theorem restJ (b : Bool) (r : List UInt8) : ∀ c q, restL b ++ (93 :: r) = c :: q → joinB 2 (cl c) = false := by
  intro c q h
  cases b with
  | false => cases h; decide
  | true => cases h; decide
theorem cm_len (ds : List Nat) : (cm ds).length = 3 * ds.length := by
  induction ds with
  | nil => rfl
  | cons e ds ih => unfold cm at *; rw [List.flatMap_cons, List.length_append, ih]; simp [dtx]; omega
theorem list_ans {ds : List Nat} (hd : ∀ d ∈ ds, d < 10) (hn : ds.length ≤ 100) (b : Bool) (r : List UInt8) : ans 1000 (listL ds b ++ r) [] 0 .btw = ans 1000 r (listT ds b) (listL ds b).length .btw := by
  have e0 : listL ds b ++ r = 91 :: (bodyL ds ++ (restL b ++ 93 :: r)) := by simp [listL]
  rw [e0, ans_mk (by decide) (by decide) (by decide) (by decide) _ 0 (by decide)]
  have hb : ans 1000 (bodyL ds ++ (restL b ++ 93 :: r)) ([] ++ [⟨5, [91], 0, 0 + 1⟩]) (0 + 1) .btw = ans 1000 (restL b ++ 93 :: r) ([⟨5, [91], 0, 1⟩] ++ bodyT ds 1) (1 + (bodyL ds).length) .btw := by
    cases ds with
    | nil => rfl
    | cons d ds =>
      rw [List.length_cons] at hn
      show ans 1000 (dtx d ++ cm ds ++ _) _ _ _ = _
      rw [List.append_assoc, ans_dtx (hd d (by simp)) (join44 ds (restJ b r)) _ (by simp), ans_cm (restJ b r) ds (fun e h => hd e (by simp [h])) _ _ (by simp; omega)]
      show _ = ans 1000 _ _ (1 + (dtx d ++ cm ds).length) _
      rw [List.length_append, cm_len, show 1 + ((dtx d).length + 3 * ds.length) = 0 + 1 + 2 + 3 * ds.length from by simp [dtx]; omega]
      simp [bodyT]
  have hbl : (bodyT ds 1).length ≤ 2 * ds.length := by
    cases ds with
    | nil => exact Nat.le_refl _
    | cons d ds => simp [bodyT, ctoks_len]; omega
  rw [hb, ans_rest b (fun c q h => by cases h; decide) _ (by simp; omega)]
  have hrl : (restT b (1 + (bodyL ds).length)).length ≤ 2 := by cases b <;> simp [restT]
  rw [ans_mk (by decide) (by decide) (by decide) (by decide) _ _ (by simp; omega)]
  have hz : (listL ds b).length = 1 + (bodyL ds).length + (restL b).length + 1 := by unfold listL; simp; omega
  rw [hz]
  rfl
theorem list_len {ds : List Nat} (hn : ds.length ≤ 100) (b : Bool) : (listL ds b).length ≤ 400 ∧ (listT ds b).length ≤ 300 := by
  have h1 : (bodyL ds).length ≤ 3 * ds.length := by
    cases ds with
    | nil => exact Nat.le_refl _
    | cons d ds => simp [bodyL, cm_len, dtx]; omega
  have hbl : (bodyT ds 1).length ≤ 2 * ds.length := by
    cases ds with
    | nil => exact Nat.le_refl _
    | cons d ds => simp [bodyT, ctoks_len]; omega
  have hr : (restL b).length ≤ 2 := by cases b <;> simp [restL]
  have hrl : ∀ n, (restT b n).length ≤ 2 := fun n => by cases b <;> simp [restT]
  have := hrl (1 + (bodyL ds).length)
  unfold listL listT
  constructor
  · simp; omega
  · simp; omega
theorem toks_list {ds : List Nat} (hd : ∀ d ∈ ds, d < 10) (hn : ds.length ≤ 100) (b : Bool) : toks (listL ds b) = .ok (listT ds b) ∧ toks (listL ds b ++ [32, 46]) = .ok (listT ds b ++ [⟨6, [46], (listL ds b).length + 1, (listL ds b).length + 2⟩]) := by
  have h1 := list_ans hd hn b []
  rw [List.append_nil] at h1
  have h2 := list_ans hd hn b [32, 46]
  have := (list_len hn b).2
  exact ⟨by unfold toks; rw [h1]; rfl, by unfold toks; rw [h2, ans_bdot _ _ (by omega)]⟩
end Go.Proofs.Ytjccohcigopdfaa.lx
namespace Go.Proofs.Ytjccohcigopdfaa.rd
open Go.Proofs.Ytjccohcigopdfaa.op (progI progP)
open Go.Proofs.Ytjccohcigopdfaa.lx (Tok Out toks toksD toksD_small dtx ctoks bodyT restT listL listT toks_list list_len)

/-- a token's kind and text -/
def kt (k : K) : Nat × List UInt8 := (k.kind, k.text)
theorem ab_kt (ts : List Tok) : (ab ts).map kt = ts.map fun t => (t.kind, t.text) := by
  induction ts with
  | nil => rfl
  | cons a ts ih =>
    cases ts with
    | nil => rfl
    | cons b ts => show kt ⟨a.kind, a.text, nearB a b⟩ :: (ab (b :: ts)).map kt = _; rw [ih]; rfl
/-- a small atom ahead of what ends it -/
theorem atom_term {k : K} (h1 : k.kind = 1) (h2 : k.text ≠ [45]) (h3 : (progP k.text).2.2 = false) (d : Nat) {r : List K} (h4 : (nx r).kind ≠ 4) (h5 : (infixK (nx r)).2.2.2 = false ∨ 999 < (infixK (nx r)).1) (nm : List (List UInt8)) : termP (d + 1) 999 (k :: r, nm) = .ok (.leaf 3 0 k.text, (r, nm)) := by
  have ho : operandP (termP d) 999 (k :: r, nm) = .ok ((.leaf 3 0 k.text, 0), (r, nm)) := by
    unfold operandP
    dsimp only
    rw [if_pos (by exact h1)]
    unfold namedP
    dsimp only
    rw [if_neg (by exact h4), if_neg (fun h => h2 h.1), if_neg (fun h => by have := h.1; rw [show (nx (k :: r)).text = k.text from rfl, h3] at this; exact absurd this (by decide))]
    rfl
  rw [term_e1, ho]
  show loopP (termP d) 999 r.length (.leaf 3 0 k.text) 0 (r, nm) = _
  rw [loop_stop _ _ _ _ _ _ (h5.imp id .inl)]
theorem dtx_ok {e : Nat} (h : e < 10) : dtx e ≠ [45] ∧ (progP (dtx e)).2.2 = false := by
  have : ∀ e, e < 10 → (progP (dtx e)).2.2 = false := by decide +kernel
  exact ⟨by unfold dtx; simp, this e h⟩
def leafD (e : Nat) : T := .leaf 3 0 (dtx e)
def items (ds : List Nat) : List (Nat × List UInt8) := ds.flatMap fun e => [(5, [44]), (1, dtx e)]
theorem kt_cons {l : List K} {p : Nat × List UInt8} {ps : List (Nat × List UInt8)} (h : l.map kt = p :: ps) : ∃ k r, l = k :: r ∧ k.kind = p.1 ∧ k.text = p.2 ∧ r.map kt = ps := by
  cases l with
  | nil => cases h
  | cons k r => rw [List.map_cons] at h; injection h with h1 h2; exact ⟨k, r, rfl, by rw [← h1]; rfl, by rw [← h1]; rfl, h2⟩
/-- what ends an element: a comma, a bar, a bracket -/
def ends5 (k : K) : Prop := k.kind = 5 ∧ (k.text = [44] ∨ k.text = [124] ∨ k.text = [93])
theorem ends5_inf {k : K} (h : ends5 k) : k.kind ≠ 4 ∧ ((infixK k).2.2.2 = false ∨ 999 < (infixK k).1) := by
  obtain ⟨h1, h2⟩ := h
  refine ⟨by omega, ?_⟩
  unfold infixK isM
  rw [h1]
  rcases h2 with h | h | h
  · right; rw [h, if_pos (.inr rfl)]; decide +kernel
  · left; rw [h, if_neg (by decide)]
  · left; rw [h, if_neg (by decide)]
theorem row_items (d : Nat) : ∀ (ds : List Nat), (∀ e ∈ ds, e < 10) → ∀ (f : Nat) (acc : List T) (l r : List K) (nm : List (List UInt8)), l.map kt = items ds → ends5 (nx r) → (nx r).text ≠ [44] → ds.length ≤ f →
    rowGo (termP (d + 1)) f acc (l ++ r, nm) = .ok (acc ++ ds.map leafD, (r, nm)) := by
  intro ds
  induction ds with
  | nil =>
    intro _ f acc l r nm hl hr hn hf
    have : l = [] := by cases l with | nil => rfl | cons k l => cases hl
    subst this
    rw [List.nil_append, rowGo_no _ _ _ _ (by unfold isM; simp [hn])]; simp
  | cons e ds ih =>
    intro hd f acc l r nm hl hr hn hf
    obtain ⟨k1, l1, rfl, a1, a2, hl1⟩ := kt_cons (show l.map kt = (5, [44]) :: (1, dtx e) :: items ds from hl)
    obtain ⟨k2, l2, rfl, b1, b2, hl2⟩ := kt_cons hl1
    rw [List.length_cons] at hf
    obtain ⟨f, rfl⟩ : ∃ g, f = g + 1 := ⟨f - 1, by omega⟩
    have hx : ends5 (nx (l2 ++ r)) := by
      cases ds with
      | nil => have : l2 = [] := by cases l2 with | nil => rfl | cons k l => cases hl2
               subst this; exact hr
      | cons e2 ds => obtain ⟨k3, l3, rfl, c1, c2, _⟩ := kt_cons (show l2.map kt = (5, [44]) :: (1, dtx e2) :: items ds from hl2); exact ⟨c1, .inl c2⟩
    obtain ⟨x1, x2⟩ := ends5_inf hx
    have he := dtx_ok (hd e (by simp))
    have ht := atom_term (k := k2) b1 (by rw [b2]; exact he.1) (by rw [b2]; exact he.2) d x1 x2 nm
    rw [rowGo_yes _ _ _ _ (by show isM k1 [44] = true; unfold isM; rw [a1, a2]; rfl) (t := .leaf 3 0 k2.text) (s' := (l2 ++ r, nm)) ht]
    rw [ih (fun e h => hd e (by simp [h])) f _ l2 r nm hl2 hr hn (by omega), b2]
    simp [leafD]
/-- P5.1: a list -/
theorem list_term {ds : List Nat} (hd : ∀ e ∈ ds, e < 10) (b : Bool) (hb : b = true → ds ≠ []) {l : List K}
    (hl : l.map kt = (5, [91]) :: ((match ds with | [] => [] | e :: es => (1, dtx e) :: items es) ++ ((if b = true then [(5, [124]), (1, [122])] else []) ++ [(5, [93]), (6, [46])]))) :
    ∃ k, k.kind = 6 ∧ termP 65 1200 (l, []) = .ok (consAll (ds.map leafD) (if b = true then .leaf 3 0 [122] else nilT), ([k], [])) := by
  obtain ⟨k0, l0, rfl, a1, a2, h0⟩ := kt_cons hl
  have key : ∃ k, k.kind = 6 ∧ listP (termP 64) (l0, []) = .ok (consAll (ds.map leafD) (if b = true then .leaf 3 0 [122] else nilT), ([k], [])) := by
    cases ds with
    | nil =>
      have hbf : b = false := by cases b with | false => rfl | true => exact absurd rfl (hb rfl)
      subst hbf
      obtain ⟨k1, l1, rfl, b1, b2, h1⟩ := kt_cons h0
      obtain ⟨k2, l2, rfl, c1, c2, h2⟩ := kt_cons h1
      have : l2 = [] := by cases l2 with | nil => rfl | cons k l => cases h2
      subst this
      refine ⟨k2, c1, ?_⟩
      unfold listP
      rw [if_pos (by show isM k1 [93] = true; unfold isM; rw [b1, b2]; rfl)]; rfl
    | cons e es =>
      obtain ⟨k1, l1, rfl, b1, b2, h1⟩ := kt_cons h0
      obtain ⟨li, lr, rfl, hi, hr⟩ := List.map_eq_append_iff.1 h1
      have he := dtx_ok (hd e (by simp))
      -- the rest
      have hrest : ends5 (nx lr) ∧ (nx lr).text ≠ [44] := by
        cases b with
        | false => obtain ⟨k3, l3, rfl, c1, c2, _⟩ := kt_cons hr; exact ⟨⟨c1, .inr (.inr c2)⟩, by show k3.text ≠ _; rw [c2]; decide⟩
        | true => obtain ⟨k3, l3, rfl, c1, c2, _⟩ := kt_cons hr; exact ⟨⟨c1, .inr (.inl c2)⟩, by show k3.text ≠ _; rw [c2]; decide⟩
      have hx : ends5 (nx (li ++ lr)) := by
        cases es with
        | nil => have : li = [] := by cases li with | nil => rfl | cons k l => cases hi
                 subst this; exact hrest.1
        | cons e2 es => obtain ⟨k3, l3, rfl, c1, c2, _⟩ := kt_cons (show li.map kt = (5, [44]) :: (1, dtx e2) :: items es from hi); exact ⟨c1, .inl c2⟩
      obtain ⟨x1, x2⟩ := ends5_inf hx
      have ht := atom_term (k := k1) b1 (by rw [b2]; exact he.1) (by rw [b2]; exact he.2) 63 x1 x2 []
      have hlen : es.length ≤ (li ++ lr).length := by
        have h2 : li.length = (items es).length := by rw [← hi, List.length_map]
        have h3 : (items es).length = 2 * es.length := by unfold items; clear hi h2 ht hx x1 x2 hd h1 h0 hl hb; induction es with | nil => rfl | cons x es ih => rw [List.flatMap_cons, List.length_append, ih]; simp; omega
        rw [List.length_append]; omega
      have hrow : rowP (termP 64) (k1 :: (li ++ lr), []) = .ok ((e :: es).map leafD, (lr, [])) := by
        unfold rowP
        rw [ht]
        show rowGo (termP 64) (li ++ lr).length [.leaf 3 0 k1.text] (li ++ lr, []) = _
        rw [row_items 63 es (fun e h => hd e (by simp [h])) _ _ li lr [] hi hrest.1 hrest.2 hlen, b2]
        rfl
      unfold listP
      rw [if_neg (by show ¬ isM k1 [93] = true; unfold isM; rw [b1]; simp), hrow]
      dsimp only
      cases b with
      | false =>
        obtain ⟨k3, l3, rfl, c1, c2, h3⟩ := kt_cons hr
        obtain ⟨k4, l4, rfl, d1, d2, h4⟩ := kt_cons h3
        have : l4 = [] := by cases l4 with | nil => rfl | cons k l => cases h4
        subst this
        refine ⟨k4, d1, ?_⟩
        rw [if_neg (by show ¬ isM k3 [124] = true; unfold isM; rw [c2]; simp)]
        dsimp only
        unfold expectP
        rw [if_pos (by show isM k3 [93] = true; unfold isM; rw [c1, c2]; rfl)]
        rfl
      | true =>
        obtain ⟨k3, l3, rfl, c1, c2, h3⟩ := kt_cons hr
        obtain ⟨k4, l4, rfl, d1, d2, h4⟩ := kt_cons h3
        obtain ⟨k5, l5, rfl, f1, f2, h5⟩ := kt_cons h4
        obtain ⟨k6, l6, rfl, g1, g2, h6⟩ := kt_cons h5
        have : l6 = [] := by cases l6 with | nil => rfl | cons k l => cases h6
        subst this
        refine ⟨k6, g1, ?_⟩
        have hx5 : ends5 (nx (k5 :: [k6])) := ⟨f1, .inr (.inr f2)⟩
        obtain ⟨z1, z2⟩ := ends5_inf hx5
        have hz : (progP [122]).2.2 = false := by decide +kernel
        have htz := atom_term (k := k4) d1 (by rw [d2]; decide) (by rw [d2]; exact hz) 63 z1 z2 []
        rw [if_pos (by show isM k3 [124] = true; unfold isM; rw [c1, c2]; rfl)]
        show (match termP 64 999 (k4 :: [k5, k6], []) with | .error e => _ | .ok (r, s2) => _) = _
        rw [htz]
        dsimp only
        unfold expectP
        rw [if_pos (by show isM k5 [93] = true; unfold isM; rw [f1, f2]; rfl), d2]
        rfl
  obtain ⟨k, hk, hL⟩ := key
  refine ⟨k, hk, ?_⟩
  rw [term_e1]
  have ho : operandP (termP 64) 1200 (k0 :: l0, []) = .ok ((consAll (ds.map leafD) (if b = true then .leaf 3 0 [122] else nilT), 0), ([k], [])) := by
    unfold operandP
    dsimp only
    rw [if_neg (by show ¬ k0.kind = 1; omega), if_neg (by show ¬ k0.kind = 2; omega), if_neg (by show ¬ k0.kind = 3; omega), if_neg (by show ¬ k0.kind = 4; omega)]
    unfold markedP
    rw [if_neg (by show ¬ isM k0 [40] = true; unfold isM; rw [a2]; simp), if_pos (by show isM k0 [91] = true; unfold isM; rw [a1, a2]; rfl)]
    show zeroP (listP (termP 64) (l0, [])) = _
    rw [hL]; rfl
  rw [ho]
  show loopP (termP 64) 1200 1 _ 0 ([k], []) = _
  rw [loop_stop _ _ _ _ _ _ (.inl (by show (infixK k).2.2.2 = false; rw [infix_dull (.inl hk)]))]
theorem lists {ds : List Nat} (hd : ∀ e ∈ ds, e < 10) (hn : ds.length ≤ 100) (b : Bool) (hb : b = true → ds ≠ []) : oneP (listL ds b) = .ok (consAll (ds.map leafD) (if b = true then .leaf 3 0 [122] else nilT), []) := by
  obtain ⟨h1, h2⟩ := toks_list hd hn b
  have hl := list_len hn b
  have he : endP (listL ds b) = listL ds b ++ [32, 46] := by
    unfold endP; rw [toksD_small (by omega), h1]; dsimp only; unfold listT; rw [show ∀ (t : List Tok) (x y : Nat), endsB (t ++ [⟨5, [93], x, y⟩]) = false from fun t x y => by unfold endsB; rw [List.getLast?_concat]; rfl]; rfl
  refine oneP_of (by rw [he, toksD_small (by simp; omega), h2]) ?_
  have hct : ∀ (es : List Nat) (n : Nat), (ctoks es n).map (fun t => (t.kind, t.text)) = items es := by
    intro es
    induction es with
    | nil => intro n; rfl
    | cons e es ih => intro n; simp only [ctoks, List.map_cons, ih]; rfl
  obtain ⟨k, hk, ht⟩ := list_term hd b hb (l := ab (listT ds b ++ [⟨6, [46], (listL ds b).length + 1, (listL ds b).length + 2⟩])) (by
    rw [ab_kt]
    unfold listT
    cases ds with
    | nil => cases b with
      | false => rfl
      | true => exact absurd rfl (hb rfl)
    | cons e es => cases b <;> simp [bodyT, restT, hct])
  exact sent_of hk ht
end Go.Proofs.Ytjccohcigopdfaa.rd
end
section
/- A name's text, quoted where it must be, ahead of a mark. Plain lists. -/
namespace Go.Proofs.Ytjccohcigopdfaa.lx

theorem run_shift2 {T : List Tok} {d M : Nat} (h : Ahead2 T d) (hM : T.length ≤ M) : ∀ (l : List UInt8) (ts : List Tok) (n : Nat) (m : Mode), At n m → ∀ ts' m', run (M - T.length) l ts n m = .go ts' m' →
    run M l (T ++ ts.map (shT d)) (n + d) (shM d m) = .go (T ++ ts'.map (shT d)) (shM d m') := by
  intro l
  induction l with
  | nil => intro ts n m _ ts' m' hr; cases hr; rfl
  | cons b l ih =>
    intro ts n m hm ts' m' hr
    rw [run] at hr ⊢
    rw [step_shift2 h hM ts n b m hm]
    cases hs : step (M - T.length) ts n b m with
    | go ts1 m1 =>
      rw [hs] at hr
      simp only [shR]
      rw [show n + d + 1 = n + 1 + d from by omega]
      exact ih ts1 (n + 1) m1 (by cases m1 <;> simp [At]) ts' m' hr
    | bad p e => rw [hs] at hr; cases hr

/-- behind a text that is tokens, the last up to its end: a mark comes next -/
theorem fin_mark {M : Nat} {ts a : List Tok} {n : Nat} {m : Mode} (h : fin M ts n m = .ok a) (h6 : ∀ t, a.getLast? = some t → t.kind = 1) (hl : m ≠ .line) {b : UInt8} (hb : cl b = 8) : step M ts n b m = start M a n b := by
  have hj : ∀ c, joinB c (cl b) = false := fun c => by
    unfold joinB
    rw [hb]
    repeat' split
    · decide
    · rename_i hc; rcases hc with rfl | rfl <;> decide
    · rfl
  have h42 : b ≠ 42 := fun e => by subst e; exact absurd hb (by decide)
  have h39 : b ≠ 39 := fun e => by subst e; exact absurd hb (by decide)
  cases m <;> simp only [fin] at h <;> simp only [step]
  case btw => cases h; rfl
  case line => exact absurd rfl hl
  case slash f =>
    split at h
    · cases h
    · rename_i hl2; cases h; rw [if_neg h42, if_neg hl2, if_neg (by omega)]
  case dot f =>
    cases h
    have := h6 _ (List.getLast?_concat ..)
    exact absurd (show (6 : Nat) = 1 from this) (by decide)
  case word c f acc => cases h; rw [if_neg (by rw [hj]; decide)]
  case quoq f acc => cases h; rw [if_neg h39]
  all_goals cases h
/-- an atom's text at the place d, a mark behind it -/
theorem ans_atom {M : Nat} {q name : List UInt8} (hq : toks q = .ok [⟨1, name, 0, q.length⟩]) (_h0 : q ≠ []) {b : UInt8} (hb : cl b = 8) (r : List UInt8) {T : List Tok} {d : Nat} (hT : Ahead2 T d) (hn : T.length + 1 ≤ M) :
    ans M (q ++ b :: r) T d .btw = ans M (b :: r) (T ++ [⟨1, name, d, d + q.length⟩]) (d + q.length) .btw := by
  have h1 : ans (M - T.length) q [] 0 .btw = .ok [⟨1, name, 0, q.length⟩] := (ans_less (M' := M - T.length) q [] 0 .btw hq).2 (by simp; omega)
  rw [ans_run] at h1
  cases hr : run (M - T.length) q [] 0 .btw with
  | bad p e => rw [hr] at h1; cases h1
  | go ts m =>
    rw [hr] at h1
    dsimp only at h1
    rw [Nat.zero_add] at h1
    have hP := inv_run (l := q) q [] 0 .btw ts m (by simp) (plAll_nil q) (Nat.zero_le _) hr
    rw [Nat.zero_add] at hP
    have hl : m ≠ .line := fun e => by
      subst e
      cases h1
      have : lastTo [(⟨1, name, 0, q.length⟩ : Tok)] < q.length := hP.2
      exact absurd this (by unfold lastTo; simp)
    have h2 := run_shift2 (M := M) hT (by omega) q [] 0 .btw trivial ts m hr
    rw [List.map_nil, List.append_nil, Nat.zero_add, show shM d .btw = .btw from rfl] at h2
    rw [ans_append, h2]
    dsimp only
    have h3 := fin_shift (T := T) (d := d) (M := M) (by omega) ts q.length m
    rw [h1] at h3
    have h4 : fin M (T ++ ts.map (shT d)) (q.length + d) (shM d m) = .ok (T ++ [⟨1, name, d, d + q.length⟩]) := by
      rw [h3]; simp [shO, shT]; omega
    rw [Nat.add_comm q.length d] at h4
    rw [ans_cons, ans_cons, fin_mark h4 (fun t ht => by rw [List.getLast?_concat] at ht; cases ht; rfl) (fun e => by cases m <;> first | exact hl rfl | cases e) hb]
    rfl
/-- with fewer tokens let in: the same, or they are too many -/
theorem start_cut {M M' : Nat} {ts ts' : List Tok} {n : Nat} {b : UInt8} {m' : Mode} (hl : ts.length ≤ M') (h : start M ts n b = .go ts' m') : (start M' ts n b = .go ts' m' ∧ ts'.length + pend m' ≤ M') ∨ start M' ts n b = .bad n 34 := by
  unfold start at h ⊢
  by_cases h1 : cl b = 1
  · rw [if_pos h1] at h ⊢; cases h; exact .inl ⟨rfl, hl⟩
  rw [if_neg h1] at h ⊢
  by_cases h2 : b = 37
  · rw [if_pos h2] at h ⊢; cases h; exact .inl ⟨rfl, hl⟩
  rw [if_neg h2] at h ⊢
  by_cases h3 : b = 47
  · rw [if_pos h3] at h ⊢; cases h; exact .inl ⟨rfl, hl⟩
  rw [if_neg h3] at h ⊢
  by_cases h0 : cl b = 0
  · rw [if_pos h0] at h; cases h
  rw [if_neg h0] at h ⊢
  by_cases hM : ts.length = M
  · rw [if_pos hM] at h; cases h
  rw [if_neg hM] at h
  by_cases hM' : ts.length = M'
  · rw [if_pos hM']; exact .inr rfl
  rw [if_neg hM']
  refine .inl ⟨h, ?_⟩
  unfold opening at h
  split at h
  · cases h; simp only [pend]; omega
  · split at h
    · cases h; simp only [pend, List.length_append, List.length_singleton]; omega
    · split at h
      · cases h; simp only [pend, List.length_append, List.length_singleton]; omega
      · split at h <;> cases h <;> simp only [pend] <;> omega
theorem step_cut {M M' : Nat} {ts ts' : List Tok} {n : Nat} {b : UInt8} {m m' : Mode} (hl : ts.length + pend m ≤ M') (h : step M ts n b m = .go ts' m') :
    (step M' ts n b m = .go ts' m' ∧ ts'.length + pend m' ≤ M') ∨ ∃ p, step M' ts n b m = .bad p 34 := by
  cases m with
  | btw => exact (start_cut hl h).imp id fun h => ⟨_, h⟩
  | line => simp only [step] at h ⊢; left; split at h <;> cases h <;> simp_all [pend]
  | slash f =>
    simp only [step] at h ⊢
    by_cases h1 : b = 42
    · rw [if_pos h1] at h ⊢; cases h; exact .inl ⟨rfl, hl⟩
    rw [if_neg h1] at h ⊢
    by_cases hM : ts.length = M
    · rw [if_pos hM] at h; cases h
    rw [if_neg hM] at h
    by_cases hM' : ts.length = M'
    · rw [if_pos hM']; exact .inr ⟨_, rfl⟩
    rw [if_neg hM']
    have hl' : ts.length + 0 ≤ M' := hl
    by_cases h5 : cl b = 5
    · rw [if_pos h5] at h ⊢; cases h
      exact .inl ⟨rfl, by show ts.length + 1 ≤ M'; omega⟩
    rw [if_neg h5] at h ⊢
    exact (start_cut (by rw [List.length_append, List.length_singleton]; omega) h).imp id fun h => ⟨_, h⟩
  | dot f =>
    simp only [step] at h ⊢
    have hl' : ts.length + 1 ≤ M' := hl
    by_cases h5 : cl b = 5
    · rw [if_pos h5] at h ⊢; cases h; exact .inl ⟨rfl, hl⟩
    rw [if_neg h5] at h ⊢
    exact (start_cut (by rw [List.length_append, List.length_singleton]; omega) h).imp id fun h => ⟨_, h⟩
  | rem f => simp only [step] at h ⊢; left; split at h <;> cases h <;> simp_all [pend]
  | star f =>
    simp only [step] at h ⊢
    left
    split at h
    · cases h; simp_all [pend]
    · split at h <;> cases h <;> simp_all [pend]
  | word c f acc =>
    simp only [step] at h ⊢
    have hl' : ts.length + 1 ≤ M' := hl
    by_cases h5 : joinB c (cl b) = true
    · rw [if_pos h5] at h ⊢; cases h; exact .inl ⟨rfl, hl⟩
    rw [if_neg h5] at h ⊢
    exact (start_cut (by rw [List.length_append, List.length_singleton]; omega) h).imp id fun h => ⟨_, h⟩
  | quo f acc =>
    simp only [step] at h ⊢
    left
    split at h
    · cases h; simp_all [pend]
    · split at h
      · cases h; simp_all [pend]
      · split at h <;> cases h; simp_all [pend]
  | quoq f acc =>
    simp only [step] at h ⊢
    have hl' : ts.length + 1 ≤ M' := hl
    by_cases h5 : b = 39
    · rw [if_pos h5] at h ⊢; cases h; exact .inl ⟨rfl, hl⟩
    rw [if_neg h5] at h ⊢
    exact (start_cut (by rw [List.length_append, List.length_singleton]; omega) h).imp id fun h => ⟨_, h⟩
  | esc f acc =>
    simp only [step] at h ⊢
    left
    split at h
    · cases h; simp_all [pend]
    · split at h
      · cases h; simp_all [pend]
      · split at h <;> cases h; simp_all [pend]
theorem ans_cut {M M' : Nat} {out : List Tok} : ∀ (l : List UInt8) (ts : List Tok) (n : Nat) (m : Mode), ts.length + pend m ≤ M' → ans M l ts n m = .ok out → (out.length ≤ M' ∧ ans M' l ts n m = .ok out) ∨ ∃ p, ans M' l ts n m = .bad p 34 := by
  intro l
  induction l with
  | nil =>
    intro ts n m hl h
    rw [ans_nil] at h ⊢
    by_cases ho : out.length ≤ M'
    · exact .inl ⟨ho, (fin_less h).2 ho⟩
    cases m <;> simp only [fin] at h ⊢
    case slash f =>
      by_cases hM : ts.length = M'
      · rw [if_pos hM]; exact .inr ⟨_, rfl⟩
      · split at h
        · cases h
        · cases h
          have hl' : ts.length + 0 ≤ M' := hl
          rw [List.length_append, List.length_singleton] at ho
          omega
    all_goals first | (cases h; done) | (exfalso; cases h; simp [pend] at hl ho; omega)
  | cons b l ih =>
    intro ts n m hl h
    rw [ans_cons] at h ⊢
    cases hs : step M ts n b m with
    | bad p e => rw [hs] at h; cases h
    | go ts' m' =>
      rw [hs] at h
      rcases step_cut hl hs with ⟨h1, h2⟩ | ⟨p, h1⟩
      · rw [h1]; exact ih ts' (n + 1) m' h2 h
      · rw [h1]; exact .inr ⟨p, rfl⟩
end Go.Proofs.Ytjccohcigopdfaa.lx
end
section
/- Terms as texts: the document's answer, and its tokens. Plain lists. -/
namespace Go.Proofs.Ytjccohcigopdfaa.lx
open Go.Proofs.Ytjccohcigopdfaa.rd (T)
open Go.Proofs.Ytjccohcigopdfaa.tx (text dec)

/-- a word that is a variable -/
def VarOk (x : List UInt8) : Prop := ∃ c l, x = c :: l ∧ cl c = 3 ∧ ∀ b ∈ l, joinB 3 (cl b) = true
/-- a variable's text -/
def varX (nm : List (List UInt8)) (n : Int) : List UInt8 := if n.toNat < nm.length ∧ nm.getD n.toNat [] ≠ [] ∧ nm.getD n.toNat [] ≠ [95] then nm.getD n.toNat [] else 95 :: text n
def leafX (nm : List (List UInt8)) (k : Nat) (n : Int) (s : List UInt8) : List UInt8 := if k = 1 then varX nm n else if k = 2 then text n else if s = [91, 93] ∨ s = [123, 125] then s else quoteS s
mutual
/-- a term's text -/
def txT (nm : List (List UInt8)) : T → List UInt8
  | .leaf k n s => leafX nm k n s
  | .cmp s l => if s = [46] ∧ l.length = 2 then 91 :: txP nm l else quoteS s ++ 40 :: (txL nm l ++ [41])
/-- a cell's two parts: the element and what is behind it -/
def txP (nm : List (List UInt8)) : List T → List UInt8
  | [] => []
  | a :: l => txT nm a ++ txQ nm l
/-- the rest, of one term -/
def txQ (nm : List (List UInt8)) : List T → List UInt8
  | [] => []
  | b :: _ => txR nm b
/-- a list's rest -/
def txR (nm : List (List UInt8)) : T → List UInt8
  | .leaf k n s => if k = 3 ∧ s = [91, 93] then [93] else 124 :: (leafX nm k n s ++ [93])
  | .cmp s l => if s = [46] ∧ l.length = 2 then 44 :: txP nm l else 124 :: (quoteS s ++ 40 :: (txL nm l ++ [41]) ++ [93])
def txL (nm : List (List UInt8)) : List T → List UInt8
  | [] => []
  | t :: l => txT nm t ++ txM nm l
def txM (nm : List (List UInt8)) : List T → List UInt8
  | [] => []
  | t :: l => 44 :: (txT nm t ++ txM nm l)
end

/-- a token to be: its kind, its text, how many bytes it takes -/
abbrev Pc := Nat × List UInt8 × Nat
def mk : Nat → List Pc → List Tok
  | _, [] => []
  | d, (k, x, w) :: l => ⟨k, x, d, d + w⟩ :: mk (d + w) l
def wd : List Pc → Nat
  | [] => 0
  | (_, _, w) :: l => w + wd l
theorem wd_app (a b : List Pc) : wd (a ++ b) = wd a + wd b := by
  induction a with
  | nil => simp [wd]
  | cons p a ih => obtain ⟨k, x, w⟩ := p; simp only [List.cons_append, wd, ih]; omega
theorem mk_app (d : Nat) (a b : List Pc) : mk d (a ++ b) = mk d a ++ mk (d + wd a) b := by
  induction a generalizing d with
  | nil => simp [mk, wd]
  | cons p a ih => obtain ⟨k, x, w⟩ := p; simp only [List.cons_append, mk, wd, ih, Nat.add_assoc]
theorem mk_len (d : Nat) (a : List Pc) : (mk d a).length = a.length := by
  induction a generalizing d with
  | nil => rfl
  | cons p a ih => obtain ⟨k, x, w⟩ := p; simp [mk, ih]
def atomX (s : List UInt8) : List Pc := if s = [91, 93] then [(5, [91], 1), (5, [93], 1)] else if s = [123, 125] then [(5, [123], 1), (5, [125], 1)] else [(1, s, (quoteS s).length)]
def leafP (nm : List (List UInt8)) (k : Nat) (n : Int) (s : List UInt8) : List Pc :=
  if k = 1 then [(2, varX nm n, (varX nm n).length)] else if k = 2 then (if n < 0 then [(1, [45], 1), (3, dec n.natAbs, (dec n.natAbs).length)] else [(3, dec n.natAbs, (dec n.natAbs).length)]) else atomX s
abbrev mP (b : UInt8) : Pc := (5, [b], 1)
mutual
def psT (nm : List (List UInt8)) : T → List Pc
  | .leaf k n s => leafP nm k n s
  | .cmp s l => if s = [46] ∧ l.length = 2 then mP 91 :: psP nm l else (1, s, (quoteS s).length) :: (4, [40], 1) :: (psL nm l ++ [mP 41])
def psP (nm : List (List UInt8)) : List T → List Pc
  | [] => []
  | a :: l => psT nm a ++ psQ nm l
def psQ (nm : List (List UInt8)) : List T → List Pc
  | [] => []
  | b :: _ => psR nm b
def psR (nm : List (List UInt8)) : T → List Pc
  | .leaf k n s => if k = 3 ∧ s = [91, 93] then [mP 93] else mP 124 :: (leafP nm k n s ++ [mP 93])
  | .cmp s l => if s = [46] ∧ l.length = 2 then mP 44 :: psP nm l else mP 124 :: (((1, s, (quoteS s).length) :: (4, [40], 1) :: (psL nm l ++ [mP 41])) ++ [mP 93])
def psL (nm : List (List UInt8)) : List T → List Pc
  | [] => []
  | t :: l => psT nm t ++ psM nm l
def psM (nm : List (List UInt8)) : List T → List Pc
  | [] => []
  | t :: l => mP 44 :: (psT nm t ++ psM nm l)
end
/-- behind an integer's text: what comes begins no digit (as many tokens as they are) -/
theorem ans_int' {M : Nat} (a : Int) {r : List UInt8} (hr : ∀ b q, r = b :: q → joinB 4 (cl b) = false) {ts : List Tok} (n : Nat) (hl : ts.length + (if a < 0 then 2 else 1) ≤ M) : ans M (text a ++ r) ts n .btw = ans M r (ts ++ intToks a n) (n + (text a).length) .btw := by
  by_cases h : a < 0
  · rw [if_pos h] at hl; exact ans_int a hr n hl
  · rw [if_neg h] at hl
    rw [tx.text_pos h, ans_digits (tx.digs_dec _) (tx.dec_ne _) r n (by omega), ans_word_end M 4 n r _ _ _ hr]
    unfold intToks
    rw [if_neg h]
    rfl
/-- a row of bytes ahead of a mark is these tokens -/
structure Lx (q : List UInt8) (ps : List Pc) : Prop where
  w : wd ps = q.length
  go : ∀ {M : Nat} (b : UInt8) (r : List UInt8) (T : List Tok) (d : Nat), cl b = 8 → Ahead2 T d → T.length + ps.length ≤ M → ans M (q ++ b :: r) T d .btw = ans M (b :: r) (T ++ mk d ps) (d + q.length) .btw
/-- .. ahead of whatever: it ends with a mark -/
structure Lz (q : List UInt8) (ps : List Pc) : Prop where
  w : wd ps = q.length
  ah : ∀ (T : List Tok) (d e : Nat), Ahead2 (T ++ mk d ps) e
  go : ∀ {M : Nat} (r : List UInt8) (T : List Tok) (d : Nat), Ahead2 T d → T.length + ps.length ≤ M → ans M (q ++ r) T d .btw = ans M r (T ++ mk d ps) (d + q.length) .btw
/-- .. and begins with one -/
structure Lw (q : List UInt8) (ps : List Pc) : Prop where
  w : wd ps = q.length
  ah : ∀ (T : List Tok) (d e : Nat), Ahead2 (T ++ mk d ps) e
  hd : ∃ b q', q = b :: q' ∧ cl b = 8
  go : ∀ {M : Nat} (r : List UInt8) (T : List Tok) (d : Nat), T.length + ps.length ≤ M → ans M (q ++ r) T d .btw = ans M r (T ++ mk d ps) (d + q.length) .btw
theorem ahead_end {T : List Tok} {t : Tok} (h : t.kind ≠ 1) (e : Nat) : Ahead2 (T ++ [t]) e := fun x hx hk => by
  rw [List.getLast?_concat] at hx; cases hx; exact absurd hk h
theorem Lz.x {q : List UInt8} {ps : List Pc} (h : Lz q ps) : Lx q ps := ⟨h.w, fun b r T d _ hT hn => h.go (b :: r) T d hT hn⟩
theorem Lw.z {q : List UInt8} {ps : List Pc} (h : Lw q ps) : Lz q ps := ⟨h.w, h.ah, fun r T d _ hn => h.go r T d hn⟩
theorem mark_w {m : UInt8} (h8 : cl m = 8) (h40 : m ≠ 40) : Lw [m] [mP m] :=
  ⟨rfl, fun T d e => ahead_end (by show (5 : Nat) ≠ 1; decide) e, ⟨m, [], rfl, h8⟩, fun {M} r T d hn => by
    have h1 : m ≠ 37 := fun e => by subst e; exact absurd h8 (by decide)
    have h2 : m ≠ 47 := fun e => by subst e; exact absurd h8 (by decide)
    exact ans_mk h8 h1 h2 h40 r d (by simp at hn; omega)⟩
theorem Lx.w' {q q' : List UInt8} {ps ps' : List Pc} (h : Lx q ps) (k : Lw q' ps') : Lz (q ++ q') (ps ++ ps') := by
  obtain ⟨b, q0, hq, hb⟩ := k.hd
  refine ⟨by rw [wd_app, h.w, k.w, List.length_append], fun T d e => ?_, fun {M} r T d hT hn => ?_⟩
  · rw [mk_app, ← List.append_assoc]; exact k.ah _ _ _
  · rw [List.length_append] at hn
    have e1 : q ++ q' ++ r = q ++ b :: (q0 ++ r) := by rw [hq]; simp
    rw [e1, h.go b _ T d hb hT (by omega)]
    have e2 : b :: (q0 ++ r) = q' ++ r := by rw [hq]; rfl
    rw [e2, k.go r _ _ (by rw [List.length_append, mk_len]; omega), mk_app, h.w, List.length_append, List.append_assoc, Nat.add_assoc]
theorem mark_z {m : UInt8} (h8 : cl m = 8) (h40 : m ≠ 40) {q : List UInt8} {ps : List Pc} (h : Lz q ps) : Lw (m :: q) (mP m :: ps) := by
  have hm := mark_w h8 h40
  have e0 : ∀ T d, T ++ mk d (mP m :: ps) = (T ++ mk d [mP m]) ++ mk (d + 1) ps := fun T d => by simp [mk]
  refine ⟨by show 1 + wd ps = _; rw [h.w, List.length_cons]; omega, fun T d e => ?_, ⟨m, q, rfl, h8⟩, fun {M} r T d hn => ?_⟩
  · rw [e0]; exact h.ah _ _ _
  · rw [List.length_cons] at hn
    have := hm.go (M := M) (q ++ r) T d (by simp; omega)
    rw [List.cons_append, show (m :: (q ++ r)) = [m] ++ (q ++ r) from rfl, this, e0]
    rw [h.go r _ _ (hm.ah T d _) (by rw [List.length_append, mk_len]; simp; omega)]
    rw [List.length_cons]
    simp only [List.length_cons, List.length_nil]
    rw [show d + (0 + 1) + q.length = d + (q.length + 1) from by omega]
/-- a name and its arguments -/
theorem open_z {s : List UInt8} (hs : quoteS s ≠ []) {q : List UInt8} {ps : List Pc} (h : Lz q ps) : Lz (quoteS s ++ 40 :: q) ((1, s, (quoteS s).length) :: (4, [40], 1) :: ps) := by
  have e0 : ∀ T d, T ++ mk d ((1, s, (quoteS s).length) :: (4, [40], 1) :: ps) = (T ++ [⟨1, s, d, d + (quoteS s).length⟩] ++ [⟨4, [40], d + (quoteS s).length, d + (quoteS s).length + 1⟩]) ++ mk (d + (quoteS s).length + 1) ps := fun T d => by simp [mk]
  refine ⟨by show (quoteS s).length + (1 + wd ps) = _; rw [h.w, List.length_append, List.length_cons]; omega, fun T d e => ?_, fun {M} r T d hT hn => ?_⟩
  · rw [e0]; exact h.ah _ _ _
  · rw [List.length_cons, List.length_cons] at hn
    rw [List.append_assoc, List.cons_append, ans_atom (quote_toks hs) hs (by decide) (q ++ r) hT (by omega)]
    rw [ans_cons, step, start_mark (by decide) (by decide) (by decide), if_neg (by simp; omega)]
    have ho : opens (T ++ [⟨1, s, d, d + (quoteS s).length⟩]) (d + (quoteS s).length) = true := by unfold opens; rw [List.getLast?_concat]; simp
    rw [if_pos ⟨rfl, ho⟩]
    dsimp only
    rw [h.go r _ _ (ahead_end (by show (4 : Nat) ≠ 1; decide) _) (by simp; omega), e0, List.length_append, List.length_cons, show d + (quoteS s).length + 1 + q.length = d + ((quoteS s).length + (q.length + 1)) from by omega]
theorem atom_x {s : List UInt8} (hs : s = [91, 93] ∨ s = [123, 125] ∨ quoteS s ≠ []) : Lx (if s = [91, 93] ∨ s = [123, 125] then s else quoteS s) (atomX s) := by
  unfold atomX
  by_cases h1 : s = [91, 93]
  · rw [if_pos (.inl h1), if_pos h1, h1]; exact (mark_z (by decide) (by decide) (mark_w (m := 93) (by decide) (by decide)).z).z.x
  · rw [if_neg h1]
    by_cases h2 : s = [123, 125]
    · rw [if_pos (.inr h2), if_pos h2, h2]; exact (mark_z (by decide) (by decide) (mark_w (m := 125) (by decide) (by decide)).z).z.x
    · have hq : quoteS s ≠ [] := by rcases hs with h | h | h; exact absurd h h1; exact absurd h h2; exact h
      rw [if_neg (fun h => h.elim h1 h2), if_neg h2]
      exact ⟨rfl, fun {M} b r T d hb hT hn => ans_atom (quote_toks hq) hq hb r hT (by simpa using hn)⟩
theorem join8 {c : Nat} {b : UInt8} (hb : cl b = 8) : joinB c (cl b) = false := by
  unfold joinB
  rw [hb]
  repeat' split
  · decide
  · rename_i hc; rcases hc with rfl | rfl <;> decide
  · rfl
theorem var_x {x : List UInt8} (hx : VarOk x) : Lx x [(2, x, x.length)] := by
  obtain ⟨c, l, rfl, hc, hl⟩ := hx
  refine ⟨rfl, fun {M} b r T d hb hT hn => ?_⟩
  have n37 : c ≠ 37 := fun e => by subst e; exact absurd hc (by decide)
  have n47 : c ≠ 47 := fun e => by subst e; exact absurd hc (by decide)
  have n46 : c ≠ 46 := fun e => by subst e; exact absurd hc (by decide)
  have hs : start M T d c = .go T (.word 3 d [c]) := by
    unfold start opening
    rw [if_neg (by omega), if_neg n37, if_neg n47, if_neg (by omega), if_neg (by simp at hn; omega), if_neg (by omega), if_neg (by omega), if_neg (by omega), if_neg n46, hc]
  rw [List.cons_append, ans_cons, step, hs]
  dsimp only
  rw [ans_word M 3 d l (b :: r) [c] T (d + 1) hl, ans_word_end M 3 d (b :: r) _ _ _ (fun b' q h => by cases h; exact join8 hb)]
  rw [List.length_cons, show d + 1 + l.length = d + (l.length + 1) from by omega]
  rfl
theorem int_x (n : Int) : Lx (text n) (if n < 0 then [(1, [45], 1), (3, dec n.natAbs, (dec n.natAbs).length)] else [(3, dec n.natAbs, (dec n.natAbs).length)]) := by
  have hw : wd (if n < 0 then [(1, [45], 1), (3, dec n.natAbs, (dec n.natAbs).length)] else [(3, dec n.natAbs, (dec n.natAbs).length)]) = (text n).length := by
    by_cases h : n < 0
    · rw [if_pos h, tx.text_neg h]; simp [wd]; omega
    · rw [if_neg h, tx.text_pos h]; simp [wd]
  refine ⟨hw, fun {M} b r T d hb hT hn => ?_⟩
  rw [ans_int' n (fun b' q h => by cases h; exact join8 hb) d (by by_cases h : n < 0 <;> simp [h] at hn ⊢ <;> omega)]
  unfold intToks
  split <;> rfl
mutual
/-- a term that is written -/
def gdT (nm : List (List UInt8)) : T → Prop
  | .leaf k n s => (k = 1 ∧ VarOk (varX nm n)) ∨ k = 2 ∨ (k = 3 ∧ (s = [91, 93] ∨ s = [123, 125] ∨ quoteS s ≠ []))
  | .cmp s l => quoteS s ≠ [] ∧ l ≠ [] ∧ gdL nm l
def gdL (nm : List (List UInt8)) : List T → Prop
  | [] => True
  | t :: l => gdT nm t ∧ gdL nm l
end
theorem leaf_x {nm : List (List UInt8)} {k : Nat} {n : Int} {s : List UInt8} (h : gdT nm (.leaf k n s)) : Lx (leafX nm k n s) (leafP nm k n s) := by
  rw [gdT] at h
  unfold leafX leafP
  rcases h with ⟨rfl, h⟩ | rfl | ⟨rfl, h⟩
  · rw [if_pos rfl, if_pos rfl]; exact var_x h
  · rw [if_neg (by decide), if_pos rfl, if_neg (by decide), if_pos rfl]; exact int_x n
  · exact atom_x h
mutual
theorem lexT (nm : List (List UInt8)) : ∀ (t : T), gdT nm t → Lx (txT nm t) (psT nm t)
  | .leaf k n s, h => by rw [txT, psT]; exact leaf_x h
  | .cmp s l, h => by
    rw [gdT] at h
    obtain ⟨h1, h2, h3⟩ := h
    rw [txT, psT]
    by_cases hp : s = [46] ∧ l.length = 2
    · rw [if_pos hp, if_pos hp]; exact (mark_z (by decide) (by decide) (lexP nm l h3 hp.2)).z.x
    · rw [if_neg hp, if_neg hp]; exact (open_z h1 (lexL nm l h3 h2)).x
theorem lexP (nm : List (List UInt8)) : ∀ (l : List T), gdL nm l → l.length = 2 → Lz (txP nm l) (psP nm l)
  | [], _, hl => by simp at hl
  | a :: l, h, hl => by
    rw [gdL] at h
    rw [txP, psP]
    exact (lexT nm a h.1).w' (lexQ nm l h.2 (by simpa using hl))
theorem lexQ (nm : List (List UInt8)) : ∀ (l : List T), gdL nm l → l.length = 1 → Lw (txQ nm l) (psQ nm l)
  | [], _, hl => by simp at hl
  | b :: l, h, _ => by
    rw [gdL] at h
    rw [txQ, psQ]
    exact lexR nm b h.1
theorem lexR (nm : List (List UInt8)) : ∀ (t : T), gdT nm t → Lw (txR nm t) (psR nm t)
  | .leaf k n s, h => by
    rw [txR, psR]
    by_cases hn : k = 3 ∧ s = [91, 93]
    · rw [if_pos hn, if_pos hn]; exact mark_w (by decide) (by decide)
    · rw [if_neg hn, if_neg hn]; exact mark_z (by decide) (by decide) ((leaf_x h).w' (mark_w (m := 93) (by decide) (by decide)))
  | .cmp s l, h => by
    rw [gdT] at h
    obtain ⟨h1, h2, h3⟩ := h
    rw [txR, psR]
    by_cases hp : s = [46] ∧ l.length = 2
    · rw [if_pos hp, if_pos hp]; exact mark_z (by decide) (by decide) (lexP nm l h3 hp.2)
    · rw [if_neg hp, if_neg hp]; exact mark_z (by decide) (by decide) ((open_z h1 (lexL nm l h3 h2)).x.w' (mark_w (m := 93) (by decide) (by decide)))
theorem lexL (nm : List (List UInt8)) : ∀ (l : List T), gdL nm l → l ≠ [] → Lz (txL nm l ++ [41]) (psL nm l ++ [mP 41])
  | [], _, hl => absurd rfl hl
  | t :: l, h, _ => by
    rw [gdL] at h
    rw [txL, psL, List.append_assoc, List.append_assoc]
    exact (lexT nm t h.1).w' (lexM nm l h.2)
theorem lexM (nm : List (List UInt8)) : ∀ (l : List T), gdL nm l → Lw (txM nm l ++ [41]) (psM nm l ++ [mP 41])
  | [], _ => by rw [txM, psM]; exact mark_w (by decide) (by decide)
  | t :: l, h => by
    rw [gdL] at h
    rw [txM, psM, List.cons_append, List.cons_append, List.append_assoc, List.append_assoc]
    exact mark_z (by decide) (by decide) ((lexT nm t h.1).w' (lexM nm l h.2))
end
end Go.Proofs.Ytjccohcigopdfaa.lx
end
