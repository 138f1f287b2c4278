/- A list's text, read. Plain lists.; A slice of bytes that comes in.; ReadLists: its walk. -/
import Derived.Test.YtcdmmcogegnieaaGreatDoorQ23
import Derived.Test.YtcdmmcogegnieaaGreatDoorQ20
import Derived.ChangeSlices
import Derived.Test.YtcdmmcogegnieaaGreatDoorQ22
set_option linter.unusedVariables false
set_option linter.unusedSimpArgs false
section
/- A list's text, read. Plain lists. -/
namespace Go.Proofs.YtcdmmcogegnieaaGreatDoor.lx

/-- the atom of a digit -/
def dtx (d : Nat) : List UInt8 := [97, UInt8.ofNat (48 + d)]
def cm (ds : List Nat) : List UInt8 := ds.flatMap fun e => 44 :: dtx e
def bodyL : List Nat → List UInt8
  | [] => []
  | d :: ds => dtx d ++ cm ds
theorem body_snoc (l : List Nat) (h : l ≠ []) (e : Nat) : bodyL (l ++ [e]) = bodyL l ++ 44 :: dtx e := by
  cases l with
  | nil => exact absurd rfl h
  | cons d ds => show dtx d ++ cm (ds ++ [e]) = dtx d ++ cm ds ++ _; unfold cm; simp
theorem dig_cl {d : Nat} (h : d < 10) : joinB 2 (cl (UInt8.ofNat (48 + d))) = true := by
  have : ∀ d, d < 10 → joinB 2 (cl (UInt8.ofNat (48 + d))) = true := by decide
  exact this d h
theorem ans_dtx {M d : Nat} (hd : d < 10) {r : List UInt8} (hr : ∀ b q, r = b :: q → joinB 2 (cl b) = false) {ts : List Tok} (n : Nat) (hl : ts.length ≠ M) : ans M (dtx d ++ r) ts n .btw = ans M r (ts ++ [⟨1, dtx d, n, n + 2⟩]) (n + 2) .btw := by
  have hs : start M ts n 97 = .go ts (.word 2 n [97]) := by
    unfold start opening
    rw [if_neg (by decide), if_neg (by decide), if_neg (by decide), if_neg (by decide), if_neg hl, if_neg (by decide), if_neg (by decide), if_neg (by decide), if_neg (by decide)]
    rfl
  unfold dtx
  rw [List.cons_append, ans_cons, step, hs]
  dsimp only
  rw [ans_word M 2 n [UInt8.ofNat (48 + d)] r [97] ts (n + 1) (fun b hb => by rw [List.mem_singleton] at hb; rw [hb]; exact dig_cl hd), ans_word_end M 2 n r _ _ _ hr]
  rfl
theorem ans_mk {M : Nat} {b : UInt8} (h8 : cl b = 8) (h1 : b ≠ 37) (h2 : b ≠ 47) (h3 : b ≠ 40) (r : List UInt8) {ts : List Tok} (n : Nat) (hl : ts.length ≠ M) : ans M (b :: r) ts n .btw = ans M r (ts ++ [⟨5, [b], n, n + 1⟩]) (n + 1) .btw := by
  rw [ans_cons, step, start_mark h8 h1 h2, if_neg hl, if_neg (fun h => h3 h.1)]
def ctoks : List Nat → Nat → List Tok
  | [], _ => []
  | e :: ds, n => ⟨5, [44], n, n + 1⟩ :: ⟨1, dtx e, n + 1, n + 3⟩ :: ctoks ds (n + 3)
theorem ctoks_len (ds : List Nat) (n : Nat) : (ctoks ds n).length = 2 * ds.length := by
  induction ds generalizing n with
  | nil => rfl
  | cons e ds ih => simp [ctoks, ih]; omega
theorem join44 (ds : List Nat) {r : List UInt8} (hr : ∀ b q, r = b :: q → joinB 2 (cl b) = false) : ∀ b q, cm ds ++ r = b :: q → joinB 2 (cl b) = false := by
  cases ds with
  | nil => exact hr
  | cons e ds => intro b q h; have : b = 44 := by simp [cm] at h; exact h.1.symm
                 rw [this]; decide
theorem ans_cm {M : Nat} {r : List UInt8} (hr : ∀ b q, r = b :: q → joinB 2 (cl b) = false) : ∀ (ds : List Nat), (∀ d ∈ ds, d < 10) → ∀ (ts : List Tok) (n : Nat), ts.length + 2 * ds.length ≤ M →
    ans M (cm ds ++ r) ts n .btw = ans M r (ts ++ ctoks ds n) (n + 3 * ds.length) .btw := by
  intro ds
  induction ds with
  | nil => intro _ ts n _; rw [ctoks, List.append_nil]; rfl
  | cons e ds ih =>
    intro hd ts n hl
    rw [List.length_cons] at hl
    have e1 : cm (e :: ds) ++ r = 44 :: (dtx e ++ (cm ds ++ r)) := by simp [cm]
    rw [e1, ans_mk (by decide) (by decide) (by decide) (by decide) _ n (by omega), ans_dtx (hd e (by simp)) (join44 ds hr) (n + 1) (by simp; omega), ih (fun d h => hd d (by simp [h])) _ _ (by simp; omega)]
    rw [List.length_cons, show n + 1 + 2 + 3 * ds.length = n + 3 * (ds.length + 1) from by omega]
    simp [ctoks]
def bodyT : List Nat → Nat → List Tok
  | [], _ => []
  | d :: ds, n => ⟨1, dtx d, n, n + 2⟩ :: ctoks ds (n + 2)
/-- what comes behind the elements -/
def restL (b : Bool) : List UInt8 := if b = true then [124, 122] else []
def restT (b : Bool) (n : Nat) : List Tok := if b = true then [⟨5, [124], n, n + 1⟩, ⟨1, [122], n + 1, n + 2⟩] else []
theorem ans_rest {M : Nat} (b : Bool) {r : List UInt8} (hr : ∀ b q, r = b :: q → joinB 2 (cl b) = false) {ts : List Tok} (n : Nat) (hl : ts.length + 2 ≤ M) : ans M (restL b ++ r) ts n .btw = ans M r (ts ++ restT b n) (n + (restL b).length) .btw := by
  cases b with
  | false => rw [show restT false n = [] from rfl, List.append_nil]; rfl
  | true =>
    show ans M (124 :: 122 :: r) ts n .btw = _
    rw [ans_mk (by decide) (by decide) (by decide) (by decide) _ n (by omega)]
    have hs : start M (ts ++ [⟨5, [124], n, n + 1⟩]) (n + 1) 122 = .go (ts ++ [⟨5, [124], n, n + 1⟩]) (.word 2 (n + 1) [122]) := by
      unfold start opening
      rw [if_neg (by decide), if_neg (by decide), if_neg (by decide), if_neg (by decide), if_neg (by simp; omega), if_neg (by decide), if_neg (by decide), if_neg (by decide), if_neg (by decide)]
      rfl
    rw [ans_cons, step, hs]
    dsimp only
    rw [ans_word_end M 2 (n + 1) r [122] _ _ hr, List.append_assoc]
    rfl
/-- the whole text -/
def listL (ds : List Nat) (b : Bool) : List UInt8 := 91 :: (bodyL ds ++ (restL b ++ [93]))
def listT (ds : List Nat) (b : Bool) : List Tok := [⟨5, [91], 0, 1⟩] ++ bodyT ds 1 ++ restT b (1 + (bodyL ds).length) ++ [⟨5, [93], 1 + (bodyL ds).length + (restL b).length, 1 + (bodyL ds).length + (restL b).length + 1⟩]
theorem restJ (b : Bool) (r : List UInt8) : ∀ c q, restL b ++ (93 :: r) = c :: q → joinB 2 (cl c) = false := by
  intro c q h
  cases b with
  | false => cases h; decide
  | true => cases h; decide
theorem cm_len (ds : List Nat) : (cm ds).length = 3 * ds.length := by
  induction ds with
  | nil => rfl
  | cons e ds ih => unfold cm at *; rw [List.flatMap_cons, List.length_append, ih]; simp [dtx]; omega
theorem list_ans {ds : List Nat} (hd : ∀ d ∈ ds, d < 10) (hn : ds.length ≤ 100) (b : Bool) (r : List UInt8) : ans 1000 (listL ds b ++ r) [] 0 .btw = ans 1000 r (listT ds b) (listL ds b).length .btw := by
  have e0 : listL ds b ++ r = 91 :: (bodyL ds ++ (restL b ++ 93 :: r)) := by simp [listL]
  rw [e0, ans_mk (by decide) (by decide) (by decide) (by decide) _ 0 (by decide)]
  have hb : ans 1000 (bodyL ds ++ (restL b ++ 93 :: r)) ([] ++ [⟨5, [91], 0, 0 + 1⟩]) (0 + 1) .btw = ans 1000 (restL b ++ 93 :: r) ([⟨5, [91], 0, 1⟩] ++ bodyT ds 1) (1 + (bodyL ds).length) .btw := by
    cases ds with
    | nil => rfl
    | cons d ds =>
      rw [List.length_cons] at hn
      show ans 1000 (dtx d ++ cm ds ++ _) _ _ _ = _
      rw [List.append_assoc, ans_dtx (hd d (by simp)) (join44 ds (restJ b r)) _ (by simp), ans_cm (restJ b r) ds (fun e h => hd e (by simp [h])) _ _ (by simp; omega)]
      show _ = ans 1000 _ _ (1 + (dtx d ++ cm ds).length) _
      rw [List.length_append, cm_len, show 1 + ((dtx d).length + 3 * ds.length) = 0 + 1 + 2 + 3 * ds.length from by simp [dtx]; omega]
      simp [bodyT]
  have hbl : (bodyT ds 1).length ≤ 2 * ds.length := by
    cases ds with
    | nil => exact Nat.le_refl _
    | cons d ds => simp [bodyT, ctoks_len]; omega
  rw [hb, ans_rest b (fun c q h => by cases h; decide) _ (by simp; omega)]
  have hrl : (restT b (1 + (bodyL ds).length)).length ≤ 2 := by cases b <;> simp [restT]
  rw [ans_mk (by decide) (by decide) (by decide) (by decide) _ _ (by simp; omega)]
  have hz : (listL ds b).length = 1 + (bodyL ds).length + (restL b).length + 1 := by unfold listL; simp; omega
  rw [hz]
  rfl
theorem list_len {ds : List Nat} (hn : ds.length ≤ 100) (b : Bool) : (listL ds b).length ≤ 400 ∧ (listT ds b).length ≤ 300 := by
  have h1 : (bodyL ds).length ≤ 3 * ds.length := by
    cases ds with
    | nil => exact Nat.le_refl _
    | cons d ds => simp [bodyL, cm_len, dtx]; omega
  have hbl : (bodyT ds 1).length ≤ 2 * ds.length := by
    cases ds with
    | nil => exact Nat.le_refl _
    | cons d ds => simp [bodyT, ctoks_len]; omega
  have hr : (restL b).length ≤ 2 := by cases b <;> simp [restL]
  have hrl : ∀ n, (restT b n).length ≤ 2 := fun n => by cases b <;> simp [restT]
  have := hrl (1 + (bodyL ds).length)
  unfold listL listT
  constructor
  · simp; omega
  · simp; omega
theorem toks_list {ds : List Nat} (hd : ∀ d ∈ ds, d < 10) (hn : ds.length ≤ 100) (b : Bool) : toks (listL ds b) = .ok (listT ds b) ∧ toks (listL ds b ++ [32, 46]) = .ok (listT ds b ++ [⟨6, [46], (listL ds b).length + 1, (listL ds b).length + 2⟩]) := by
  have h1 := list_ans hd hn b []
  rw [List.append_nil] at h1
  have h2 := list_ans hd hn b [32, 46]
  have := (list_len hn b).2
  exact ⟨by unfold toks; rw [h1]; rfl, by unfold toks; rw [h2, ans_bdot _ _ (by omega)]⟩
end Go.Proofs.YtcdmmcogegnieaaGreatDoor.lx
namespace Go.Proofs.YtcdmmcogegnieaaGreatDoor.rd
open Go.Proofs.YtcdmmcogegnieaaGreatDoor.op (progI progP)
open Go.Proofs.YtcdmmcogegnieaaGreatDoor.lx (Tok Out toks toksD toksD_small dtx ctoks bodyT restT listL listT toks_list list_len)

/-- a token's kind and text -/
def kt (k : K) : Nat × List UInt8 := (k.kind, k.text)
theorem ab_kt (ts : List Tok) : (ab ts).map kt = ts.map fun t => (t.kind, t.text) := by
  induction ts with
  | nil => rfl
  | cons a ts ih =>
    cases ts with
    | nil => rfl
    | cons b ts => show kt ⟨a.kind, a.text, nearB a b⟩ :: (ab (b :: ts)).map kt = _; rw [ih]; rfl
/-- a small atom ahead of what ends it -/
theorem atom_term {k : K} (h1 : k.kind = 1) (h2 : k.text ≠ [45]) (h3 : (progP k.text).2.2 = false) (d : Nat) {r : List K} (h4 : (nx r).kind ≠ 4) (h5 : (infixK (nx r)).2.2.2 = false ∨ 999 < (infixK (nx r)).1) (nm : List (List UInt8)) : termP (d + 1) 999 (k :: r, nm) = .ok (.leaf 3 0 k.text, (r, nm)) := by
  have ho : operandP (termP d) 999 (k :: r, nm) = .ok ((.leaf 3 0 k.text, 0), (r, nm)) := by
    unfold operandP
    dsimp only
    rw [if_pos (by exact h1)]
    unfold namedP
    dsimp only
    rw [if_neg (by exact h4), if_neg (fun h => h2 h.1), if_neg (fun h => by have := h.1; rw [show (nx (k :: r)).text = k.text from rfl, h3] at this; exact absurd this (by decide))]
    rfl
  rw [term_e1, ho]
  show loopP (termP d) 999 r.length (.leaf 3 0 k.text) 0 (r, nm) = _
  rw [loop_stop _ _ _ _ _ _ (h5.imp id .inl)]
theorem dtx_ok {e : Nat} (h : e < 10) : dtx e ≠ [45] ∧ (progP (dtx e)).2.2 = false := by
  have : ∀ e, e < 10 → (progP (dtx e)).2.2 = false := by decide +kernel
  exact ⟨by unfold dtx; simp, this e h⟩
def leafD (e : Nat) : T := .leaf 3 0 (dtx e)
def items (ds : List Nat) : List (Nat × List UInt8) := ds.flatMap fun e => [(5, [44]), (1, dtx e)]
theorem kt_cons {l : List K} {p : Nat × List UInt8} {ps : List (Nat × List UInt8)} (h : l.map kt = p :: ps) : ∃ k r, l = k :: r ∧ k.kind = p.1 ∧ k.text = p.2 ∧ r.map kt = ps := by
  cases l with
  | nil => cases h
  | cons k r => rw [List.map_cons] at h; injection h with h1 h2; exact ⟨k, r, rfl, by rw [← h1]; rfl, by rw [← h1]; rfl, h2⟩
/-- what ends an element: a comma, a bar, a bracket -/
def ends5 (k : K) : Prop := k.kind = 5 ∧ (k.text = [44] ∨ k.text = [124] ∨ k.text = [93])
theorem ends5_inf {k : K} (h : ends5 k) : k.kind ≠ 4 ∧ ((infixK k).2.2.2 = false ∨ 999 < (infixK k).1) := by
  obtain ⟨h1, h2⟩ := h
  refine ⟨by omega, ?_⟩
  unfold infixK isM
  rw [h1]
  rcases h2 with h | h | h
  · right; rw [h, if_pos (.inr rfl)]; decide +kernel
  · left; rw [h, if_neg (by decide)]
  · left; rw [h, if_neg (by decide)]
theorem row_items (d : Nat) : ∀ (ds : List Nat), (∀ e ∈ ds, e < 10) → ∀ (f : Nat) (acc : List T) (l r : List K) (nm : List (List UInt8)), l.map kt = items ds → ends5 (nx r) → (nx r).text ≠ [44] → ds.length ≤ f →
    rowGo (termP (d + 1)) f acc (l ++ r, nm) = .ok (acc ++ ds.map leafD, (r, nm)) := by
  intro ds
  induction ds with
  | nil =>
    intro _ f acc l r nm hl hr hn hf
    have : l = [] := by cases l with | nil => rfl | cons k l => cases hl
    subst this
    rw [List.nil_append, rowGo_no _ _ _ _ (by unfold isM; simp [hn])]; simp
  | cons e ds ih =>
    intro hd f acc l r nm hl hr hn hf
    obtain ⟨k1, l1, rfl, a1, a2, hl1⟩ := kt_cons (show l.map kt = (5, [44]) :: (1, dtx e) :: items ds from hl)
    obtain ⟨k2, l2, rfl, b1, b2, hl2⟩ := kt_cons hl1
    rw [List.length_cons] at hf
    obtain ⟨f, rfl⟩ : ∃ g, f = g + 1 := ⟨f - 1, by omega⟩
    have hx : ends5 (nx (l2 ++ r)) := by
      cases ds with
      | nil => have : l2 = [] := by cases l2 with | nil => rfl | cons k l => cases hl2
               subst this; exact hr
      | cons e2 ds => obtain ⟨k3, l3, rfl, c1, c2, _⟩ := kt_cons (show l2.map kt = (5, [44]) :: (1, dtx e2) :: items ds from hl2); exact ⟨c1, .inl c2⟩
    obtain ⟨x1, x2⟩ := ends5_inf hx
    have he := dtx_ok (hd e (by simp))
    have ht := atom_term (k := k2) b1 (by rw [b2]; exact he.1) (by rw [b2]; exact he.2) d x1 x2 nm
    rw [rowGo_yes _ _ _ _ (by show isM k1 [44] = true; unfold isM; rw [a1, a2]; rfl) (t := .leaf 3 0 k2.text) (s' := (l2 ++ r, nm)) ht]
    rw [ih (fun e h => hd e (by simp [h])) f _ l2 r nm hl2 hr hn (by omega), b2]
    simp [leafD]
/-- P5.1: a list -/
theorem list_term {ds : List Nat} (hd : ∀ e ∈ ds, e < 10) (b : Bool) (hb : b = true → ds ≠ []) {l : List K}
    (hl : l.map kt = (5, [91]) :: ((match ds with | [] => [] | e :: es => (1, dtx e) :: items es) ++ ((if b = true then [(5, [124]), (1, [122])] else []) ++ [(5, [93]), (6, [46])]))) :
    ∃ k, k.kind = 6 ∧ termP 65 1200 (l, []) = .ok (consAll (ds.map leafD) (if b = true then .leaf 3 0 [122] else nilT), ([k], [])) := by
  obtain ⟨k0, l0, rfl, a1, a2, h0⟩ := kt_cons hl
  have key : ∃ k, k.kind = 6 ∧ listP (termP 64) (l0, []) = .ok (consAll (ds.map leafD) (if b = true then .leaf 3 0 [122] else nilT), ([k], [])) := by
    cases ds with
    | nil =>
      have hbf : b = false := by cases b with | false => rfl | true => exact absurd rfl (hb rfl)
      subst hbf
      obtain ⟨k1, l1, rfl, b1, b2, h1⟩ := kt_cons h0
      obtain ⟨k2, l2, rfl, c1, c2, h2⟩ := kt_cons h1
      have : l2 = [] := by cases l2 with | nil => rfl | cons k l => cases h2
      subst this
      refine ⟨k2, c1, ?_⟩
      unfold listP
      rw [if_pos (by show isM k1 [93] = true; unfold isM; rw [b1, b2]; rfl)]; rfl
    | cons e es =>
      obtain ⟨k1, l1, rfl, b1, b2, h1⟩ := kt_cons h0
      obtain ⟨li, lr, rfl, hi, hr⟩ := List.map_eq_append_iff.1 h1
      have he := dtx_ok (hd e (by simp))
      -- the rest
      have hrest : ends5 (nx lr) ∧ (nx lr).text ≠ [44] := by
        cases b with
        | false => obtain ⟨k3, l3, rfl, c1, c2, _⟩ := kt_cons hr; exact ⟨⟨c1, .inr (.inr c2)⟩, by show k3.text ≠ _; rw [c2]; decide⟩
        | true => obtain ⟨k3, l3, rfl, c1, c2, _⟩ := kt_cons hr; exact ⟨⟨c1, .inr (.inl c2)⟩, by show k3.text ≠ _; rw [c2]; decide⟩
      have hx : ends5 (nx (li ++ lr)) := by
        cases es with
        | nil => have : li = [] := by cases li with | nil => rfl | cons k l => cases hi
                 subst this; exact hrest.1
        | cons e2 es => obtain ⟨k3, l3, rfl, c1, c2, _⟩ := kt_cons (show li.map kt = (5, [44]) :: (1, dtx e2) :: items es from hi); exact ⟨c1, .inl c2⟩
      obtain ⟨x1, x2⟩ := ends5_inf hx
      have ht := atom_term (k := k1) b1 (by rw [b2]; exact he.1) (by rw [b2]; exact he.2) 63 x1 x2 []
      have hlen : es.length ≤ (li ++ lr).length := by
        have h2 : li.length = (items es).length := by rw [← hi, List.length_map]
        have h3 : (items es).length = 2 * es.length := by unfold items; clear hi h2 ht hx x1 x2 hd h1 h0 hl hb; induction es with | nil => rfl | cons x es ih => rw [List.flatMap_cons, List.length_append, ih]; simp; omega
        rw [List.length_append]; omega
      have hrow : rowP (termP 64) (k1 :: (li ++ lr), []) = .ok ((e :: es).map leafD, (lr, [])) := by
        unfold rowP
        rw [ht]
        show rowGo (termP 64) (li ++ lr).length [.leaf 3 0 k1.text] (li ++ lr, []) = _
        rw [row_items 63 es (fun e h => hd e (by simp [h])) _ _ li lr [] hi hrest.1 hrest.2 hlen, b2]
        rfl
      unfold listP
      rw [if_neg (by show ¬ isM k1 [93] = true; unfold isM; rw [b1]; simp), hrow]
      dsimp only
      cases b with
      | false =>
        obtain ⟨k3, l3, rfl, c1, c2, h3⟩ := kt_cons hr
        obtain ⟨k4, l4, rfl, d1, d2, h4⟩ := kt_cons h3
        have : l4 = [] := by cases l4 with | nil => rfl | cons k l => cases h4
        subst this
        refine ⟨k4, d1, ?_⟩
        rw [if_neg (by show ¬ isM k3 [124] = true; unfold isM; rw [c2]; simp)]
        dsimp only
        unfold expectP
        rw [if_pos (by show isM k3 [93] = true; unfold isM; rw [c1, c2]; rfl)]
        rfl
      | true =>
        obtain ⟨k3, l3, rfl, c1, c2, h3⟩ := kt_cons hr
        obtain ⟨k4, l4, rfl, d1, d2, h4⟩ := kt_cons h3
        obtain ⟨k5, l5, rfl, f1, f2, h5⟩ := kt_cons h4
        obtain ⟨k6, l6, rfl, g1, g2, h6⟩ := kt_cons h5
        have : l6 = [] := by cases l6 with | nil => rfl | cons k l => cases h6
        subst this
        refine ⟨k6, g1, ?_⟩
        have hx5 : ends5 (nx (k5 :: [k6])) := ⟨f1, .inr (.inr f2)⟩
        obtain ⟨z1, z2⟩ := ends5_inf hx5
        have hz : (progP [122]).2.2 = false := by decide +kernel
        have htz := atom_term (k := k4) d1 (by rw [d2]; decide) (by rw [d2]; exact hz) 63 z1 z2 []
        rw [if_pos (by show isM k3 [124] = true; unfold isM; rw [c1, c2]; rfl)]
        show (match termP 64 999 (k4 :: [k5, k6], []) with | .error e => _ | .ok (r, s2) => _) = _
        rw [htz]
        dsimp only
        unfold expectP
        rw [if_pos (by show isM k5 [93] = true; unfold isM; rw [f1, f2]; rfl), d2]
        rfl
  obtain ⟨k, hk, hL⟩ := key
  refine ⟨k, hk, ?_⟩
  rw [term_e1]
  have ho : operandP (termP 64) 1200 (k0 :: l0, []) = .ok ((consAll (ds.map leafD) (if b = true then .leaf 3 0 [122] else nilT), 0), ([k], [])) := by
    unfold operandP
    dsimp only
    rw [if_neg (by show ¬ k0.kind = 1; omega), if_neg (by show ¬ k0.kind = 2; omega), if_neg (by show ¬ k0.kind = 3; omega), if_neg (by show ¬ k0.kind = 4; omega)]
    unfold markedP
    rw [if_neg (by show ¬ isM k0 [40] = true; unfold isM; rw [a2]; simp), if_pos (by show isM k0 [91] = true; unfold isM; rw [a1, a2]; rfl)]
    show zeroP (listP (termP 64) (l0, [])) = _
    rw [hL]; rfl
  rw [ho]
  show loopP (termP 64) 1200 1 _ 0 ([k], []) = _
  rw [loop_stop _ _ _ _ _ _ (.inl (by show (infixK k).2.2.2 = false; rw [infix_dull (.inl hk)]))]
theorem lists {ds : List Nat} (hd : ∀ e ∈ ds, e < 10) (hn : ds.length ≤ 100) (b : Bool) (hb : b = true → ds ≠ []) : oneP (listL ds b) = .ok (consAll (ds.map leafD) (if b = true then .leaf 3 0 [122] else nilT), []) := by
  obtain ⟨h1, h2⟩ := toks_list hd hn b
  have hl := list_len hn b
  have he : endP (listL ds b) = listL ds b ++ [32, 46] := by
    unfold endP; rw [toksD_small (by omega), h1]; dsimp only; unfold listT; rw [show ∀ (t : List Tok) (x y : Nat), endsB (t ++ [⟨5, [93], x, y⟩]) = false from fun t x y => by unfold endsB; rw [List.getLast?_concat]; rfl]; rfl
  refine oneP_of (by rw [he, toksD_small (by simp; omega), h2]) ?_
  have hct : ∀ (es : List Nat) (n : Nat), (ctoks es n).map (fun t => (t.kind, t.text)) = items es := by
    intro es
    induction es with
    | nil => intro n; rfl
    | cons e es ih => intro n; simp only [ctoks, List.map_cons, ih]; rfl
  obtain ⟨k, hk, ht⟩ := list_term hd b hb (l := ab (listT ds b ++ [⟨6, [46], (listL ds b).length + 1, (listL ds b).length + 2⟩])) (by
    rw [ab_kt]
    unfold listT
    cases ds with
    | nil => cases b with
      | false => rfl
      | true => exact absurd rfl (hb rfl)
    | cons e es => cases b <;> simp [bodyT, restT, hct])
  exact sent_of hk ht
end Go.Proofs.YtcdmmcogegnieaaGreatDoor.rd
end
section
/- A slice of bytes that comes in. -/
namespace Go.Proofs.YtcdmmcogegnieaaGreatDoor.ls
open Go.RowKit Go.ChangeShapes

/-- the slice at a holds these bytes -/
def URow (w : World) (a : Option Addr) (cap : Nat) (z : List Nat) : Prop :=
  z.length ≤ cap ∧ cap ≤ maxLen ∧ (∀ x ∈ z, x ≤ 255) ∧ ∀ i (_ : i < z.length), ∃ x, a = some x ∧ x.block < w.heap.size ∧ w.cell? (x.add i) = some (.int .u8 (z.getD i 0 : Nat))
section
variable {H : Type} {enc : TypeId × Value → H} {P : Program} {w : World}
theorem urow_of {t e : TypeId} {v : Value} {d : DataW H} {p : List MemPlace} {a : Option Addr} {len cap : Nat} (ht : P.underlying t = some (.slice e)) (he : P.underlying e = some (.int .u8)) (hc : P.cellsOf e = 1) (hv : v = .slice a len cap)
    (h : DataW.Trod enc P w 0 (fun _ => true) true t v d p) : ∃ z : List Nat, z.length = len ∧ URow w a cap z := by
  subst hv
  obtain ⟨fuel, hf⟩ := h
  rcases open_ints ht he hc hf with ⟨hcs, _⟩ | ⟨ad, len', cap', zs, hcs, hb, hl, hm, hn, _, hcell, hwf⟩
  · simp [Value.cells] at hcs
    obtain ⟨rfl, rfl, rfl⟩ := hcs
    exact ⟨[], rfl, Nat.le_refl _, Nat.zero_le _, (fun x hx => nomatch hx), fun i hi => absurd hi (Nat.not_lt_zero _)⟩
  · simp [Value.cells] at hcs
    obtain ⟨rfl, rfl, rfl⟩ := hcs
    simp only [if_true] at hn
    have e1 : IntKind.u8.min = 0 := rfl
    have e2 : IntKind.u8.max = 255 := rfl
    have hr : ∀ n ∈ zs, 0 ≤ n ∧ n ≤ 255 := fun n hx => by have := hwf n hx; simpa [Lit.wf, e1, e2] using this
    refine ⟨(zs.take len).map Int.toNat, by rw [List.length_map, List.length_take]; omega, by rw [List.length_map, List.length_take]; omega, hm, fun x hx => ?_, fun i hi => ?_⟩
    · obtain ⟨n, hn1, rfl⟩ := List.mem_map.1 hx
      have := hr n (List.mem_of_mem_take hn1)
      omega
    · rw [List.length_map, List.length_take] at hi
      have hc := hcell i (by omega)
      refine ⟨ad, rfl, by have h := World.block_lt_of_cell? w _ hc; unfold Addr.add at h; split at h <;> exact h, ?_⟩
      rw [hc]
      have hiz : i < zs.length := by omega
      have := hr zs[i] (List.getElem_mem hiz)
      simp [hiz, show i < len by omega]
      omega
end
end Go.Proofs.YtcdmmcogegnieaaGreatDoor.ls
end
section
/- ReadLists: its walk. -/
namespace Go.Proofs.YtcdmmcogegnieaaGreatDoor.ls
open Go.RowKit
open Go.Proofs.YtcdmmcogegnieaaGreatDoor.rd
open Go.Proofs.YtcdmmcogegnieaaGreatDoor.rr
open Go.Proofs.YtcdmmcogegnieaaGreatDoor.op (bs strC Both bs_data)
open Go.Proofs.YtcdmmcogegnieaaGreatDoor.lx (cell_at ieq_yes ieq_no GM toksD cat_data dtx bodyL body_snoc restL listL)
open Go.Proofs.YtcdmmcogegnieaaGreatDoor.tx (ten ten_cut)
open Go.Proofs.YtcdmmcogegnieaaGreatDoor.rr (consAll_drop)
set_option maxRecDepth 20000

/-- the digits that the law takes -/
def dgs (z : List Nat) : List Nat := z.map (· % 10)
theorem dgs_lt (z : List Nat) : ∀ d ∈ dgs z, d < 10 := fun d hd => by
  obtain ⟨x, _, rfl⟩ := List.mem_map.1 hd
  exact Nat.mod_lt _ (by decide)
theorem bs_app (a b : List UInt8) : bs a ++ bs b = bs (a ++ b) := by apply ByteArray.ext; unfold bs; simp
theorem ten_bs (d : Nat) (h : d < 10) : ten.extract d (d + 1) = bs [UInt8.ofNat (48 + d)] := by
  rw [ten_cut d h]
  unfold tx.dig
  rw [Nat.mod_eq_of_lt h]; rfl
theorem take_dgs (z : List Nat) {i : Nat} (hi : i < z.length) : dgs (z.take (i + 1)) = dgs (z.take i) ++ [z.getD i 0 % 10] := by
  rw [List.take_succ_eq_append_getElem hi]; unfold dgs; rw [List.map_append, show z.getD i 0 = z[i] by simp [hi]]; rfl
/-- the text so far -/
def sofar (z : List Nat) (i : Nat) : ByteArray := bs (91 :: bodyL (dgs (z.take i)))
theorem sofar0 (z : List Nat) : sofar z 0 = ⟨#[91]⟩ := rfl
theorem sofar_first (z : List Nat) (h : 0 < z.length) : sofar z 0 ++ ⟨#[97]⟩ ++ ten.extract (z.getD 0 0 % 10) (z.getD 0 0 % 10 + 1) = sofar z (0 + 1) := by
  rw [ten_bs _ (Nat.mod_lt _ (by decide))]
  unfold sofar
  rw [take_dgs z h, show (⟨#[97]⟩ : ByteArray) = bs [97] from rfl, bs_app, bs_app]
  rfl
theorem sofar_next (z : List Nat) {i : Nat} (hi : i < z.length) (h0 : 0 < i) : sofar z i ++ ⟨#[44]⟩ ++ ⟨#[97]⟩ ++ ten.extract (z.getD i 0 % 10) (z.getD i 0 % 10 + 1) = sofar z (i + 1) := by
  rw [ten_bs _ (Nat.mod_lt _ (by decide))]
  unfold sofar
  have h1 : (dgs (z.take i)).length = i := by unfold dgs; rw [List.length_map, List.length_take]; omega
  have h2 : dgs (z.take i) ≠ [] := fun e => by rw [e] at h1; simp at h1; omega
  rw [take_dgs z hi, body_snoc _ h2, show (⟨#[97]⟩ : ByteArray) = bs [97] from rfl, show (⟨#[44]⟩ : ByteArray) = bs [44] from rfl, bs_app, bs_app, bs_app]
  simp [dtx]
theorem sofar_size (z : List Nat) (i : Nat) (hi : i ≤ 60) : (sofar z i).size ≤ 400 := by
  show (91 :: bodyL (dgs (z.take i))).length ≤ 400
  have : (dgs (z.take i)).length ≤ 60 := by unfold dgs; simp; omega
  generalize dgs (z.take i) = d at *
  cases d with
  | nil => simp [bodyL]
  | cons x d => simp [bodyL, lx.cm_len, dtx] at *; omega
theorem dgs_ne {z : List Nat} (h : 0 < z.length) : dgs z ≠ [] := fun e => by
  have h1 : (dgs z).length = z.length := by unfold dgs; simp
  rw [e] at h1; simp at h1; omega
theorem text_true (z : List Nat) : (sofar z z.length ++ ⟨#[124, 122]⟩ ++ ⟨#[93]⟩ : ByteArray).data.toList = listL (dgs z) true := by
  unfold sofar listL restL
  rw [List.take_length, show (⟨#[124, 122]⟩ : ByteArray) = bs [124, 122] from rfl, show (⟨#[93]⟩ : ByteArray) = bs [93] from rfl, bs_app, bs_app]
  simp [bs]
theorem text_false (z : List Nat) : (sofar z z.length ++ ⟨#[93]⟩ : ByteArray).data.toList = listL (dgs z) false := by
  unfold sofar listL restL
  rw [List.take_length, show (⟨#[93]⟩ : ByteArray) = bs [93] from rfl, bs_app]
  simp [bs]
theorem name_eq (d : Nat) (h : d < 10) : (⟨#[97]⟩ ++ ten.extract d (d + 1) : ByteArray) = bs (dtx d) := by
  rw [ten_bs d h, show (⟨#[97]⟩ : ByteArray) = bs [97] from rfl, bs_app]; rfl
theorem elem_D {D : Nat → Prop} {w : World} {s : List UInt8} {l : List T} {g n c : Nat} (h : Rp D w (.cmp s l) (.slice (some ⟨g, 0, none⟩) n c)) (_hl : 0 < l.length) : D g := by
  rw [Rp] at h
  obtain ⟨az, _, h2, _⟩ := h
  exact h2 g rfl
set_option maxHeartbeats 4000000 in
theorem lists_w (a : Option Addr) (cap : Nat) (z : List Nat) (b : Bool) (w : World) (hz : URow w a cap z) (hb : Both w) (hg : GM w) :
    Calls Tryz.prog 4 #[.slice a z.length cap, .bool b] w fun e w' => e = .returned (.bool true) ∧ Below w.heap.size w w' := by
  by_cases hbig : z.length > 60
  · clear hg hb
    go_enter Tryz.func4, Tryz.ntmps4
    go_wp2
    go_ret
    exact ⟨rfl, Below.refl _ _⟩
  have hp := lx.heap_pos hg
  have HZ := Lib.hid hz
  have HBo := Lib.hid hb
  have HG := Lib.hid hg
  have hcap := hz.1
  clear hg hb hz
  go_enter Tryz.func4, Tryz.ntmps4
  go_wp2
  go_loopg [5, 6] z.length (fun k s v wr => ∃ i : Nat, k = z.length - i ∧ i ≤ z.length ∧ s = .string (sofar z i) ∧ v = .int .i64 i ∧ Hid (Below w.heap.size w wr))
  case atStart => exact ⟨0, by omega, by omega, rfl, rfl, Lib.hid (Below.refl _ _)⟩
  case round =>
    obtain ⟨i, hgk, hi, rfl, rfl, HW⟩ := hrel
    have hsz := sofar_size z i (by omega)
    by_cases hlt : i < z.length
    · have hlt2 : (i : Int) < z.length := by omega
      have i4 : (0 : Int) ≤ (i : Int) := by omega
      obtain ⟨x, rfl, hxb, hc⟩ := HZ.out.2.2.2 i hlt
      have hx255 := HZ.out.2.2.1 (z.getD i 0) (by simp [hlt])
      have hc2 := (HW.out.cell (World.block_lt_of_cell? w _ hc)).trans hc
      clear hc
      have hfi := sofar_first z
      have hne := sofar_next z hlt
      have HF := Lib.hid hfi
      have HN := Lib.hid hne
      clear hfi hne
      have hd : z.getD i 0 % 10 < 10 := Nat.mod_lt _ (by decide)
      by_cases h0 : i = 0
      · subst h0
        generalize hzi : z.getD 0 0 = e at *
        have ha0 : x.add 0 = x := by simp [Addr.add]
        have hc3 : wr.cell? x = some (.int .u8 (e : Nat)) := by rw [← ha0]; exact hc2
        have h00 : ((0 : Nat) : Int) = 0 := rfl
        go_wp2_with fail
        go_quiet (fail)
        go_wp2
        go_roundg (z.length - (0 + 1))
        case measure => omega
        case rel => exact ⟨0 + 1, rfl, by omega, by rw [← HF.out hlt]; rfl, by go_num, Lib.hid (HW.out.trans (below_drawn ..))⟩
      · have hp0 : (0 : Int) < (i : Int) := by omega
        generalize hzi : z.getD i 0 = e at *
        go_wp2_with fail
        go_quiet (fail)
        go_wp2
        go_roundg (z.length - (i + 1))
        case measure => omega
        case rel => exact ⟨i + 1, rfl, by omega, by rw [← HN.out (by omega)]; rfl, by go_num, Lib.hid (HW.out.trans (below_drawn ..))⟩
    · obtain rfl : i = z.length := by omega
      have hlt2 : ¬ ((z.length : Int) < z.length) := by omega
      have hz60 : z.length ≤ 60 := by omega
      clear hlt
      by_cases hn : 0 < z.length
      · have hn2 : (0 : Int) < (z.length : Int) := by omega
        cases b with
        | true =>
          have HNE : true = true → dgs z ≠ [] := fun _ => dgs_ne hn
          have o1 := fun w h1 h2 => one_u (sofar z z.length ++ ⟨#[124, 122]⟩ ++ ⟨#[93]⟩) w h1 h2 (by rw [lx.size_of (text_true z)]; have := (lx.list_len (ds := dgs z) (by unfold dgs; rw [List.length_map]; omega) true).1; omega)
          have o2 := fun w h1 h2 => rone_u (sofar z z.length ++ ⟨#[124, 122]⟩ ++ ⟨#[93]⟩) w h1 h2 (by rw [lx.size_of (text_true z)]; have := (lx.list_len (ds := dgs z) (by unfold dgs; rw [List.length_map]; omega) true).1; omega)
          rw [text_true, lists (dgs_lt z) (by unfold dgs; rw [List.length_map]; omega) true HNE] at o1 o2
          have hL : ∀ i, i < z.length → ((dgs z).map leafD).getD i dfT = leafD (z.getD i 0 % 10) := fun i hi => by unfold dgs; simp [hi]
          have hLl : ((dgs z).map leafD).length = z.length := by unfold dgs; simp
          rw [show (if true = true then T.leaf 3 0 [122] else nilT) = (T.leaf 3 0 [122]) from rfl] at o1 o2
          generalize (dgs z).map leafD = LL at *
          have HL := Lib.hid hL
          have HLl := Lib.hid hLl
          clear hL hLl
          go_wp2_with fail
          refine (o1 _ (HBo.out.kept HW.out) (HG.out.below HW.out hp)).mono ?_
          rintro e w1 ⟨t1, p1, m1, c1, q1, n1, d1, z1, k1, rfl, hT1, hb1, hS1⟩
          have hbx1 := (Below.refl w1.heap.size w1).alloc (Nat.le_refl _) (.cells #[.int .i64 (t1.k : Nat), .int .i64 t1.n, .string (bs t1.s), .slice p1 m1 c1, .slice q1 n1 d1] 27)
          have HT1 := Lib.hid (hT1.kept (Kt.below hbx1))
          have HC1 := Lib.hid (heap_alloc_new w1 (.cells #[.int .i64 (t1.k : Nat), .int .i64 t1.n, .string (bs t1.s), .slice p1 m1 c1, .slice q1 n1 d1] 27))
          have HS1 := Lib.hid hS1
          have HB1 := Lib.hid ((HW.out.trans (hb1.mono HW.out.size)).trans (hbx1.mono (Nat.le_trans HW.out.size hb1.size)))
          clear hT1 hb1 hbx1 hS1
          go_wp2_with fail
          generalize World.alloc w1 _ = W1 at *
          generalize w1.heap.size = B1 at *
          refine (o2 _ (HBo.out.kept HB1.out) (by have := HB1.out.size; omega)).mono ?_
          rintro e w2 ⟨t2, p2, m2, c2, q2, n2, d2, z2, k2, rfl, hT2, hb2, hS2⟩
          have hbx2 := (Below.refl w2.heap.size w2).alloc (Nat.le_refl _) (.cells #[.int .i64 (t2.k : Nat), .int .i64 t2.n, .string (bs t2.s), .slice p2 m2 c2, .slice q2 n2 d2] 27)
          have HT2 := Lib.hid (hT2.kept (Kt.below hbx2))
          have HC2 := Lib.hid (heap_alloc_new w2 (.cells #[.int .i64 (t2.k : Nat), .int .i64 t2.n, .string (bs t2.s), .slice p2 m2 c2, .slice q2 n2 d2] 27))
          have HS2 := Lib.hid hS2
          have HB2 := Lib.hid ((HB1.out.trans (hb2.mono HB1.out.size)).trans (hbx2.mono (Nat.le_trans HB1.out.size hb2.size)))
          have HT1' := Lib.hid ((HT1.out.kept (Kt.below hb2)).kept (Kt.below hbx2))
          have HC1' := Lib.hid (Kt.below hbx2 _ _ _ (Kt.below hb2 _ _ _ HC1.out))
          clear HT1 HC1
          have HT1 := HT1'
          have HC1 := HC1'
          clear HT1' HC1'
          clear hT2 hb2 hbx2 hS2
          clear o1 o2
          obtain ⟨rfl, rfl⟩ := HS1.out
          obtain ⟨rfl, rfl⟩ := HS2.out
          clear HS1 HS2
          have hTT := Lib.hid (show consAll LL (T.leaf 3 0 [122]) = consAll (LL.drop 0) (T.leaf 3 0 [122]) from rfl)
          generalize hTe : (consAll LL (T.leaf 3 0 [122]), ([] : List (List UInt8))).1 = TT at *
          rw [show consAll LL (T.leaf 3 0 [122]) = TT from hTe] at hTT
          clear hTe
          obtain ⟨x0, x1, x2, x3, x4, _⟩ := cells5 HC1.out
          obtain ⟨y0, y1, y2, y3, y4, _⟩ := cells5 HC2.out
          have ka := same_all TT (.slice p1 m1 c1) (.slice p2 m2 c2) _ HT1.out HT2.out
          unfold tV at ka
          go_wp2_with fail
          generalize World.alloc w2 _ = W2 at *
          generalize w2.heap.size = B2 at *
          refine ka.mono ?_
          rintro e w3 ⟨rfl, hb3⟩
          have HC3 := Lib.hid (Kt.below hb3 _ _ _ HC1.out)
          have HR3 := Lib.hid ((HT1.out.kept (Kt.below hb3)).imp (D' := fun k => k < w3.heap.size) fun k hk _ => hk)
          have HB3 := Lib.hid (HB2.out.trans (hb3.mono HB2.out.size))
          clear hb3 ka x0 x1 x2 x3 x4 y0 y1 y2 y3 y4 HC1 HC2 HT1 HT2
          obtain ⟨x0, x1, x2, x3, x4, _⟩ := cells5 HC3.out
          have hba := (Below.refl w3.heap.size w3).alloc (Nat.le_refl _) (.cells #[.int .i64 (TT.k : Nat), .int .i64 TT.n, .string (bs TT.s), .slice p1 m1 c1] 25)
          have HC4 := Lib.hid (heap_alloc_new w3 (.cells #[.int .i64 (TT.k : Nat), .int .i64 TT.n, .string (bs TT.s), .slice p1 m1 c1] 25))
          have HR4 := Lib.hid (HR3.out.kept (Kt.below hba))
          have HB4 := Lib.hid (HB3.out.trans (hba.mono HB3.out.size))
          have hw3 := HB3.out.size
          clear hba HR3 HB3 HC3
          go_wp2
          generalize World.alloc w3 _ = W4 at *
          generalize hB4 : w3.heap.size = B4 at *
          clear x0 x1 x2 x3 x4
          go_loopg [14] z.length (fun k v wr => ∃ (i : Nat) (t : T) (p : Option Addr) (m c : Nat), k = z.length - i ∧ i ≤ z.length ∧ v = .int .i64 i ∧ Hid (t = consAll (LL.drop i) (T.leaf 3 0 [122])) ∧ Hid (wr.heap[B4]? = some (.cells #[.int .i64 (t.k : Nat), .int .i64 t.n, .string (bs t.s), .slice p m c] 25 (0, 0))) ∧ Hid (Rp (fun k => k < B4) wr t (.slice p m c)) ∧ Hid (Below w.heap.size w wr))
          case atStart => exact ⟨0, TT, p1, m1, c1, by omega, by omega, rfl, hTT, HC4, HR4, HB4⟩
          case round =>
            clear hTT HC4 HR4 HB4
            obtain ⟨i, t, p, m, c, hgk, hi, rfl, Ht, HC, HR, HW⟩ := hrel
            by_cases hlt : i < z.length
            · have hlt2 : (i : Int) < z.length := by omega
              have i4 : (0 : Int) ≤ (i : Int) := by omega
              obtain ⟨x, hxa, hxb, hc⟩ := HZ.out.2.2.2 i hlt
              subst hxa
              have hx255 := HZ.out.2.2.1 (z.getD i 0) (by simp [hlt])
              have hc2 := (HW.out.cell (World.block_lt_of_cell? w _ hc)).trans hc
              clear hc
              have hd : z.getD i 0 % 10 < 10 := Nat.mod_lt _ (by decide)
              have hcons := consAll_drop (l := LL) (m := i) (by rw [HLl.out]; exact hlt) (T.leaf 3 0 [122])
              rw [HL.out i hlt] at hcons
              have ht2 : t = .cmp [46] [leafD (z.getD i 0 % 10), consAll (LL.drop (i + 1)) (T.leaf 3 0 [122])] := Ht.out.trans hcons
              subst ht2
              clear hcons Ht
              obtain ⟨g, cap', p0, m0, c0, hv, hcp, hgl, hR0, d0, d1, h2, d3⟩ := elem HR.out (i := 0) (by simp)
              obtain ⟨g', cap'', p9, m9, c9, hv', _, _, hR1, r0, r1, r2, r3⟩ := elem HR.out (i := 1) (by simp)
              obtain ⟨rfl, rfl, rfl⟩ : p = some ⟨g, 0, none⟩ ∧ m = 2 ∧ c = cap' := by simpa using hv
              obtain ⟨rfl, _⟩ : g = g' ∧ c = cap'' := by simpa using hv'
              generalize hT1 : consAll (LL.drop (i + 1)) (T.leaf 3 0 [122]) = T1 at *
              have HT1 := Lib.hid hT1.symm
              clear hT1
              rw [show ([leafD (z.getD i 0 % 10), T1].getD 1 dfT) = T1 from rfl] at hR1 r0 r1 r2
              have d2 : wr.cell? ⟨g, 2, none⟩ = some (.string (bs (dtx (z.getD i 0 % 10)))) := h2
              have f0 : wr.cell? ⟨g, 4, none⟩ = some (.int .i64 (T1.k : Nat)) := r0
              have f1 : wr.cell? ⟨g, 5, none⟩ = some (.int .i64 T1.n) := r1
              have f2 : wr.cell? ⟨g, 6, none⟩ = some (.string (bs T1.s)) := r2
              have f3 : wr.cell? ⟨g, 7, none⟩ = some (.slice p9 m9 c9) := r3
              clear h2 r0 r1 r2 r3
              obtain ⟨v0, b1, v2, b3, bf⟩ := cells4 HC.out
              have b0 : wr.cell? ⟨B4, 0, none⟩ = some (.int .i64 4) := v0
              have b2 : wr.cell? ⟨B4, 2, none⟩ = some (.string ⟨#[46]⟩) := v2
              clear v0 v2
              have htx := name_eq (z.getD i 0 % 10) hd
              have HR1 := Lib.hid hR1
              have nB : ¬ g = B4 := by have := (elem_D HR.out (by simp)); omega
              clear hv hv' hR0 hR1 d0 d1 d3 HR
              generalize z.getD i 0 = e at *
              have htx2 : ((⟨#[97]⟩ : ByteArray) ++ (⟨#[48, 49, 50, 51, 52, 53, 54, 55, 56, 57]⟩ : ByteArray).extract (e % 10) (e % 10 + 1)) = bs (dtx (e % 10)) := htx
              clear htx
              go_wp2_with fail
              go_quiet (fail)
              go_wp2
              have hnB : ¬ B4 < B4 := Nat.lt_irrefl _
              go_roundg (z.length - (i + 1))
              case measure => omega
              case rel => exact ⟨i + 1, T1, p9, m9, c9, rfl, by omega, by go_num, HT1, Lib.hid (rd.set4 (show (wr.drewN _).heap[B4]? = _ from HC.out) _ _ _ _), Lib.hid (((((HR1.out.kept (Kt.below (below_drawn _ _ _))).set (p := ⟨B4, 0, none⟩) hnB _).set (p := ⟨B4, 1, none⟩) hnB _).set (p := ⟨B4, 2, none⟩) hnB _).set (p := ⟨B4, 3, none⟩) hnB _), Lib.hid (below4 (HW.out.trans (below_drawn _ _ _)) hw3 _ _ _ _)⟩
            · have hlt2 : ¬ ((i : Int) < z.length) := by omega
              have hte : t = (T.leaf 3 0 [122]) := by rw [Ht.out, List.drop_eq_nil_of_le (by rw [HLl.out]; omega)]; rfl
              subst hte
              obtain ⟨v0, b1, v2, b3, bf⟩ := cells4 HC.out
              have b0 : wr.cell? ⟨B4, 0, none⟩ = some (.int .i64 3) := v0
              have b2 : wr.cell? ⟨B4, 2, none⟩ = some (.string ⟨#[122]⟩) := v2
              clear v0 v2
              go_wp2
              go_ret
              exact ⟨rfl, HW.out⟩
        | false =>
          have HNE : false = true → dgs z ≠ [] := fun h => by cases h
          have o1 := fun w h1 h2 => one_u (sofar z z.length ++ ⟨#[93]⟩) w h1 h2 (by rw [lx.size_of (text_false z)]; have := (lx.list_len (ds := dgs z) (by unfold dgs; rw [List.length_map]; omega) false).1; omega)
          have o2 := fun w h1 h2 => rone_u (sofar z z.length ++ ⟨#[93]⟩) w h1 h2 (by rw [lx.size_of (text_false z)]; have := (lx.list_len (ds := dgs z) (by unfold dgs; rw [List.length_map]; omega) false).1; omega)
          rw [text_false, lists (dgs_lt z) (by unfold dgs; rw [List.length_map]; omega) false HNE] at o1 o2
          have hL : ∀ i, i < z.length → ((dgs z).map leafD).getD i dfT = leafD (z.getD i 0 % 10) := fun i hi => by unfold dgs; simp [hi]
          have hLl : ((dgs z).map leafD).length = z.length := by unfold dgs; simp
          rw [show (if false = true then T.leaf 3 0 [122] else nilT) = nilT from rfl] at o1 o2
          generalize (dgs z).map leafD = LL at *
          have HL := Lib.hid hL
          have HLl := Lib.hid hLl
          clear hL hLl
          go_wp2_with fail
          refine (o1 _ (HBo.out.kept HW.out) (HG.out.below HW.out hp)).mono ?_
          rintro e w1 ⟨t1, p1, m1, c1, q1, n1, d1, z1, k1, rfl, hT1, hb1, hS1⟩
          have hbx1 := (Below.refl w1.heap.size w1).alloc (Nat.le_refl _) (.cells #[.int .i64 (t1.k : Nat), .int .i64 t1.n, .string (bs t1.s), .slice p1 m1 c1, .slice q1 n1 d1] 27)
          have HT1 := Lib.hid (hT1.kept (Kt.below hbx1))
          have HC1 := Lib.hid (heap_alloc_new w1 (.cells #[.int .i64 (t1.k : Nat), .int .i64 t1.n, .string (bs t1.s), .slice p1 m1 c1, .slice q1 n1 d1] 27))
          have HS1 := Lib.hid hS1
          have HB1 := Lib.hid ((HW.out.trans (hb1.mono HW.out.size)).trans (hbx1.mono (Nat.le_trans HW.out.size hb1.size)))
          clear hT1 hb1 hbx1 hS1
          go_wp2_with fail
          generalize World.alloc w1 _ = W1 at *
          generalize w1.heap.size = B1 at *
          refine (o2 _ (HBo.out.kept HB1.out) (by have := HB1.out.size; omega)).mono ?_
          rintro e w2 ⟨t2, p2, m2, c2, q2, n2, d2, z2, k2, rfl, hT2, hb2, hS2⟩
          have hbx2 := (Below.refl w2.heap.size w2).alloc (Nat.le_refl _) (.cells #[.int .i64 (t2.k : Nat), .int .i64 t2.n, .string (bs t2.s), .slice p2 m2 c2, .slice q2 n2 d2] 27)
          have HT2 := Lib.hid (hT2.kept (Kt.below hbx2))
          have HC2 := Lib.hid (heap_alloc_new w2 (.cells #[.int .i64 (t2.k : Nat), .int .i64 t2.n, .string (bs t2.s), .slice p2 m2 c2, .slice q2 n2 d2] 27))
          have HS2 := Lib.hid hS2
          have HB2 := Lib.hid ((HB1.out.trans (hb2.mono HB1.out.size)).trans (hbx2.mono (Nat.le_trans HB1.out.size hb2.size)))
          have HT1' := Lib.hid ((HT1.out.kept (Kt.below hb2)).kept (Kt.below hbx2))
          have HC1' := Lib.hid (Kt.below hbx2 _ _ _ (Kt.below hb2 _ _ _ HC1.out))
          clear HT1 HC1
          have HT1 := HT1'
          have HC1 := HC1'
          clear HT1' HC1'
          clear hT2 hb2 hbx2 hS2
          clear o1 o2
          obtain ⟨rfl, rfl⟩ := HS1.out
          obtain ⟨rfl, rfl⟩ := HS2.out
          clear HS1 HS2
          have hTT := Lib.hid (show consAll LL nilT = consAll (LL.drop 0) nilT from rfl)
          generalize hTe : (consAll LL nilT, ([] : List (List UInt8))).1 = TT at *
          rw [show consAll LL nilT = TT from hTe] at hTT
          clear hTe
          obtain ⟨x0, x1, x2, x3, x4, _⟩ := cells5 HC1.out
          obtain ⟨y0, y1, y2, y3, y4, _⟩ := cells5 HC2.out
          have ka := same_all TT (.slice p1 m1 c1) (.slice p2 m2 c2) _ HT1.out HT2.out
          unfold tV at ka
          go_wp2_with fail
          generalize World.alloc w2 _ = W2 at *
          generalize w2.heap.size = B2 at *
          refine ka.mono ?_
          rintro e w3 ⟨rfl, hb3⟩
          have HC3 := Lib.hid (Kt.below hb3 _ _ _ HC1.out)
          have HR3 := Lib.hid ((HT1.out.kept (Kt.below hb3)).imp (D' := fun k => k < w3.heap.size) fun k hk _ => hk)
          have HB3 := Lib.hid (HB2.out.trans (hb3.mono HB2.out.size))
          clear hb3 ka x0 x1 x2 x3 x4 y0 y1 y2 y3 y4 HC1 HC2 HT1 HT2
          obtain ⟨x0, x1, x2, x3, x4, _⟩ := cells5 HC3.out
          have hba := (Below.refl w3.heap.size w3).alloc (Nat.le_refl _) (.cells #[.int .i64 (TT.k : Nat), .int .i64 TT.n, .string (bs TT.s), .slice p1 m1 c1] 25)
          have HC4 := Lib.hid (heap_alloc_new w3 (.cells #[.int .i64 (TT.k : Nat), .int .i64 TT.n, .string (bs TT.s), .slice p1 m1 c1] 25))
          have HR4 := Lib.hid (HR3.out.kept (Kt.below hba))
          have HB4 := Lib.hid (HB3.out.trans (hba.mono HB3.out.size))
          have hw3 := HB3.out.size
          clear hba HR3 HB3 HC3
          go_wp2
          generalize World.alloc w3 _ = W4 at *
          generalize hB4 : w3.heap.size = B4 at *
          clear x0 x1 x2 x3 x4
          go_loopg [14] z.length (fun k v wr => ∃ (i : Nat) (t : T) (p : Option Addr) (m c : Nat), k = z.length - i ∧ i ≤ z.length ∧ v = .int .i64 i ∧ Hid (t = consAll (LL.drop i) nilT) ∧ Hid (wr.heap[B4]? = some (.cells #[.int .i64 (t.k : Nat), .int .i64 t.n, .string (bs t.s), .slice p m c] 25 (0, 0))) ∧ Hid (Rp (fun k => k < B4) wr t (.slice p m c)) ∧ Hid (Below w.heap.size w wr))
          case atStart => exact ⟨0, TT, p1, m1, c1, by omega, by omega, rfl, hTT, HC4, HR4, HB4⟩
          case round =>
            clear hTT HC4 HR4 HB4
            obtain ⟨i, t, p, m, c, hgk, hi, rfl, Ht, HC, HR, HW⟩ := hrel
            by_cases hlt : i < z.length
            · have hlt2 : (i : Int) < z.length := by omega
              have i4 : (0 : Int) ≤ (i : Int) := by omega
              obtain ⟨x, hxa, hxb, hc⟩ := HZ.out.2.2.2 i hlt
              subst hxa
              have hx255 := HZ.out.2.2.1 (z.getD i 0) (by simp [hlt])
              have hc2 := (HW.out.cell (World.block_lt_of_cell? w _ hc)).trans hc
              clear hc
              have hd : z.getD i 0 % 10 < 10 := Nat.mod_lt _ (by decide)
              have hcons := consAll_drop (l := LL) (m := i) (by rw [HLl.out]; exact hlt) nilT
              rw [HL.out i hlt] at hcons
              have ht2 : t = .cmp [46] [leafD (z.getD i 0 % 10), consAll (LL.drop (i + 1)) nilT] := Ht.out.trans hcons
              subst ht2
              clear hcons Ht
              obtain ⟨g, cap', p0, m0, c0, hv, hcp, hgl, hR0, d0, d1, h2, d3⟩ := elem HR.out (i := 0) (by simp)
              obtain ⟨g', cap'', p9, m9, c9, hv', _, _, hR1, r0, r1, r2, r3⟩ := elem HR.out (i := 1) (by simp)
              obtain ⟨rfl, rfl, rfl⟩ : p = some ⟨g, 0, none⟩ ∧ m = 2 ∧ c = cap' := by simpa using hv
              obtain ⟨rfl, _⟩ : g = g' ∧ c = cap'' := by simpa using hv'
              generalize hT1 : consAll (LL.drop (i + 1)) nilT = T1 at *
              have HT1 := Lib.hid hT1.symm
              clear hT1
              rw [show ([leafD (z.getD i 0 % 10), T1].getD 1 dfT) = T1 from rfl] at hR1 r0 r1 r2
              have d2 : wr.cell? ⟨g, 2, none⟩ = some (.string (bs (dtx (z.getD i 0 % 10)))) := h2
              have f0 : wr.cell? ⟨g, 4, none⟩ = some (.int .i64 (T1.k : Nat)) := r0
              have f1 : wr.cell? ⟨g, 5, none⟩ = some (.int .i64 T1.n) := r1
              have f2 : wr.cell? ⟨g, 6, none⟩ = some (.string (bs T1.s)) := r2
              have f3 : wr.cell? ⟨g, 7, none⟩ = some (.slice p9 m9 c9) := r3
              clear h2 r0 r1 r2 r3
              obtain ⟨v0, b1, v2, b3, bf⟩ := cells4 HC.out
              have b0 : wr.cell? ⟨B4, 0, none⟩ = some (.int .i64 4) := v0
              have b2 : wr.cell? ⟨B4, 2, none⟩ = some (.string ⟨#[46]⟩) := v2
              clear v0 v2
              have htx := name_eq (z.getD i 0 % 10) hd
              have HR1 := Lib.hid hR1
              have nB : ¬ g = B4 := by have := (elem_D HR.out (by simp)); omega
              clear hv hv' hR0 hR1 d0 d1 d3 HR
              generalize z.getD i 0 = e at *
              have htx2 : ((⟨#[97]⟩ : ByteArray) ++ (⟨#[48, 49, 50, 51, 52, 53, 54, 55, 56, 57]⟩ : ByteArray).extract (e % 10) (e % 10 + 1)) = bs (dtx (e % 10)) := htx
              clear htx
              go_wp2_with fail
              go_quiet (fail)
              go_wp2
              have hnB : ¬ B4 < B4 := Nat.lt_irrefl _
              go_roundg (z.length - (i + 1))
              case measure => omega
              case rel => exact ⟨i + 1, T1, p9, m9, c9, rfl, by omega, by go_num, HT1, Lib.hid (rd.set4 (show (wr.drewN _).heap[B4]? = _ from HC.out) _ _ _ _), Lib.hid (((((HR1.out.kept (Kt.below (below_drawn _ _ _))).set (p := ⟨B4, 0, none⟩) hnB _).set (p := ⟨B4, 1, none⟩) hnB _).set (p := ⟨B4, 2, none⟩) hnB _).set (p := ⟨B4, 3, none⟩) hnB _), Lib.hid (below4 (HW.out.trans (below_drawn _ _ _)) hw3 _ _ _ _)⟩
            · have hlt2 : ¬ ((i : Int) < z.length) := by omega
              have hte : t = nilT := by rw [Ht.out, List.drop_eq_nil_of_le (by rw [HLl.out]; omega)]; rfl
              subst hte
              obtain ⟨v0, b1, v2, b3, bf⟩ := cells4 HC.out
              have b0 : wr.cell? ⟨B4, 0, none⟩ = some (.int .i64 3) := v0
              have b2 : wr.cell? ⟨B4, 2, none⟩ = some (.string ⟨#[91, 93]⟩) := v2
              clear v0 v2
              go_wp2
              go_ret
              exact ⟨rfl, HW.out⟩
      · have hn2 : ¬ (0 : Int) < (z.length : Int) := by omega
        have HNE : false = true → dgs z ≠ [] := fun h => by cases h
        cases b with
        | true =>
          have o1 := fun w h1 h2 => one_u (sofar z z.length ++ ⟨#[93]⟩) w h1 h2 (by rw [lx.size_of (text_false z)]; have := (lx.list_len (ds := dgs z) (by unfold dgs; rw [List.length_map]; omega) false).1; omega)
          have o2 := fun w h1 h2 => rone_u (sofar z z.length ++ ⟨#[93]⟩) w h1 h2 (by rw [lx.size_of (text_false z)]; have := (lx.list_len (ds := dgs z) (by unfold dgs; rw [List.length_map]; omega) false).1; omega)
          rw [text_false, lists (dgs_lt z) (by unfold dgs; rw [List.length_map]; omega) false HNE] at o1 o2
          have hL : ∀ i, i < z.length → ((dgs z).map leafD).getD i dfT = leafD (z.getD i 0 % 10) := fun i hi => by unfold dgs; simp [hi]
          have hLl : ((dgs z).map leafD).length = z.length := by unfold dgs; simp
          rw [show (if false = true then T.leaf 3 0 [122] else nilT) = nilT from rfl] at o1 o2
          generalize (dgs z).map leafD = LL at *
          have HL := Lib.hid hL
          have HLl := Lib.hid hLl
          clear hL hLl
          go_wp2_with fail
          refine (o1 _ (HBo.out.kept HW.out) (HG.out.below HW.out hp)).mono ?_
          rintro e w1 ⟨t1, p1, m1, c1, q1, n1, d1, z1, k1, rfl, hT1, hb1, hS1⟩
          have hbx1 := (Below.refl w1.heap.size w1).alloc (Nat.le_refl _) (.cells #[.int .i64 (t1.k : Nat), .int .i64 t1.n, .string (bs t1.s), .slice p1 m1 c1, .slice q1 n1 d1] 27)
          have HT1 := Lib.hid (hT1.kept (Kt.below hbx1))
          have HC1 := Lib.hid (heap_alloc_new w1 (.cells #[.int .i64 (t1.k : Nat), .int .i64 t1.n, .string (bs t1.s), .slice p1 m1 c1, .slice q1 n1 d1] 27))
          have HS1 := Lib.hid hS1
          have HB1 := Lib.hid ((HW.out.trans (hb1.mono HW.out.size)).trans (hbx1.mono (Nat.le_trans HW.out.size hb1.size)))
          clear hT1 hb1 hbx1 hS1
          go_wp2_with fail
          generalize World.alloc w1 _ = W1 at *
          generalize w1.heap.size = B1 at *
          refine (o2 _ (HBo.out.kept HB1.out) (by have := HB1.out.size; omega)).mono ?_
          rintro e w2 ⟨t2, p2, m2, c2, q2, n2, d2, z2, k2, rfl, hT2, hb2, hS2⟩
          have hbx2 := (Below.refl w2.heap.size w2).alloc (Nat.le_refl _) (.cells #[.int .i64 (t2.k : Nat), .int .i64 t2.n, .string (bs t2.s), .slice p2 m2 c2, .slice q2 n2 d2] 27)
          have HT2 := Lib.hid (hT2.kept (Kt.below hbx2))
          have HC2 := Lib.hid (heap_alloc_new w2 (.cells #[.int .i64 (t2.k : Nat), .int .i64 t2.n, .string (bs t2.s), .slice p2 m2 c2, .slice q2 n2 d2] 27))
          have HS2 := Lib.hid hS2
          have HB2 := Lib.hid ((HB1.out.trans (hb2.mono HB1.out.size)).trans (hbx2.mono (Nat.le_trans HB1.out.size hb2.size)))
          have HT1' := Lib.hid ((HT1.out.kept (Kt.below hb2)).kept (Kt.below hbx2))
          have HC1' := Lib.hid (Kt.below hbx2 _ _ _ (Kt.below hb2 _ _ _ HC1.out))
          clear HT1 HC1
          have HT1 := HT1'
          have HC1 := HC1'
          clear HT1' HC1'
          clear hT2 hb2 hbx2 hS2
          clear o1 o2
          obtain ⟨rfl, rfl⟩ := HS1.out
          obtain ⟨rfl, rfl⟩ := HS2.out
          clear HS1 HS2
          have hTT := Lib.hid (show consAll LL nilT = consAll (LL.drop 0) nilT from rfl)
          generalize hTe : (consAll LL nilT, ([] : List (List UInt8))).1 = TT at *
          rw [show consAll LL nilT = TT from hTe] at hTT
          clear hTe
          obtain ⟨x0, x1, x2, x3, x4, _⟩ := cells5 HC1.out
          obtain ⟨y0, y1, y2, y3, y4, _⟩ := cells5 HC2.out
          have ka := same_all TT (.slice p1 m1 c1) (.slice p2 m2 c2) _ HT1.out HT2.out
          unfold tV at ka
          go_wp2_with fail
          generalize World.alloc w2 _ = W2 at *
          generalize w2.heap.size = B2 at *
          refine ka.mono ?_
          rintro e w3 ⟨rfl, hb3⟩
          have HC3 := Lib.hid (Kt.below hb3 _ _ _ HC1.out)
          have HR3 := Lib.hid ((HT1.out.kept (Kt.below hb3)).imp (D' := fun k => k < w3.heap.size) fun k hk _ => hk)
          have HB3 := Lib.hid (HB2.out.trans (hb3.mono HB2.out.size))
          clear hb3 ka x0 x1 x2 x3 x4 y0 y1 y2 y3 y4 HC1 HC2 HT1 HT2
          obtain ⟨x0, x1, x2, x3, x4, _⟩ := cells5 HC3.out
          have hba := (Below.refl w3.heap.size w3).alloc (Nat.le_refl _) (.cells #[.int .i64 (TT.k : Nat), .int .i64 TT.n, .string (bs TT.s), .slice p1 m1 c1] 25)
          have HC4 := Lib.hid (heap_alloc_new w3 (.cells #[.int .i64 (TT.k : Nat), .int .i64 TT.n, .string (bs TT.s), .slice p1 m1 c1] 25))
          have HR4 := Lib.hid (HR3.out.kept (Kt.below hba))
          have HB4 := Lib.hid (HB3.out.trans (hba.mono HB3.out.size))
          have hw3 := HB3.out.size
          clear hba HR3 HB3 HC3
          go_wp2
          generalize World.alloc w3 _ = W4 at *
          generalize hB4 : w3.heap.size = B4 at *
          clear x0 x1 x2 x3 x4
          go_loopg [14] z.length (fun k v wr => ∃ (i : Nat) (t : T) (p : Option Addr) (m c : Nat), k = z.length - i ∧ i ≤ z.length ∧ v = .int .i64 i ∧ Hid (t = consAll (LL.drop i) nilT) ∧ Hid (wr.heap[B4]? = some (.cells #[.int .i64 (t.k : Nat), .int .i64 t.n, .string (bs t.s), .slice p m c] 25 (0, 0))) ∧ Hid (Rp (fun k => k < B4) wr t (.slice p m c)) ∧ Hid (Below w.heap.size w wr))
          case atStart => exact ⟨0, TT, p1, m1, c1, by omega, by omega, rfl, hTT, HC4, HR4, HB4⟩
          case round =>
            clear hTT HC4 HR4 HB4
            obtain ⟨i, t, p, m, c, hgk, hi, rfl, Ht, HC, HR, HW⟩ := hrel
            by_cases hlt : i < z.length
            · exfalso; omega
            · have hlt2 : ¬ ((i : Int) < z.length) := by omega
              have hte : t = nilT := by rw [Ht.out, List.drop_eq_nil_of_le (by rw [HLl.out]; omega)]; rfl
              subst hte
              obtain ⟨v0, b1, v2, b3, bf⟩ := cells4 HC.out
              have b0 : wr.cell? ⟨B4, 0, none⟩ = some (.int .i64 3) := v0
              have b2 : wr.cell? ⟨B4, 2, none⟩ = some (.string ⟨#[91, 93]⟩) := v2
              clear v0 v2
              go_wp2
              go_ret
              exact ⟨rfl, HW.out⟩
        | false =>
          have o1 := fun w h1 h2 => one_u (sofar z z.length ++ ⟨#[93]⟩) w h1 h2 (by rw [lx.size_of (text_false z)]; have := (lx.list_len (ds := dgs z) (by unfold dgs; rw [List.length_map]; omega) false).1; omega)
          have o2 := fun w h1 h2 => rone_u (sofar z z.length ++ ⟨#[93]⟩) w h1 h2 (by rw [lx.size_of (text_false z)]; have := (lx.list_len (ds := dgs z) (by unfold dgs; rw [List.length_map]; omega) false).1; omega)
          rw [text_false, lists (dgs_lt z) (by unfold dgs; rw [List.length_map]; omega) false HNE] at o1 o2
          have hL : ∀ i, i < z.length → ((dgs z).map leafD).getD i dfT = leafD (z.getD i 0 % 10) := fun i hi => by unfold dgs; simp [hi]
          have hLl : ((dgs z).map leafD).length = z.length := by unfold dgs; simp
          rw [show (if false = true then T.leaf 3 0 [122] else nilT) = nilT from rfl] at o1 o2
          generalize (dgs z).map leafD = LL at *
          have HL := Lib.hid hL
          have HLl := Lib.hid hLl
          clear hL hLl
          go_wp2_with fail
          refine (o1 _ (HBo.out.kept HW.out) (HG.out.below HW.out hp)).mono ?_
          rintro e w1 ⟨t1, p1, m1, c1, q1, n1, d1, z1, k1, rfl, hT1, hb1, hS1⟩
          have hbx1 := (Below.refl w1.heap.size w1).alloc (Nat.le_refl _) (.cells #[.int .i64 (t1.k : Nat), .int .i64 t1.n, .string (bs t1.s), .slice p1 m1 c1, .slice q1 n1 d1] 27)
          have HT1 := Lib.hid (hT1.kept (Kt.below hbx1))
          have HC1 := Lib.hid (heap_alloc_new w1 (.cells #[.int .i64 (t1.k : Nat), .int .i64 t1.n, .string (bs t1.s), .slice p1 m1 c1, .slice q1 n1 d1] 27))
          have HS1 := Lib.hid hS1
          have HB1 := Lib.hid ((HW.out.trans (hb1.mono HW.out.size)).trans (hbx1.mono (Nat.le_trans HW.out.size hb1.size)))
          clear hT1 hb1 hbx1 hS1
          go_wp2_with fail
          generalize World.alloc w1 _ = W1 at *
          generalize w1.heap.size = B1 at *
          refine (o2 _ (HBo.out.kept HB1.out) (by have := HB1.out.size; omega)).mono ?_
          rintro e w2 ⟨t2, p2, m2, c2, q2, n2, d2, z2, k2, rfl, hT2, hb2, hS2⟩
          have hbx2 := (Below.refl w2.heap.size w2).alloc (Nat.le_refl _) (.cells #[.int .i64 (t2.k : Nat), .int .i64 t2.n, .string (bs t2.s), .slice p2 m2 c2, .slice q2 n2 d2] 27)
          have HT2 := Lib.hid (hT2.kept (Kt.below hbx2))
          have HC2 := Lib.hid (heap_alloc_new w2 (.cells #[.int .i64 (t2.k : Nat), .int .i64 t2.n, .string (bs t2.s), .slice p2 m2 c2, .slice q2 n2 d2] 27))
          have HS2 := Lib.hid hS2
          have HB2 := Lib.hid ((HB1.out.trans (hb2.mono HB1.out.size)).trans (hbx2.mono (Nat.le_trans HB1.out.size hb2.size)))
          have HT1' := Lib.hid ((HT1.out.kept (Kt.below hb2)).kept (Kt.below hbx2))
          have HC1' := Lib.hid (Kt.below hbx2 _ _ _ (Kt.below hb2 _ _ _ HC1.out))
          clear HT1 HC1
          have HT1 := HT1'
          have HC1 := HC1'
          clear HT1' HC1'
          clear hT2 hb2 hbx2 hS2
          clear o1 o2
          obtain ⟨rfl, rfl⟩ := HS1.out
          obtain ⟨rfl, rfl⟩ := HS2.out
          clear HS1 HS2
          have hTT := Lib.hid (show consAll LL nilT = consAll (LL.drop 0) nilT from rfl)
          generalize hTe : (consAll LL nilT, ([] : List (List UInt8))).1 = TT at *
          rw [show consAll LL nilT = TT from hTe] at hTT
          clear hTe
          obtain ⟨x0, x1, x2, x3, x4, _⟩ := cells5 HC1.out
          obtain ⟨y0, y1, y2, y3, y4, _⟩ := cells5 HC2.out
          have ka := same_all TT (.slice p1 m1 c1) (.slice p2 m2 c2) _ HT1.out HT2.out
          unfold tV at ka
          go_wp2_with fail
          generalize World.alloc w2 _ = W2 at *
          generalize w2.heap.size = B2 at *
          refine ka.mono ?_
          rintro e w3 ⟨rfl, hb3⟩
          have HC3 := Lib.hid (Kt.below hb3 _ _ _ HC1.out)
          have HR3 := Lib.hid ((HT1.out.kept (Kt.below hb3)).imp (D' := fun k => k < w3.heap.size) fun k hk _ => hk)
          have HB3 := Lib.hid (HB2.out.trans (hb3.mono HB2.out.size))
          clear hb3 ka x0 x1 x2 x3 x4 y0 y1 y2 y3 y4 HC1 HC2 HT1 HT2
          obtain ⟨x0, x1, x2, x3, x4, _⟩ := cells5 HC3.out
          have hba := (Below.refl w3.heap.size w3).alloc (Nat.le_refl _) (.cells #[.int .i64 (TT.k : Nat), .int .i64 TT.n, .string (bs TT.s), .slice p1 m1 c1] 25)
          have HC4 := Lib.hid (heap_alloc_new w3 (.cells #[.int .i64 (TT.k : Nat), .int .i64 TT.n, .string (bs TT.s), .slice p1 m1 c1] 25))
          have HR4 := Lib.hid (HR3.out.kept (Kt.below hba))
          have HB4 := Lib.hid (HB3.out.trans (hba.mono HB3.out.size))
          have hw3 := HB3.out.size
          clear hba HR3 HB3 HC3
          go_wp2
          generalize World.alloc w3 _ = W4 at *
          generalize hB4 : w3.heap.size = B4 at *
          clear x0 x1 x2 x3 x4
          go_loopg [14] z.length (fun k v wr => ∃ (i : Nat) (t : T) (p : Option Addr) (m c : Nat), k = z.length - i ∧ i ≤ z.length ∧ v = .int .i64 i ∧ Hid (t = consAll (LL.drop i) nilT) ∧ Hid (wr.heap[B4]? = some (.cells #[.int .i64 (t.k : Nat), .int .i64 t.n, .string (bs t.s), .slice p m c] 25 (0, 0))) ∧ Hid (Rp (fun k => k < B4) wr t (.slice p m c)) ∧ Hid (Below w.heap.size w wr))
          case atStart => exact ⟨0, TT, p1, m1, c1, by omega, by omega, rfl, hTT, HC4, HR4, HB4⟩
          case round =>
            clear hTT HC4 HR4 HB4
            obtain ⟨i, t, p, m, c, hgk, hi, rfl, Ht, HC, HR, HW⟩ := hrel
            by_cases hlt : i < z.length
            · exfalso; omega
            · have hlt2 : ¬ ((i : Int) < z.length) := by omega
              have hte : t = nilT := by rw [Ht.out, List.drop_eq_nil_of_le (by rw [HLl.out]; omega)]; rfl
              subst hte
              obtain ⟨v0, b1, v2, b3, bf⟩ := cells4 HC.out
              have b0 : wr.cell? ⟨B4, 0, none⟩ = some (.int .i64 3) := v0
              have b2 : wr.cell? ⟨B4, 2, none⟩ = some (.string ⟨#[91, 93]⟩) := v2
              clear v0 v2
              go_wp2
              go_ret
              exact ⟨rfl, HW.out⟩
end Go.Proofs.YtcdmmcogegnieaaGreatDoor.ls
end
