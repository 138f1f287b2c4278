/- An integer's text, read. Plain lists.; ReadNumbers: its walk.; Two operators between three atoms: every pair, by the kernel.; ReadOperators: its walk. -/
import Derived.Test.YtcdmmcogegnieaaGreatDoorQ22
set_option linter.unusedVariables false
set_option linter.unusedSimpArgs false
section
/- An integer's text, read. Plain lists. -/
namespace Go.Proofs.YtcdmmcogegnieaaGreatDoor.lx
open Go.Proofs.YtcdmmcogegnieaaGreatDoor.tx (Digs dec text digs_dec dec_ne)

theorem cl_dig {b : UInt8} (h : 48 ≤ b.toNat ∧ b.toNat ≤ 57) : cl b = 4 := by
  unfold cl cls
  rw [if_neg (by omega), if_neg (by omega), if_pos h]
theorem start_dig {M : Nat} {ts : List Tok} {n : Nat} {b : UInt8} (h : 48 ≤ b.toNat ∧ b.toNat ≤ 57) (hl : ts.length ≠ M) : start M ts n b = .go ts (.word 4 n [b]) := by
  have h4 := cl_dig h
  have n37 : b ≠ 37 := fun e => by subst e; simp at h
  have n47 : b ≠ 47 := fun e => by subst e; simp at h
  have n46 : b ≠ 46 := fun e => by subst e; simp at h
  unfold start opening
  rw [if_neg (by omega), if_neg n37, if_neg n47, if_neg (by omega), if_neg hl, if_neg (by omega), if_neg (by omega), if_neg (by omega), if_neg n46, h4]
theorem ans_digits {M : Nat} {l : List UInt8} (hd : Digs l) (h0 : l ≠ []) (r : List UInt8) {ts : List Tok} (n : Nat) (hl : ts.length ≠ M) : ans M (l ++ r) ts n .btw = ans M r ts (n + l.length) (.word 4 n l) := by
  cases l with
  | nil => exact absurd rfl h0
  | cons b l =>
    rw [List.cons_append, ans_cons, step, start_dig (hd b (by simp)) hl]
    dsimp only
    rw [ans_word M 4 n l r [b] ts (n + 1) (fun c hc => by rw [cl_dig (hd c (by simp [hc]))]; rfl)]
    rw [List.length_cons, show n + 1 + l.length = n + (l.length + 1) from by omega]
    rfl
/-- a minus sign ahead of digits -/
theorem ans_minus {M : Nat} {l : List UInt8} (hd : Digs l) (h0 : l ≠ []) (r : List UInt8) {ts : List Tok} (n : Nat) (hl : ts.length + 2 ≤ M) : ans M (45 :: l ++ r) ts n .btw = ans M (l ++ r) (ts ++ [⟨1, [45], n, n + 1⟩]) (n + 1) .btw := by
  have hs : start M ts n 45 = .go ts (.word 5 n [45]) := by
    unfold start opening
    rw [if_neg (by decide), if_neg (by decide), if_neg (by decide), if_neg (by decide), if_neg (by omega), if_neg (by decide), if_neg (by decide), if_neg (by decide), if_neg (by decide)]
    rfl
  rw [List.cons_append, ans_cons, step, hs]
  dsimp only
  rw [ans_word_end M 5 n (l ++ r) [45] ts (n + 1) (fun b q hb => by
    cases l with
    | nil => exact absurd rfl h0
    | cons c l =>
      rw [List.cons_append] at hb
      cases hb
      rw [cl_dig (hd b (by simp))]; rfl)]
  rfl
/-- the tokens of an integer's text at the place n -/
def intToks (a : Int) (n : Nat) : List Tok := if a < 0 then [⟨1, [45], n, n + 1⟩, ⟨3, dec a.natAbs, n + 1, n + 1 + (dec a.natAbs).length⟩] else [⟨3, dec a.natAbs, n, n + (dec a.natAbs).length⟩]
theorem intToks_len (a : Int) (n : Nat) : 1 ≤ (intToks a n).length ∧ (intToks a n).length ≤ 2 := by unfold intToks; split <;> simp
/-- behind an integer's text: what comes begins no digit -/
theorem ans_int {M : Nat} (a : Int) {r : List UInt8} (hr : ∀ b q, r = b :: q → joinB 4 (cl b) = false) {ts : List Tok} (n : Nat) (hl : ts.length + 2 ≤ M) : ans M (text a ++ r) ts n .btw = ans M r (ts ++ intToks a n) (n + (text a).length) .btw := by
  by_cases h : a < 0
  · rw [tx.text_neg h, ans_minus (digs_dec _) (dec_ne _) r n hl, ans_digits (digs_dec _) (dec_ne _) r (n + 1) (by simp; omega), ans_word_end M 4 (n + 1) r _ _ _ hr]
    unfold intToks
    rw [if_pos h, List.append_assoc, List.length_cons, show n + 1 + (dec a.natAbs).length = n + ((dec a.natAbs).length + 1) from by omega]
    rfl
  · rw [tx.text_pos h, ans_digits (digs_dec _) (dec_ne _) r n (by omega), ans_word_end M 4 n r _ _ _ hr]
    unfold intToks
    rw [if_neg h]
    rfl
theorem toks_int (a : Int) : toks (text a) = .ok (intToks a 0) := by
  have := ans_int (M := 1000) a (r := []) (fun _ _ h => by cases h) (ts := []) 0 (by simp)
  rw [List.append_nil] at this
  unfold toks
  rw [this]; rfl
theorem blank4 : ∀ b q (r : List UInt8), (32 :: r : List UInt8) = b :: q → joinB 4 (cl b) = false := fun b q r h => by cases h; decide
theorem ans_bdot (ts : List Tok) (n : Nat) (hl : ts.length < 1000) : ans 1000 [32, 46] ts n .btw = .ok (ts ++ [⟨6, [46], n + 1, n + 2⟩]) := by
  rw [ans_space, ans_cons, step]
  have hst : start 1000 ts (n + 1) 46 = .go ts (.dot (n + 1)) := by
    unfold start opening
    rw [if_neg (by decide), if_neg (by decide), if_neg (by decide), if_neg (by decide), if_neg (by omega), if_neg (by decide), if_neg (by decide), if_neg (by decide), if_pos rfl]
  rw [hst]; rfl
theorem toks_int_dot (a : Int) : toks (text a ++ [32, 46]) = .ok (intToks a 0 ++ [⟨6, [46], (text a).length + 1, (text a).length + 2⟩]) := by
  unfold toks
  rw [ans_int a (fun b q h => blank4 b q _ h) 0 (by simp), ans_bdot _ _ (by have := intToks_len a 0; simp; omega), List.nil_append, Nat.zero_add]
theorem toks_fun (a : Int) (e : List UInt8) (he : e = [] ∨ e = [32, 46]) : ∃ t : List Tok, toks ([102, 40, 32] ++ text a ++ [32, 41] ++ e) = .ok ([⟨1, [102], 0, 1⟩, ⟨4, [40], 1, 2⟩] ++ intToks a 3 ++ [⟨5, [41], 4 + (text a).length, 5 + (text a).length⟩] ++ t) ∧ (e = [] → t = []) ∧ (e = [32, 46] → t = [⟨6, [46], 6 + (text a).length, 7 + (text a).length⟩]) := by
  have hl := intToks_len a 3
  have h1 : toks ([102, 40, 32] ++ text a ++ [32, 41] ++ e) = ans 1000 (text a ++ 32 :: (41 :: e)) [⟨1, [102], 0, 1⟩, ⟨4, [40], 1, 2⟩] 3 .btw := by
    rw [show [102, 40, 32] ++ text a ++ [32, 41] ++ e = 102 :: 40 :: 32 :: (text a ++ 32 :: (41 :: e)) by simp]
    unfold toks
    rw [ans_cons, step]
    have hs : start 1000 [] 0 102 = .go [] (.word 2 0 [102]) := rfl
    rw [hs]
    dsimp only
    rw [ans_word_end 1000 2 0 _ [102] [] (0 + 1) (fun b q h => by cases h; decide)]
    rw [ans_cons, step]
    have hs2 : start 1000 ([] ++ [⟨kindOf 2, [102], 0, 0 + 1⟩]) (0 + 1) 40 = .go [⟨1, [102], 0, 1⟩, ⟨4, [40], 1, 2⟩] .btw := rfl
    rw [hs2]
    dsimp only
    rw [ans_space]
  rw [h1, ans_int a (fun b q h => blank4 b q _ h) 3 (by simp), ans_space, ans_cons, step, start_mark (by decide) (by decide) (by decide), if_neg (by simp; omega)]
  dsimp only
  rw [if_neg (fun h => absurd h.1 (by decide)), show 3 + (text a).length + 1 = 4 + (text a).length from by omega]
  rcases he with rfl | rfl
  · exact ⟨[], by rw [ans_nil, List.append_nil, show 4 + (text a).length + 1 = 5 + (text a).length from by omega]; rfl, fun _ => rfl, fun h => by cases h⟩
  · exact ⟨_, by rw [ans_bdot _ _ (by simp; omega), show 4 + (text a).length + 1 = 5 + (text a).length from by omega, show 5 + (text a).length + 1 = 6 + (text a).length from by omega, show 5 + (text a).length + 2 = 7 + (text a).length from by omega], (fun h => by cases h), fun _ => rfl⟩
end Go.Proofs.YtcdmmcogegnieaaGreatDoor.lx
namespace Go.Proofs.YtcdmmcogegnieaaGreatDoor.rd
open Go.Proofs.YtcdmmcogegnieaaGreatDoor.op (progI progP)
open Go.Proofs.YtcdmmcogegnieaaGreatDoor.nm (Fit)
open Go.Proofs.YtcdmmcogegnieaaGreatDoor.tx (Digs dec text digs_dec dec_ne parse_yes parseE parseV)
open Go.Proofs.YtcdmmcogegnieaaGreatDoor.lx (Tok Out toks toksD toksD_small intToks toks_int toks_int_dot toks_fun intToks_len)

theorem dec_pos {m : Nat} (h : 1 ≤ m) : ∃ c l, dec m = c :: l ∧ c ≠ 48 := by
  have key : ∀ m r, 1 ≤ m → ∃ c l, tx.decTo m r = c :: l ∧ c ≠ 48 := by
    intro m
    induction m using Nat.strongRecOn with
    | ind m ih =>
      intro r h
      by_cases h1 : m < 10
      · refine ⟨_, _, tx.decTo_lt h1 r, fun e => ?_⟩
        have := congrArg UInt8.toNat e
        rw [tx.dig_nat] at this
        simp at this
        omega
      · rw [tx.decTo_ge h1]; exact ih (m / 10) (by omega) _ (by omega)
  exact key m [] h
theorem trim_dec {m : Nat} (h : 1 ≤ m) : trim (dec m) = dec m := by
  obtain ⟨c, l, e, hc⟩ := dec_pos h
  rw [e]; unfold trim; rw [List.dropWhile_cons]; simp [hc]
theorem trim_dec0 : trim (dec 0) = [] := by unfold dec; rw [tx.decTo_lt (by decide)]; rfl
/-- an integer as the reader sees it -/
def intK (a : Int) : List K := if a < 0 then [⟨1, [45], true⟩, ⟨3, dec a.natAbs, false⟩] else [⟨3, dec a.natAbs, false⟩]
theorem intK_ab (a : Int) (n : Nat) (r : List Tok) : ab (intToks a n ++ r) = intK a ++ ab r := by
  unfold intToks intK
  split
  · rename_i h
    cases r with
    | nil => show [(⟨1, [45], nearB _ _⟩ : K), ⟨3, dec a.natAbs, false⟩] = _; simp [nearB, ab]
    | cons b r =>
      show (⟨1, [45], nearB _ _⟩ : K) :: ⟨3, dec a.natAbs, nearB _ b⟩ :: ab (b :: r) = _
      rw [near_no (a := ⟨3, _, _, _⟩) (by show (3 : Nat) ≠ 1; decide)]
      simp [nearB]
  · cases r with
    | nil => rfl
    | cons b r =>
      show (⟨3, dec a.natAbs, nearB _ b⟩ : K) :: ab (b :: r) = _
      rw [near_no (a := ⟨3, _, _, _⟩) (by show (3 : Nat) ≠ 1; decide)]; rfl
theorem term_e1 (d : Nat) (most : Int) (s : St) : termP (d + 1) most s = match operandP (termP d) most s with | .error e => .error e | .ok ((t, prio), s') => loopP (termP d) most s'.1.length t prio s' := rfl
theorem int_term {a : Int} (ha : Fit a) (d : Nat) (most : Int) {r : List K} (hr : (infixK (nx r)).2.2.2 = false) (nm : List (List UInt8)) : termP (d + 1) most (intK a ++ r, nm) = .ok (.leaf 2 a [], (r, nm)) := by
  have ho : operandP (termP d) most (intK a ++ r, nm) = .ok ((.leaf 2 a [], 0), (r, nm)) := by
    unfold intK
    split
    · rename_i h
      have hp : parseV (45 :: dec a.natAbs) = a ∧ parseE (45 :: dec a.natAbs) = 0 := parse_yes ha (by rw [tx.text_neg h])
      have ht := trim_dec (m := a.natAbs) (by omega)
      unfold operandP
      dsimp only
      rw [if_pos (by rfl)]
      unfold namedP
      dsimp only
      rw [if_neg (by show ¬ (3 : Nat) = 4; decide), if_pos ⟨rfl, rfl, rfl⟩]
      unfold intP
      show zeroP (if trim (dec a.natAbs) = [] then _ else if parseE ([45] ++ trim (dec a.natAbs)) = 0 then .ok (.leaf 2 (parseV ([45] ++ trim (dec a.natAbs))) [], (r, nm)) else .error 51) = _
      rw [ht, if_neg (dec_ne _), show [45] ++ dec a.natAbs = 45 :: dec a.natAbs from rfl, if_pos hp.2, hp.1]
      rfl
    · rename_i h
      have hp : parseV (dec a.natAbs) = a ∧ parseE (dec a.natAbs) = 0 := parse_yes ha (by rw [tx.text_pos h])
      unfold operandP
      dsimp only
      rw [if_neg (by show ¬ (3 : Nat) = 1; decide), if_neg (by show ¬ (3 : Nat) = 2; decide), if_pos (by rfl)]
      unfold intP
      show zeroP (if trim (dec a.natAbs) = [] then .ok (.leaf 2 0 [], (r, nm)) else if parseE ([] ++ trim (dec a.natAbs)) = 0 then .ok (.leaf 2 (parseV ([] ++ trim (dec a.natAbs))) [], (r, nm)) else .error 51) = _
      by_cases h0 : a.natAbs = 0
      · rw [h0, trim_dec0, if_pos rfl, show a = 0 by omega]; rfl
      · rw [trim_dec (by omega), if_neg (dec_ne _), List.nil_append, if_pos hp.2, hp.1]; rfl
  rw [term_e1, ho]
  show loopP (termP d) most r.length (.leaf 2 a []) 0 (r, nm) = _
  rw [loop_stop _ _ _ _ _ _ (.inl hr)]
theorem ends_int (a : Int) (n : Nat) : endsB (intToks a n) = false := by unfold intToks; split <;> rfl
/-- P5.1: an integer's text is that integer -/
theorem numbers {a : Int} (ha : Fit a) : oneP (text a) = .ok (.leaf 2 a [], []) := by
  have hl := tx.text_len ha
  have he : endP (text a) = text a ++ [32, 46] := by unfold endP; rw [toksD_small (by omega), toks_int]; dsimp only; rw [ends_int]; rfl
  refine oneP_of (ts := intToks a 0 ++ [⟨6, [46], (text a).length + 1, (text a).length + 2⟩]) (by rw [he, toksD_small (by simp; omega), toks_int_dot]) ?_
  rw [intK_ab]
  exact sent_of (k := en) rfl (int_term ha 64 1200 (r := [en]) rfl [])
theorem numbers_in {a : Int} (ha : Fit a) : oneP ([102, 40, 32] ++ text a ++ [32, 41]) = .ok (.cmp [102] [.leaf 2 a []], []) := by
  have hl := tx.text_len ha
  obtain ⟨t1, h1, e1, _⟩ := toks_fun a [] (.inl rfl)
  obtain ⟨t2, h2, _, e2⟩ := toks_fun a [32, 46] (.inr rfl)
  rw [e1 rfl, List.append_nil, List.append_nil] at h1
  rw [e2 rfl] at h2
  have he : endP ([102, 40, 32] ++ text a ++ [32, 41]) = [102, 40, 32] ++ text a ++ [32, 41] ++ [32, 46] := by
    unfold endP; rw [toksD_small (by simp; omega), h1]; dsimp only; rw [ends_mark]; rfl
  refine oneP_of (by rw [he, toksD_small (by simp; omega), h2]) ?_
  have hk : ab ([⟨1, [102], 0, 1⟩, ⟨4, [40], 1, 2⟩] ++ intToks a 3 ++ [⟨5, [41], 4 + (text a).length, 5 + (text a).length⟩] ++ [⟨6, [46], 6 + (text a).length, 7 + (text a).length⟩]) = ⟨1, [102], true⟩ :: ⟨4, [40], false⟩ :: (intK a ++ [bc, en]) := by
    have hi := intK_ab a 3 [⟨5, [41], 4 + (text a).length, 5 + (text a).length⟩, ⟨6, [46], 6 + (text a).length, 7 + (text a).length⟩]
    rw [List.append_assoc, List.append_assoc]
    rw [show (intToks a 3 ++ ([⟨5, [41], 4 + (text a).length, 5 + (text a).length⟩] ++ [⟨6, [46], 6 + (text a).length, 7 + (text a).length⟩]) : List Tok) = intToks a 3 ++ [⟨5, [41], 4 + (text a).length, 5 + (text a).length⟩, ⟨6, [46], 6 + (text a).length, 7 + (text a).length⟩] from rfl]
    have h0 : ∀ l : List Tok, ab ([⟨1, [102], 0, 1⟩, ⟨4, [40], 1, 2⟩] ++ l) = ⟨1, [102], true⟩ :: ⟨4, [40], false⟩ :: ab l := fun l => by
      rw [show ([⟨1, [102], 0, 1⟩, ⟨4, [40], 1, 2⟩] ++ l : List Tok) = [⟨1, [102], 0, 1⟩] ++ [⟨4, [40], 1, 2⟩] ++ l from rfl, ab_cut (by decide)]; rfl
    rw [h0, hi]
    rfl
  rw [hk]
  refine sent_of (k := en) rfl ?_
  rw [term_e1]
  have ho : operandP (termP 64) 1200 (⟨1, [102], true⟩ :: ⟨4, [40], false⟩ :: (intK a ++ [bc, en]), []) = .ok ((.cmp [102] [.leaf 2 a []], 0), ([en], [])) := by
    unfold operandP
    dsimp only
    rw [if_pos (by rfl)]
    unfold namedP
    dsimp only
    rw [if_pos (by rfl)]
    have hr : rowP (termP 64) (intK a ++ [bc, en], []) = .ok ([.leaf 2 a []], ([bc, en], [])) := by
      unfold rowP
      rw [int_term ha 63 999 (r := [bc, en]) rfl []]
      rfl
    show (match rowP (termP 64) (intK a ++ [bc, en], []) with | .error e => _ | .ok (l, s2) => _) = _
    rw [hr]
    rfl
  rw [ho]
  rfl
end Go.Proofs.YtcdmmcogegnieaaGreatDoor.rd
end
section
/- ReadNumbers: its walk. -/
namespace Go.Proofs.YtcdmmcogegnieaaGreatDoor.ls
open Go.RowKit
open Go.Proofs.YtcdmmcogegnieaaGreatDoor.rd
open Go.Proofs.YtcdmmcogegnieaaGreatDoor.rr
open Go.Proofs.YtcdmmcogegnieaaGreatDoor.op (bs strC Both bs_data)
open Go.Proofs.YtcdmmcogegnieaaGreatDoor.lx (cell_at ieq_yes ieq_no GM toksD cat_data)
open Go.Proofs.YtcdmmcogegnieaaGreatDoor.tx (text str)
open Go.Proofs.YtcdmmcogegnieaaGreatDoor.nm (Fit)
set_option maxRecDepth 20000

theorem nu1 (l : List UInt8) : (⟨#[102, 40, 32]⟩ ++ str l ++ ⟨#[32, 41]⟩ : ByteArray).data.toList = [102, 40, 32] ++ l ++ [32, 41] := by rw [cat_data, cat_data]; rfl
theorem belowD {w w5 w6 : World} (h : Hid (Below w.heap.size w w5)) (hb : Below w5.heap.size w5 w6) : Hid (Below w.heap.size w w6) := Lib.hid (h.out.trans (hb.mono h.out.size))
set_option maxHeartbeats 4000000 in
theorem numbers_w (a : Int) (w : World) (hf : (Lit.int .i64 a).wf = true) (hb : Both w) (hg : GM w) :
    Calls Tryz.prog 5 #[.int .i64 a] w fun e w' => e = .returned (.bool true) ∧ Below w.heap.size w w' := by
  have ha : Fit a := by
    have e1 : IntKind.i64.min = -9223372036854775808 := rfl
    have e2 : IntKind.i64.max = 9223372036854775807 := rfl
    simp [Lit.wf, e1, e2] at hf
    exact hf
  have hp := lx.heap_pos hg
  have hl := tx.text_len ha
  have hz1 : (str (text a)).size ≤ 9223372036854775800 := by rw [tx.str_size]; omega
  have hz2 : (⟨#[102, 40, 32]⟩ ++ str (text a) ++ ⟨#[32, 41]⟩ : ByteArray).size ≤ 9223372036854775800 := by rw [lx.size_of (nu1 _)]; simp; omega
  have hss : (str (text a)).size ≤ 100 := by rw [tx.str_size]; omega
  have kp := tx.print_r a ha w
  have o1 := fun w h1 h2 => one_u (str (text a)) w h1 h2 hz1
  have o2 := fun w h1 h2 => one_u (⟨#[102, 40, 32]⟩ ++ str (text a) ++ ⟨#[32, 41]⟩) w h1 h2 hz2
  have o3 := fun w h1 h2 => rone_u (str (text a)) w h1 h2 hz1
  rw [tx.str_list, numbers ha] at o1 o3
  rw [nu1, numbers_in ha] at o2
  generalize str (text a) = s at *
  have HBo := Lib.hid hb
  have HG := Lib.hid hg
  clear hg hb hz1 hz2 hl hf ha
  go_enter Tryz.func5, Tryz.ntmps5
  go_wp2_with fail
  refine kp.mono ?_
  rintro e w0 ⟨rfl, rfl⟩
  clear kp
  go_wp2_with fail
  refine (o1 _ HBo.out HG.out).mono ?_
  rintro e w1 ⟨t1, p1, m1, c1, q1, n1, d1, z1, k1, rfl, hT1, hb1, hS1⟩
  have hbx1 := (Below.refl w1.heap.size w1).alloc (Nat.le_refl _) (.cells #[.int .i64 (t1.k : Nat), .int .i64 t1.n, .string (bs t1.s), .slice p1 m1 c1, .slice q1 n1 d1] 27)
  have HT1 := Lib.hid (hT1.kept (Kt.below hbx1))
  have HC1 := Lib.hid (heap_alloc_new w1 (.cells #[.int .i64 (t1.k : Nat), .int .i64 t1.n, .string (bs t1.s), .slice p1 m1 c1, .slice q1 n1 d1] 27))
  have HS1 := Lib.hid hS1
  have HB1 := Lib.hid (((hb1)).trans (hbx1.mono hb1.size))
  clear hT1 hb1 hbx1 hS1
  go_wp2_with fail
  generalize World.alloc w1 _ = W1 at *
  generalize w1.heap.size = B1 at *
  refine (o2 _ (HBo.out.kept HB1.out) (HG.out.below HB1.out hp)).mono ?_
  rintro e w2 ⟨t2, p2, m2, c2, q2, n2, d2, z2, k2, rfl, hT2, hb2, hS2⟩
  have hbx2 := (Below.refl w2.heap.size w2).alloc (Nat.le_refl _) (.cells #[.int .i64 (t2.k : Nat), .int .i64 t2.n, .string (bs t2.s), .slice p2 m2 c2, .slice q2 n2 d2] 27)
  have HT2 := Lib.hid (hT2.kept (Kt.below hbx2))
  have HC2 := Lib.hid (heap_alloc_new w2 (.cells #[.int .i64 (t2.k : Nat), .int .i64 t2.n, .string (bs t2.s), .slice p2 m2 c2, .slice q2 n2 d2] 27))
  have HS2 := Lib.hid hS2
  have HB2 := Lib.hid ((HB1.out.trans (hb2.mono HB1.out.size)).trans (hbx2.mono (Nat.le_trans HB1.out.size hb2.size)))
  have HT1' := Lib.hid ((HT1.out.kept (Kt.below hb2)).kept (Kt.below hbx2))
  have HC1' := Lib.hid (Kt.below hbx2 _ _ _ (Kt.below hb2 _ _ _ HC1.out))
  clear HT1 HC1
  have HT1 := HT1'
  have HC1 := HC1'
  clear HT1' HC1'
  clear hT2 hb2 hbx2 hS2
  go_wp2_with fail
  generalize World.alloc w2 _ = W2 at *
  generalize w2.heap.size = B2 at *
  refine (o3 _ (HBo.out.kept HB2.out) (by have := HB2.out.size; omega)).mono ?_
  rintro e w3 ⟨t3, p3, m3, c3, q3, n3, d3, z3, k3, rfl, hT3, hb3, hS3⟩
  have hbx3 := (Below.refl w3.heap.size w3).alloc (Nat.le_refl _) (.cells #[.int .i64 (t3.k : Nat), .int .i64 t3.n, .string (bs t3.s), .slice p3 m3 c3, .slice q3 n3 d3] 27)
  have HT3 := Lib.hid (hT3.kept (Kt.below hbx3))
  have HC3 := Lib.hid (heap_alloc_new w3 (.cells #[.int .i64 (t3.k : Nat), .int .i64 t3.n, .string (bs t3.s), .slice p3 m3 c3, .slice q3 n3 d3] 27))
  have HS3 := Lib.hid hS3
  have HB3 := Lib.hid ((HB2.out.trans (hb3.mono HB2.out.size)).trans (hbx3.mono (Nat.le_trans HB2.out.size hb3.size)))
  have HT1' := Lib.hid ((HT1.out.kept (Kt.below hb3)).kept (Kt.below hbx3))
  have HC1' := Lib.hid (Kt.below hbx3 _ _ _ (Kt.below hb3 _ _ _ HC1.out))
  clear HT1 HC1
  have HT1 := HT1'
  have HC1 := HC1'
  clear HT1' HC1'
  have HT2' := Lib.hid ((HT2.out.kept (Kt.below hb3)).kept (Kt.below hbx3))
  have HC2' := Lib.hid (Kt.below hbx3 _ _ _ (Kt.below hb3 _ _ _ HC2.out))
  clear HT2 HC2
  have HT2 := HT2'
  have HC2 := HC2'
  clear HT2' HC2'
  clear hT3 hb3 hbx3 hS3
  clear o1 o2 o3
  obtain ⟨rfl, rfl⟩ := HS1.out
  obtain ⟨rfl, rfl⟩ := HS2.out
  obtain ⟨rfl, rfl⟩ := HS3.out
  have hl1 := HT1.out
  rw [Rp] at hl1
  obtain ⟨rfl, rfl, rfl⟩ : p1 = none ∧ m1 = 0 ∧ c1 = 0 := by simpa using hl1
  have hl3 := HT3.out
  rw [Rp] at hl3
  obtain ⟨rfl, rfl, rfl⟩ : p3 = none ∧ m3 = 0 ∧ c3 = 0 := by simpa using hl3
  obtain ⟨g, cap, p, m, c, hv, hcap, hgl, hR, d0, d1, d2, d3⟩ := elem HT2.out (i := 0) (by simp)
  obtain ⟨rfl, rfl, rfl⟩ : p2 = some ⟨g, 0, none⟩ ∧ m2 = 1 ∧ c2 = cap := by simpa using hv
  rw [show ([T.leaf 2 a []].getD 0 dfT) = T.leaf 2 a [] from rfl] at hR d0 d1 d2
  have hl2 := hR
  rw [Rp] at hl2
  obtain ⟨rfl, rfl, rfl⟩ : p = none ∧ m = 0 ∧ c = 0 := by simpa using hl2
  clear hl1 hl2 hl3 hv HS1 HS2 HS3
  go_wp2_with fail
  generalize World.alloc w3 _ = W3 at *
  generalize w3.heap.size = B3 at *
  obtain ⟨x0, x1, x2, x3, x4, _⟩ := cells5 HC1.out
  obtain ⟨y0, y1, y2, y3, y4, _⟩ := cells5 HC2.out
  obtain ⟨z0, z1, z2, z3, z4, _⟩ := cells5 HC3.out
  have x0 : W3.cell? ⟨B1, 0, none⟩ = some (.int .i64 2) := x0
  have x1 : W3.cell? ⟨B1, 1, none⟩ = some (.int .i64 a) := x1
  have x2 : W3.cell? ⟨B1, 2, none⟩ = some (.string ⟨#[]⟩) := x2
  have x3 : W3.cell? ⟨B1, 3, none⟩ = some (.slice none 0 0) := x3
  have z0 : W3.cell? ⟨B3, 0, none⟩ = some (.int .i64 2) := z0
  have z1 : W3.cell? ⟨B3, 1, none⟩ = some (.int .i64 a) := z1
  have z2 : W3.cell? ⟨B3, 2, none⟩ = some (.string ⟨#[]⟩) := z2
  have z3 : W3.cell? ⟨B3, 3, none⟩ = some (.slice none 0 0) := z3
  have y3 : W3.cell? ⟨B2, 3, none⟩ = some (.slice (some ⟨g, 0, none⟩) 1 c2) := y3
  have d0 : W3.cell? ⟨g, 0, none⟩ = some (.int .i64 2) := d0
  have d1 : W3.cell? ⟨g, 1, none⟩ = some (.int .i64 a) := d1
  have d2 : W3.cell? ⟨g, 2, none⟩ = some (.string ⟨#[]⟩) := d2
  have d3 : W3.cell? ⟨g, 3, none⟩ = some (.slice none 0 0) := d3
  have l1 := lt_of HC1.out
  have l2 := lt_of HC2.out
  have l3 := lt_of HC3.out
  have kx : ∀ w, Calls Tryz.prog 12 #[.agg #[.int .i64 2, .int .i64 a, .string ⟨#[]⟩, .slice none 0 0], .agg #[.int .i64 2, .int .i64 a, .string ⟨#[]⟩, .slice none 0 0]] w fun en w' => en = .returned (.bool true) ∧ Below w.heap.size w w' := fun w => same_all (T.leaf 2 a []) (.slice none 0 0) (.slice none 0 0) w (by rw [Rp]) (by rw [Rp])
  have HE := Lib.hid (show ∀ (W w' : World), Below W.heap.size W w' → ∀ (q : Nat), q < W.heap.size → ∀ (j : Nat), w'.cell? ⟨q, j, none⟩ = W.cell? ⟨q, j, none⟩ from fun W w' h q hq j => World.cell?_of_block (h.block q hq))
  clear hR HC1 HC2 HC3 HT1 HT2 HT3 y0 y1 y2 y4 x4 z4
  have e1 : ((2 : Int) == 2) = true := rfl
  have e2 : (a == a) = true := by simp
  go_region_held3 (fun w' => w'.cell? ⟨B1, 0, none⟩ = some (.int .i64 2) ∧ w'.cell? ⟨B1, 1, none⟩ = some (.int .i64 a) ∧ w'.cell? ⟨B1, 2, none⟩ = some (.string ⟨#[]⟩) ∧ w'.cell? ⟨B1, 3, none⟩ = some (.slice none 0 0) ∧ w'.cell? ⟨B3, 0, none⟩ = some (.int .i64 2) ∧ w'.cell? ⟨B3, 1, none⟩ = some (.int .i64 a) ∧ w'.cell? ⟨B3, 2, none⟩ = some (.string ⟨#[]⟩) ∧ w'.cell? ⟨B3, 3, none⟩ = some (.slice none 0 0) ∧ w'.cell? ⟨B2, 3, none⟩ = some (.slice (some ⟨g, 0, none⟩) 1 c2) ∧ w'.cell? ⟨g, 0, none⟩ = some (.int .i64 2) ∧ w'.cell? ⟨g, 1, none⟩ = some (.int .i64 a) ∧ w'.cell? ⟨g, 2, none⟩ = some (.string ⟨#[]⟩) ∧ w'.cell? ⟨g, 3, none⟩ = some (.slice none 0 0)) (first | exact ⟨f0, f1, f2, f3, f4, f5, f6, f7, f8, f9, f10, f11, f12⟩ | exact ⟨x0, x1, x2, x3, z0, z1, z2, z3, y3, d0, d1, d2, d3⟩ | (refine ⟨?_, ?_, ?_, ?_, ?_, ?_, ?_, ?_, ?_, ?_, ?_, ?_, ?_⟩ <;> (rw [q2] <;> assumption)) | go_keep) (first
    | (go_at_call 12; (refine (kx _).mono ?_); rintro en w5 ⟨rfl, hb5⟩; have q1 := HE.out _ _ hb5; have f0 := (q1 _ l1 0).trans x0; have f1 := (q1 _ l1 1).trans x1; have f2 := (q1 _ l1 2).trans x2; have f3 := (q1 _ l1 3).trans x3; have f4 := (q1 _ l3 0).trans z0; have f5 := (q1 _ l3 1).trans z1; have f6 := (q1 _ l3 2).trans z2; have f7 := (q1 _ l3 3).trans z3; have f8 := (q1 _ l2 3).trans y3; have f9 := (q1 _ hgl 0).trans d0; have f10 := (q1 _ hgl 1).trans d1; have f11 := (q1 _ hgl 2).trans d2; have f12 := (q1 _ hgl 3).trans d3; have hsz5 := hb5.size; have m1 : B1 < w5.heap.size := Nat.lt_of_lt_of_le l1 hsz5; have m2 : B2 < w5.heap.size := Nat.lt_of_lt_of_le l2 hsz5; have m3 : B3 < w5.heap.size := Nat.lt_of_lt_of_le l3 hsz5; have m4 : g < w5.heap.size := Nat.lt_of_lt_of_le hgl hsz5; have HB5 := Lib.hid (HB3.out.trans (((below_drawn W3.heap.size W3 _).trans hb5).mono HB3.out.size)); clear hb5 q1)
    | (go_at_call 12; (refine (kx _).mono ?_); rintro en w6 ⟨rfl, hb6⟩; have q2 := HE.out _ _ hb6; have HB6 := belowD (w := w) (by assumption) hb6; clear hb6))
  all_goals
    clear kx
    go_wp2
    go_ret
    exact ⟨rfl, HB6.out⟩
end Go.Proofs.YtcdmmcogegnieaaGreatDoor.ls
end
section
/- Two operators between three atoms: every pair, by the kernel. -/
namespace Go.Proofs.YtcdmmcogegnieaaGreatDoor.rd
open Go.Proofs.YtcdmmcogegnieaaGreatDoor.op (progI progP)

/-- the operators that the law takes -/
def opL : List (List UInt8) := [[58, 45], [59], [45, 62], [44], [35, 60, 61, 62], [61], [105, 115], [105, 110], [92, 47], [46, 46], [43], [45], [42], [109, 111, 100], [94]]
def opS (f g : List UInt8) : List UInt8 := [97, 32] ++ f ++ [32, 98, 32] ++ g ++ [32, 99]
def opBad (P Q : Int × Int × Int × Bool) : Bool := decide (Q.2.2.1 < 0) || decide (P.2.1 < 0) || (!decide (Q.1 ≤ P.2.2.1) && !decide (P.1 ≤ Q.2.1))
def opSees (f g : List UInt8) (P Q : Int × Int × Int × Bool) : Except Nat (T × List (List UInt8)) → Bool
  | .error _ => opBad P Q
  | .ok (.cmp nm [u0, u1], _) => !opBad P Q && (if decide (Q.1 ≤ P.2.2.1) = true then nm == f && u1.s == g else nm == g && u0.s == f)
  | .ok _ => false
noncomputable def opC (i j : Nat) : Bool := opSees (opL.getD i []) (opL.getD j []) (progI (opL.getD i [])) (progI (opL.getD j [])) (oneP (opS (opL.getD i []) (opL.getD j [])))
set_option maxRecDepth 100000 in
theorem opC_all : ∀ i, i < 15 → ∀ j, j < 15 → opC i j = true := by decide +kernel
theorem operators {i j : Nat} (hi : i < 15) (hj : j < 15) {f g : List UInt8} (hf : opL.getD i [] = f) (hg : opL.getD j [] = g) {p left right q under over : Int} {b c : Bool} (hP : progI f = (p, left, right, b)) (hQ : progI g = (q, under, over, c)) :
    ((over < 0 ∨ left < 0 ∨ (¬ q ≤ right ∧ ¬ p ≤ under)) → ∃ k, oneP (opS f g) = .error k) ∧
    (¬ (over < 0 ∨ left < 0 ∨ (¬ q ≤ right ∧ ¬ p ≤ under)) → ∃ nm u0 u1 ns, oneP (opS f g) = .ok (.cmp nm [u0, u1], ns) ∧ (q ≤ right → nm = f ∧ u1.s = g) ∧ (¬ q ≤ right → nm = g ∧ u0.s = f)) := by
  have h := opC_all i hi j hj
  unfold opC at h
  rw [hf, hg, hP, hQ] at h
  have hb : opBad (p, left, right, b) (q, under, over, c) = true ↔ (over < 0 ∨ left < 0 ∨ (¬ q ≤ right ∧ ¬ p ≤ under)) := by
    unfold opBad
    simp only [Bool.or_eq_true, Bool.and_eq_true, decide_eq_true_eq, Bool.not_eq_true', decide_eq_false_iff_not]
    constructor
    · rintro ((h | h) | h)
      · exact .inl h
      · exact .inr (.inl h)
      · exact .inr (.inr h)
    · rintro (h | h | h)
      · exact .inl (.inl h)
      · exact .inl (.inr h)
      · exact .inr h
  rw [← hb]
  generalize oneP (opS f g) = X at *
  unfold opSees at h
  split at h
  · exact ⟨fun _ => ⟨_, rfl⟩, fun hn => absurd h hn⟩
  · rename_i nm u0 u1 ns
    rw [Bool.and_eq_true] at h
    obtain ⟨h1, h2⟩ := h
    have h1' : opBad (p, left, right, b) (q, under, over, c) = false := by simpa using h1
    refine ⟨fun hn => absurd hn (by rw [h1']; decide), fun _ => ⟨nm, u0, u1, ns, rfl, fun hi => ?_, fun hi => ?_⟩⟩
    · rw [if_pos (by simpa using hi), Bool.and_eq_true] at h2
      exact ⟨by simpa using h2.1, by simpa using h2.2⟩
    · rw [if_neg (by simpa using hi), Bool.and_eq_true] at h2
      exact ⟨by simpa using h2.1, by simpa using h2.2⟩
  · cases h
theorem opL_len {i : Nat} (hi : i < 15) : (opL.getD i []).length ≤ 4 := by
  have : ∀ i, i < 15 → (opL.getD i []).length ≤ 4 := by decide
  exact this i hi
end Go.Proofs.YtcdmmcogegnieaaGreatDoor.rd
end
section
/- ReadOperators: its walk. -/
namespace Go.Proofs.YtcdmmcogegnieaaGreatDoor.ls
open Go.RowKit
open Go.Proofs.YtcdmmcogegnieaaGreatDoor.rd
open Go.Proofs.YtcdmmcogegnieaaGreatDoor.rr
open Go.Proofs.YtcdmmcogegnieaaGreatDoor.op (bs strC Both bs_data progI rI)
open Go.Proofs.YtcdmmcogegnieaaGreatDoor.lx (cell_at ieq_yes ieq_no GM toksD cat_data)
set_option maxRecDepth 20000

abbrev opV : Array Value := #[.string ⟨#[58, 45]⟩, .string ⟨#[59]⟩, .string ⟨#[45, 62]⟩, .string ⟨#[44]⟩, .string ⟨#[35, 60, 61, 62]⟩, .string ⟨#[61]⟩, .string ⟨#[105, 115]⟩, .string ⟨#[105, 110]⟩, .string ⟨#[92, 47]⟩, .string ⟨#[46, 46]⟩, .string ⟨#[43]⟩, .string ⟨#[45]⟩, .string ⟨#[42]⟩, .string ⟨#[109, 111, 100]⟩, .string ⟨#[94]⟩]
theorem opV_get {i : Nat} (hi : i < 15) : opV[i]? = some (.string (bs (opL.getD i []))) := by
  have : ∀ i, i < 15 → opV[i]? = some (.string (bs (opL.getD i []))) := by
    intro i hi
    match i, hi with
    | 0, _ | 1, _ | 2, _ | 3, _ | 4, _ | 5, _ | 6, _ | 7, _ | 8, _ | 9, _ | 10, _ | 11, _ | 12, _ | 13, _ | 14, _ => rfl
  exact this i hi
theorem op1 (f g : List UInt8) : (⟨#[97, 32]⟩ ++ bs f ++ ⟨#[32, 98, 32]⟩ ++ bs g ++ ⟨#[32, 99]⟩ : ByteArray).data.toList = opS f g := by rw [cat_data, cat_data, cat_data, cat_data]; rfl
set_option maxHeartbeats 4000000 in
theorem operators_w (a b : Int) (w : World) (ha : (Lit.int .u8 a).wf = true) (hb' : (Lit.int .u8 b).wf = true) (hb : Both w) (hg : GM w) :
    Calls Tryz.prog 3 #[.int .u8 a, .int .u8 b] w fun e w' => e = .returned (.bool true) ∧ Below w.heap.size w w' := by
  have e1 : IntKind.u8.min = 0 := rfl
  have e2 : IntKind.u8.max = 255 := rfl
  simp [Lit.wf, e1, e2] at ha hb'
  obtain ⟨x, rfl⟩ : ∃ x : Nat, a = x := ⟨a.toNat, by omega⟩
  obtain ⟨y, rfl⟩ : ∃ y : Nat, b = y := ⟨b.toNat, by omega⟩
  have hx : x % 15 < 15 := Nat.mod_lt _ (by decide)
  have hy : y % 15 < 15 := Nat.mod_lt _ (by decide)
  have cv : ∀ i, i < 15 → (w.alloc (.cells opV 9)).cell? ⟨w.heap.size, i, none⟩ = some (.string (bs (opL.getD i []))) := fun i hi => (cell_at (heap_alloc_new w _) i).trans (opV_get hi)
  have cx := cv _ hx
  have cy := cv _ hy
  have lx1 := opL_len hx
  have ly1 := opL_len hy
  have hall := fun p left right q under over b c => operators (p := p) (left := left) (right := right) (q := q) (under := under) (over := over) (b := b) (c := c) hx hy rfl rfl
  generalize hi : x % 15 = i at *
  generalize hj : y % 15 = j at *
  generalize opL.getD i [] = f at *
  generalize opL.getD j [] = g at *
  have sf : (bs f).size ≤ 4 := lx1
  have sg : (bs g).size ≤ 4 := ly1
  obtain ⟨p, left, right, b1, hP⟩ : ∃ p l r q, progI f = (p, l, r, q) := ⟨_, _, _, _, rfl⟩
  obtain ⟨q, under, over, b2, hQ⟩ : ∃ p l r q, progI g = (p, l, r, q) := ⟨_, _, _, _, rfl⟩
  have hop := hall p left right q under over b1 b2 hP hQ
  have kI := fun w => rI (bs f) w (p := p) (l := left) (r := right) (b := b1) hP
  have kJ := fun w => rI (bs g) w (p := q) (l := under) (r := over) (b := b2) hQ
  have hbv := (Below.refl w.heap.size w).alloc (Nat.le_refl _) (.cells opV 9)
  have hz1 : (⟨#[97, 32]⟩ ++ bs f ++ ⟨#[32, 98, 32]⟩ ++ bs g ++ ⟨#[32, 99]⟩ : ByteArray).size ≤ 9223372036854775800 := by rw [lx.size_of (op1 f g)]; unfold opS; simp; omega
  have hp := lx.heap_pos hg
  have o1 := fun w h1 h2 => one_u (⟨#[97, 32]⟩ ++ bs f ++ ⟨#[32, 98, 32]⟩ ++ bs g ++ ⟨#[32, 99]⟩) w h1 h2 hz1
  have o2 := fun w h1 h2 => rone_u (⟨#[97, 32]⟩ ++ bs f ++ ⟨#[32, 98, 32]⟩ ++ bs g ++ ⟨#[32, 99]⟩) w h1 h2 hz1
  rw [op1] at o1 o2
  generalize oneP (opS f g) = X at *
  have HOp := Lib.hid hop
  have HB0 := Lib.hid hbv
  have HBo := Lib.hid (hb.kept hbv)
  have HG := Lib.hid (hg.below hbv hp)
  have hz0 : 2 < (w.alloc (.cells opV 9)).heap.size := Nat.lt_of_lt_of_le hp hbv.size
  clear cv hall hop hz1 hb hg hbv hP hQ e1 e2
  go_enter Tryz.func3, Tryz.ntmps3
  go_wp2_with fail
  generalize World.alloc w _ = W0 at *
  clear cx cy
  refine (o1 _ HBo.out HG.out).mono ?_
  rintro e w1 ⟨t1, p1, m1, c1, q1, n1, d1, z1, k1, rfl, hT1, hb1, hS1⟩
  have hbx1 := (Below.refl w1.heap.size w1).alloc (Nat.le_refl _) (.cells #[.int .i64 (t1.k : Nat), .int .i64 t1.n, .string (bs t1.s), .slice p1 m1 c1, .slice q1 n1 d1] 27)
  have HT1 := Lib.hid (hT1.kept (Kt.below hbx1))
  have HC1 := Lib.hid (heap_alloc_new w1 (.cells #[.int .i64 (t1.k : Nat), .int .i64 t1.n, .string (bs t1.s), .slice p1 m1 c1, .slice q1 n1 d1] 27))
  have HS1 := Lib.hid hS1
  have HB1 := Lib.hid (((hb1)).trans (hbx1.mono hb1.size))
  clear hT1 hb1 hbx1 hS1
  go_wp2_with fail
  generalize World.alloc w1 _ = W1 at *
  generalize w1.heap.size = B1 at *
  refine (o2 _ (HBo.out.kept HB1.out) (by have := HB1.out.size; omega)).mono ?_
  rintro e w2 ⟨t2, p2, m2, c2, q2, n2, d2, z2, k2, rfl, hT2, hb2, hS2⟩
  have hbx2 := (Below.refl w2.heap.size w2).alloc (Nat.le_refl _) (.cells #[.int .i64 (t2.k : Nat), .int .i64 t2.n, .string (bs t2.s), .slice p2 m2 c2, .slice q2 n2 d2] 27)
  have HT2 := Lib.hid (hT2.kept (Kt.below hbx2))
  have HC2 := Lib.hid (heap_alloc_new w2 (.cells #[.int .i64 (t2.k : Nat), .int .i64 t2.n, .string (bs t2.s), .slice p2 m2 c2, .slice q2 n2 d2] 27))
  have HS2 := Lib.hid hS2
  have HB2 := Lib.hid ((HB1.out.trans (hb2.mono HB1.out.size)).trans (hbx2.mono (Nat.le_trans HB1.out.size hb2.size)))
  have HT1' := Lib.hid ((HT1.out.kept (Kt.below hb2)).kept (Kt.below hbx2))
  have HC1' := Lib.hid (Kt.below hbx2 _ _ _ (Kt.below hb2 _ _ _ HC1.out))
  clear HT1 HC1
  have HT1 := HT1'
  have HC1 := HC1'
  clear HT1' HC1'
  clear hT2 hb2 hbx2 hS2
  go_wp2_with fail
  generalize World.alloc w2 _ = W2 at *
  generalize w2.heap.size = B2 at *
  clear o1 o2
  refine (kI _).mono ?_
  rintro e w3 ⟨rfl, hb3⟩
  have HB3 := Lib.hid (HB2.out.trans (hb3.mono HB2.out.size))
  have hk3 := fun ty => Kt.below (t := ty) hb3
  clear hb3 kI
  go_wp2_with fail
  refine (kJ _).mono ?_
  rintro e w4 ⟨rfl, hb4⟩
  have HB4 := Lib.hid (HB3.out.trans (hb4.mono HB3.out.size))
  have hk4 := fun ty => (hk3 ty).trans (Kt.below (t := ty) hb4)
  have HT1' := Lib.hid (HT1.out.kept (hk4 _))
  have HT2' := Lib.hid (HT2.out.kept (hk4 _))
  have HC1' := Lib.hid (hk4 _ _ _ _ HC1.out)
  have HC2' := Lib.hid (hk4 _ _ _ _ HC2.out)
  clear HT1 HT2 HC1 HC2 hk3 hk4 hb4 kJ
  obtain ⟨h12, hk12⟩ : t2 = t1 ∧ k2 = k1 := by
    have a := HS1.out
    have b := HS2.out
    cases X with
    | error kx => exact ⟨b.2.2.trans a.2.2.symm, b.1.trans a.1.symm⟩
    | ok x => exact ⟨b.2.trans a.2.symm, b.1.trans a.1.symm⟩
  subst h12 hk12
  clear HS2
  obtain ⟨x0, x1, x2, x3, x4, _⟩ := cells5 HC1'.out
  obtain ⟨y0, y1, y2, y3, y4, _⟩ := cells5 HC2'.out
  have ka := same_all t2 (.slice p1 m1 c1) (.slice p2 m2 c2) _ HT1'.out HT2'.out
  have ek : ((k2 : Int) != (k2 : Int)) = false := by simp
  unfold tV at ka
  go_wp2_with fail
  refine ka.mono ?_
  rintro e w5 ⟨rfl, hb5⟩
  have HB5 := Lib.hid (HB4.out.trans (hb5.mono HB4.out.size))
  have HC5 := Lib.hid (Kt.below hb5 _ _ _ HC1'.out)
  have HT5 := Lib.hid (HT1'.out.kept (Kt.below hb5))
  clear hb5 ka HC1' HC2' HT1' HT2' x0 x1 x2 x3 x4 y0 y1 y2 y3 y4 ek
  by_cases hd1 : q ≤ right
  · by_cases hd2 : p ≤ under
    · by_cases hd3 : over < 0
      · by_cases hd4 : left < 0
        · obtain ⟨k, hk⟩ := HOp.out.1 (by omega)
          have h1 := HS1.out
          rw [hk] at h1
          obtain ⟨rfl, hne, rfl⟩ := h1
          obtain ⟨n1', n2'⟩ := ieq_no (a := k2) 0 (by omega)
          have d1 : decide (q ≤ right) = true := by simpa using hd1
          have d2 : decide (p ≤ under) = true := by simpa using hd2
          have d3 : decide (over < 0) = true := by simpa using hd3
          have d4 : decide (left < 0) = true := by simpa using hd4
          clear hne hk hd1 hd2 hd3 hd4
          go_wp2
          go_ret
          exact ⟨rfl, HB0.out.trans (HB5.out.mono HB0.out.size)⟩
        · obtain ⟨k, hk⟩ := HOp.out.1 (by omega)
          have h1 := HS1.out
          rw [hk] at h1
          obtain ⟨rfl, hne, rfl⟩ := h1
          obtain ⟨n1', n2'⟩ := ieq_no (a := k2) 0 (by omega)
          have d1 : decide (q ≤ right) = true := by simpa using hd1
          have d2 : decide (p ≤ under) = true := by simpa using hd2
          have d3 : decide (over < 0) = true := by simpa using hd3
          have d4 : decide (left < 0) = false := by simpa using hd4
          clear hne hk hd1 hd2 hd3 hd4
          go_wp2
          go_ret
          exact ⟨rfl, HB0.out.trans (HB5.out.mono HB0.out.size)⟩
      · by_cases hd4 : left < 0
        · obtain ⟨k, hk⟩ := HOp.out.1 (by omega)
          have h1 := HS1.out
          rw [hk] at h1
          obtain ⟨rfl, hne, rfl⟩ := h1
          obtain ⟨n1', n2'⟩ := ieq_no (a := k2) 0 (by omega)
          have d1 : decide (q ≤ right) = true := by simpa using hd1
          have d2 : decide (p ≤ under) = true := by simpa using hd2
          have d3 : decide (over < 0) = false := by simpa using hd3
          have d4 : decide (left < 0) = true := by simpa using hd4
          clear hne hk hd1 hd2 hd3 hd4
          go_wp2
          go_ret
          exact ⟨rfl, HB0.out.trans (HB5.out.mono HB0.out.size)⟩
        · obtain ⟨nm, u0, u1, ns, hX, hin, hout⟩ := HOp.out.2 (by omega)
          have h1 := HS1.out
          rw [hX] at h1
          obtain ⟨rfl, rfl⟩ := h1
          obtain ⟨rfl, hs1⟩ := hin (by omega)
          obtain ⟨gg, cap, p', m', c', hv, hcap, hgl, hR, f0, f1, g2, f3⟩ := elem HT5.out (i := 1) (by simp)
          obtain ⟨rfl, rfl, rfl⟩ : p1 = some ⟨gg, 0, none⟩ ∧ m1 = 2 ∧ c1 = cap := by simpa using hv
          obtain ⟨x0, x1, y2, x3, x4, _⟩ := cells5 HC5.out
          have f2 : w5.cell? ⟨gg, 6, none⟩ = some (.string (bs u1.s)) := g2
          rw [hs1] at f2
          clear g2
          have x2 : w5.cell? ⟨B1, 2, none⟩ = some (.string (bs nm)) := y2
          clear y2
          have d1 : decide (q ≤ right) = true := by simpa using hd1
          have d2 : decide (p ≤ under) = true := by simpa using hd2
          have d3 : decide (over < 0) = false := by simpa using hd3
          have d4 : decide (left < 0) = false := by simpa using hd4
          clear hin hout hX hv hR f0 f1 f3 x0 x1 x4 hs1 HOp HS1 HT5 HC5 hd1 hd2 hd3 hd4
          have ez1 : ((bs nm).toList == (bs nm).toList) = true := by simp
          have ez2 : ((bs g).toList == (bs g).toList) = true := by simp
          go_wp2
          go_ret
          exact ⟨rfl, HB0.out.trans (HB5.out.mono HB0.out.size)⟩
    · by_cases hd3 : over < 0
      · by_cases hd4 : left < 0
        · obtain ⟨k, hk⟩ := HOp.out.1 (by omega)
          have h1 := HS1.out
          rw [hk] at h1
          obtain ⟨rfl, hne, rfl⟩ := h1
          obtain ⟨n1', n2'⟩ := ieq_no (a := k2) 0 (by omega)
          have d1 : decide (q ≤ right) = true := by simpa using hd1
          have d2 : decide (p ≤ under) = false := by simpa using hd2
          have d3 : decide (over < 0) = true := by simpa using hd3
          have d4 : decide (left < 0) = true := by simpa using hd4
          clear hne hk hd1 hd2 hd3 hd4
          go_wp2
          go_ret
          exact ⟨rfl, HB0.out.trans (HB5.out.mono HB0.out.size)⟩
        · obtain ⟨k, hk⟩ := HOp.out.1 (by omega)
          have h1 := HS1.out
          rw [hk] at h1
          obtain ⟨rfl, hne, rfl⟩ := h1
          obtain ⟨n1', n2'⟩ := ieq_no (a := k2) 0 (by omega)
          have d1 : decide (q ≤ right) = true := by simpa using hd1
          have d2 : decide (p ≤ under) = false := by simpa using hd2
          have d3 : decide (over < 0) = true := by simpa using hd3
          have d4 : decide (left < 0) = false := by simpa using hd4
          clear hne hk hd1 hd2 hd3 hd4
          go_wp2
          go_ret
          exact ⟨rfl, HB0.out.trans (HB5.out.mono HB0.out.size)⟩
      · by_cases hd4 : left < 0
        · obtain ⟨k, hk⟩ := HOp.out.1 (by omega)
          have h1 := HS1.out
          rw [hk] at h1
          obtain ⟨rfl, hne, rfl⟩ := h1
          obtain ⟨n1', n2'⟩ := ieq_no (a := k2) 0 (by omega)
          have d1 : decide (q ≤ right) = true := by simpa using hd1
          have d2 : decide (p ≤ under) = false := by simpa using hd2
          have d3 : decide (over < 0) = false := by simpa using hd3
          have d4 : decide (left < 0) = true := by simpa using hd4
          clear hne hk hd1 hd2 hd3 hd4
          go_wp2
          go_ret
          exact ⟨rfl, HB0.out.trans (HB5.out.mono HB0.out.size)⟩
        · obtain ⟨nm, u0, u1, ns, hX, hin, hout⟩ := HOp.out.2 (by omega)
          have h1 := HS1.out
          rw [hX] at h1
          obtain ⟨rfl, rfl⟩ := h1
          obtain ⟨rfl, hs1⟩ := hin (by omega)
          obtain ⟨gg, cap, p', m', c', hv, hcap, hgl, hR, f0, f1, g2, f3⟩ := elem HT5.out (i := 1) (by simp)
          obtain ⟨rfl, rfl, rfl⟩ : p1 = some ⟨gg, 0, none⟩ ∧ m1 = 2 ∧ c1 = cap := by simpa using hv
          obtain ⟨x0, x1, y2, x3, x4, _⟩ := cells5 HC5.out
          have f2 : w5.cell? ⟨gg, 6, none⟩ = some (.string (bs u1.s)) := g2
          rw [hs1] at f2
          clear g2
          have x2 : w5.cell? ⟨B1, 2, none⟩ = some (.string (bs nm)) := y2
          clear y2
          have d1 : decide (q ≤ right) = true := by simpa using hd1
          have d2 : decide (p ≤ under) = false := by simpa using hd2
          have d3 : decide (over < 0) = false := by simpa using hd3
          have d4 : decide (left < 0) = false := by simpa using hd4
          clear hin hout hX hv hR f0 f1 f3 x0 x1 x4 hs1 HOp HS1 HT5 HC5 hd1 hd2 hd3 hd4
          have ez1 : ((bs nm).toList == (bs nm).toList) = true := by simp
          have ez2 : ((bs g).toList == (bs g).toList) = true := by simp
          go_wp2
          go_ret
          exact ⟨rfl, HB0.out.trans (HB5.out.mono HB0.out.size)⟩
  · by_cases hd2 : p ≤ under
    · by_cases hd3 : over < 0
      · by_cases hd4 : left < 0
        · obtain ⟨k, hk⟩ := HOp.out.1 (by omega)
          have h1 := HS1.out
          rw [hk] at h1
          obtain ⟨rfl, hne, rfl⟩ := h1
          obtain ⟨n1', n2'⟩ := ieq_no (a := k2) 0 (by omega)
          have d1 : decide (q ≤ right) = false := by simpa using hd1
          have d2 : decide (p ≤ under) = true := by simpa using hd2
          have d3 : decide (over < 0) = true := by simpa using hd3
          have d4 : decide (left < 0) = true := by simpa using hd4
          clear hne hk hd1 hd2 hd3 hd4
          go_wp2
          go_ret
          exact ⟨rfl, HB0.out.trans (HB5.out.mono HB0.out.size)⟩
        · obtain ⟨k, hk⟩ := HOp.out.1 (by omega)
          have h1 := HS1.out
          rw [hk] at h1
          obtain ⟨rfl, hne, rfl⟩ := h1
          obtain ⟨n1', n2'⟩ := ieq_no (a := k2) 0 (by omega)
          have d1 : decide (q ≤ right) = false := by simpa using hd1
          have d2 : decide (p ≤ under) = true := by simpa using hd2
          have d3 : decide (over < 0) = true := by simpa using hd3
          have d4 : decide (left < 0) = false := by simpa using hd4
          clear hne hk hd1 hd2 hd3 hd4
          go_wp2
          go_ret
          exact ⟨rfl, HB0.out.trans (HB5.out.mono HB0.out.size)⟩
      · by_cases hd4 : left < 0
        · obtain ⟨k, hk⟩ := HOp.out.1 (by omega)
          have h1 := HS1.out
          rw [hk] at h1
          obtain ⟨rfl, hne, rfl⟩ := h1
          obtain ⟨n1', n2'⟩ := ieq_no (a := k2) 0 (by omega)
          have d1 : decide (q ≤ right) = false := by simpa using hd1
          have d2 : decide (p ≤ under) = true := by simpa using hd2
          have d3 : decide (over < 0) = false := by simpa using hd3
          have d4 : decide (left < 0) = true := by simpa using hd4
          clear hne hk hd1 hd2 hd3 hd4
          go_wp2
          go_ret
          exact ⟨rfl, HB0.out.trans (HB5.out.mono HB0.out.size)⟩
        · obtain ⟨nm, u0, u1, ns, hX, hin, hout⟩ := HOp.out.2 (by omega)
          have h1 := HS1.out
          rw [hX] at h1
          obtain ⟨rfl, rfl⟩ := h1
          obtain ⟨rfl, hs1⟩ := hout (by omega)
          obtain ⟨gg, cap, p', m', c', hv, hcap, hgl, hR, f0, f1, g2, f3⟩ := elem HT5.out (i := 0) (by simp)
          obtain ⟨rfl, rfl, rfl⟩ : p1 = some ⟨gg, 0, none⟩ ∧ m1 = 2 ∧ c1 = cap := by simpa using hv
          obtain ⟨x0, x1, y2, x3, x4, _⟩ := cells5 HC5.out
          have f2 : w5.cell? ⟨gg, 2, none⟩ = some (.string (bs u0.s)) := g2
          rw [hs1] at f2
          clear g2
          have x2 : w5.cell? ⟨B1, 2, none⟩ = some (.string (bs nm)) := y2
          clear y2
          have d1 : decide (q ≤ right) = false := by simpa using hd1
          have d2 : decide (p ≤ under) = true := by simpa using hd2
          have d3 : decide (over < 0) = false := by simpa using hd3
          have d4 : decide (left < 0) = false := by simpa using hd4
          clear hin hout hX hv hR f0 f1 f3 x0 x1 x4 hs1 HOp HS1 HT5 HC5 hd1 hd2 hd3 hd4
          have ez1 : ((bs nm).toList == (bs nm).toList) = true := by simp
          have ez2 : ((bs f).toList == (bs f).toList) = true := by simp
          go_wp2
          go_ret
          exact ⟨rfl, HB0.out.trans (HB5.out.mono HB0.out.size)⟩
    · by_cases hd3 : over < 0
      · by_cases hd4 : left < 0
        · obtain ⟨k, hk⟩ := HOp.out.1 (by omega)
          have h1 := HS1.out
          rw [hk] at h1
          obtain ⟨rfl, hne, rfl⟩ := h1
          obtain ⟨n1', n2'⟩ := ieq_no (a := k2) 0 (by omega)
          have d1 : decide (q ≤ right) = false := by simpa using hd1
          have d2 : decide (p ≤ under) = false := by simpa using hd2
          have d3 : decide (over < 0) = true := by simpa using hd3
          have d4 : decide (left < 0) = true := by simpa using hd4
          clear hne hk hd1 hd2 hd3 hd4
          go_wp2
          go_ret
          exact ⟨rfl, HB0.out.trans (HB5.out.mono HB0.out.size)⟩
        · obtain ⟨k, hk⟩ := HOp.out.1 (by omega)
          have h1 := HS1.out
          rw [hk] at h1
          obtain ⟨rfl, hne, rfl⟩ := h1
          obtain ⟨n1', n2'⟩ := ieq_no (a := k2) 0 (by omega)
          have d1 : decide (q ≤ right) = false := by simpa using hd1
          have d2 : decide (p ≤ under) = false := by simpa using hd2
          have d3 : decide (over < 0) = true := by simpa using hd3
          have d4 : decide (left < 0) = false := by simpa using hd4
          clear hne hk hd1 hd2 hd3 hd4
          go_wp2
          go_ret
          exact ⟨rfl, HB0.out.trans (HB5.out.mono HB0.out.size)⟩
      · by_cases hd4 : left < 0
        · obtain ⟨k, hk⟩ := HOp.out.1 (by omega)
          have h1 := HS1.out
          rw [hk] at h1
          obtain ⟨rfl, hne, rfl⟩ := h1
          obtain ⟨n1', n2'⟩ := ieq_no (a := k2) 0 (by omega)
          have d1 : decide (q ≤ right) = false := by simpa using hd1
          have d2 : decide (p ≤ under) = false := by simpa using hd2
          have d3 : decide (over < 0) = false := by simpa using hd3
          have d4 : decide (left < 0) = true := by simpa using hd4
          clear hne hk hd1 hd2 hd3 hd4
          go_wp2
          go_ret
          exact ⟨rfl, HB0.out.trans (HB5.out.mono HB0.out.size)⟩
        · obtain ⟨k, hk⟩ := HOp.out.1 (by omega)
          have h1 := HS1.out
          rw [hk] at h1
          obtain ⟨rfl, hne, rfl⟩ := h1
          obtain ⟨n1', n2'⟩ := ieq_no (a := k2) 0 (by omega)
          have d1 : decide (q ≤ right) = false := by simpa using hd1
          have d2 : decide (p ≤ under) = false := by simpa using hd2
          have d3 : decide (over < 0) = false := by simpa using hd3
          have d4 : decide (left < 0) = false := by simpa using hd4
          clear hne hk hd1 hd2 hd3 hd4
          go_wp2
          go_ret
          exact ⟨rfl, HB0.out.trans (HB5.out.mono HB0.out.size)⟩
end Go.Proofs.YtcdmmcogegnieaaGreatDoor.ls
end
