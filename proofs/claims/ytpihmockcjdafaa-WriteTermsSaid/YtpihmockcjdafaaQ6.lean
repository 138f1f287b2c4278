/- The program's reader: named.; The program's reader: operand.; The program's reader: term, and the closure that takes a term within it.; The program's reader: term, whole.; The program's reader: sentence.; The next token: what the machine of modes makes of the bytes where a token begins.; The next token: the scanner's next.; The scan's deferred closure: a scanner that gave up, or none.; lex's scan, Tokens: a text as tokens, or its place and error.; Sentences in memory; the deferred closure of sentences.; The program's reader: sentences. -/
import Derived.Test.YtpihmockcjdafaaQ5
import Derived.Laws.ResultCell
import Derived.Deep.RegionHeld3
import Derived.Deep.RegionWith
import Derived.Test.YtpihmockcjdafaaQ4
import Derived.Deep.RegionLaw
import Derived.Defers
import Derived.Recover
import Derived.Lib.Walk
import Derived.Deep.Onto
set_option linter.unusedVariables false
set_option linter.unusedSimpArgs false
section
/- The program's reader: named. -/
namespace Go.Proofs.Ytpihmockcjdafaa.rd
open Go.RowKit
open Go.Proofs.Ytpihmockcjdafaa.op (bs strC Both Tb progI progP tupI)
open Go.Proofs.Ytpihmockcjdafaa.lx (Tok Tk tcell tcells cell_at ieq_yes ieq_no)
set_option maxRecDepth 20000

theorem ret_pair {fn : Func} {p u : Tmp} (h : fn.results = #[.cell p 24, .tmp u]) (tmps : Array Value) (w : World) {g : Nat} {a b c d : Value} (hp : tmps.getD p undef = .pointer (some ⟨g, 0, none⟩)) (hg : w.heap[g]? = some (.cells #[a, b, c, d] 24 (0, 0))) :
    (results fn tmps).run Try.prog w = .ok (.tuple #[.agg #[a, b, c, d], tmps.getD u undef]) w := by
  rw [results_cell_tmp h, hp]
  simp [asAddr, run_loadVar_row w g 24 24 _ _ _ hg Try.underlying24 rfl term_info, Result.andThen]
/-- a token's cells -/
def TkC (t : Tok) : Obj := .cells #[.int .i64 (t.kind : Nat), .string (bs t.text), .int .i64 (t.frm : Nat), .int .i64 (t.to : Nat)] 48
theorem nx_eta (L : List Tok) (e i : Nat) : nx ((ab L).drop i) = ⟨(tokAt L e i).kind, (tokAt L e i).text, (nx ((ab L).drop i)).near⟩ := by
  rw [← (nx_tok L e i).1, ← (nx_tok L e i).2]
theorem named_eq (x : W) (most : Int) (L : List Tok) (e i : Nat) (nm : List (List UInt8)) (hk : (tokAt L e i).kind = 1) : namedP x most ((ab L).drop i, nm) =
    if (tokAt L e (i + 1)).kind = 4 then
      match rowP x ((ab L).drop (i + 2), nm) with
      | .error k => .error k
      | .ok (l, s2) => if isM (nx s2.1) [41] = true then .ok ((.cmp (tokAt L e i).text l, 0), (s2.1.tail, s2.2)) else .error 50
    else if (tokAt L e i).text = [45] ∧ (tokAt L e (i + 1)).kind = 3 ∧ (tokAt L e (i + 1)).frm = (tokAt L e i).to then zeroP (intP [45] ((ab L).drop (i + 1), nm))
    else if (progP (tokAt L e i).text).2.2 = true ∧ (progP (tokAt L e i).text).1 ≤ most ∧ mayB (nx ((ab L).drop (i + 1))) = true then
      match x (progP (tokAt L e i).text).2.1 ((ab L).drop (i + 1), nm) with
      | .error k => .error k
      | .ok (t, s2) => .ok ((.cmp (tokAt L e i).text [t], (progP (tokAt L e i).text).1), s2)
    else .ok ((.leaf 3 0 (tokAt L e i).text, 0), ((ab L).drop (i + 1), nm)) := by
  have h2 : (nx ((ab L).drop i)).text = (tokAt L e i).text := (nx_tok L e i).2
  have h3 : (nx ((ab L).drop (i + 1))).kind = (tokAt L e (i + 1)).kind := (nx_tok L e (i + 1)).1
  have hn : (tokAt L e (i + 1)).kind = 3 → ((nx ((ab L).drop i)).near = true ↔ (tokAt L e (i + 1)).frm = (tokAt L e i).to) := fun hk3 => by
    rw [nx_near L e i (lt_of_kind (e := e) (by omega))]
    unfold nearB
    simp [hk]
  unfold namedP expectP
  simp only [tail_drop, h2, h3]
  by_cases c1 : (tokAt L e (i + 1)).kind = 4
  · rw [if_pos c1, if_pos c1]
    rcases rowP x ((ab L).drop (i + 2), nm) with k | ⟨l, s2⟩
    · rfl
    · dsimp only
      cases isM (nx s2.1) [41] <;> rfl
  · rw [if_neg c1, if_neg c1]
    by_cases c2 : (tokAt L e i).text = [45] ∧ (tokAt L e (i + 1)).kind = 3 ∧ (tokAt L e (i + 1)).frm = (tokAt L e i).to
    · rw [if_pos c2, if_pos ⟨c2.1, c2.2.1, (hn c2.2.1).2 c2.2.2⟩]
    · rw [if_neg c2, if_neg fun h => c2 ⟨h.1, h.2.1, (hn h.2.1).1 h.2.2⟩]
      rfl

theorem minus_beq (n : List UInt8) : ((bs n).toList == [45]) = decide (n = [45]) := by
  rw [ByteArray.toList_eq]
  show (n == [45]) = _
  by_cases h : n = [45] <;> simp [h]
theorem prefix_bound (n : List UInt8) : -10000 ≤ (progP n).2.1 ∧ (progP n).2.1 ≤ 10000 := by
  by_cases h : n ∈ op.rowsP.map (·.1)
  · exact (by decide +kernel : ∀ n ∈ op.rowsP.map (·.1), -10000 ≤ (progP n).2.1 ∧ (progP n).2.1 ≤ 10000) n h
  · unfold progP; rw [op.find_not h]; decide
theorem set4_other {W : World} {g k : Nat} (h : k ≠ g) (j : Nat) (a b c d : Value) : ((((W.setCell ⟨g, 0, none⟩ a).setCell ⟨g, 1, none⟩ b).setCell ⟨g, 2, none⟩ c).setCell ⟨g, 3, none⟩ d).cell? ⟨k, j, none⟩ = W.cell? ⟨k, j, none⟩ := by
  have e : ∀ (W : World) (m : Nat) (v : Value), (W.setCell ⟨g, m, none⟩ v).heap[k]? = W.heap[k]? := fun W m v => Below.heap_setCell _ _ _ _ (by show k ≠ g; exact h)
  exact World.cell?_of_block (((e _ _ _).trans (e _ _ _)).trans ((e _ _ _).trans (e _ _ _)))
theorem tkcell_alloc {w : World} {k : Nat} {a b c d : Value} {t : TypeId} (h : w.heap[k]? = some (.cells #[a, b, c, d] t (0, 0))) (o : Obj) : (w.alloc o).cell? ⟨k, 1, none⟩ = some b := by
  rw [cell_at ((Lib.alloc_old w o k (lt_of h)).trans h)]; rfl
end Go.Proofs.Ytpihmockcjdafaa.rd
end
section
/- The program's reader: operand. -/
namespace Go.Proofs.Ytpihmockcjdafaa.rd
open Go.RowKit
open Go.Proofs.Ytpihmockcjdafaa.op (bs strC Both Tb progI progP tupI)
open Go.Proofs.Ytpihmockcjdafaa.lx (Tok Tk tcell tcells cell_at ieq_yes ieq_no)
set_option maxRecDepth 20000

theorem operand_eq (x : W) (most : Int) (L : List Tok) (e i : Nat) (nm : List (List UInt8)) : operandP x most ((ab L).drop i, nm) =
    if (tokAt L e i).kind = 1 then namedP x most ((ab L).drop i, nm)
    else if (tokAt L e i).kind = 2 then zeroP (.ok (varP ((ab L).drop i, nm)))
    else if (tokAt L e i).kind = 3 then zeroP (intP [] ((ab L).drop i, nm))
    else if (tokAt L e i).kind = 4 then zeroP (bracketP x [41] ((ab L).drop (i + 1), nm))
    else zeroP (markedP x ((ab L).drop i, nm)) := by
  unfold operandP
  simp only [tail_drop, (nx_tok L e i).1]
  rfl
end Go.Proofs.Ytpihmockcjdafaa.rd
end
section
/- The program's reader: term, and the closure that takes a term within it. -/
namespace Go.Proofs.Ytpihmockcjdafaa.rd
open Go.RowKit
open Go.Proofs.Ytpihmockcjdafaa.op (bs strC Both Tb progI progP tupI)
open Go.Proofs.Ytpihmockcjdafaa.lx (Tok Tk tcell tcells cell_at ieq_yes ieq_no)
set_option maxRecDepth 20000

theorem loop_stop (x : W) (most : Int) (f : Nat) (t : T) (prio : Int) (s : St) (h : (infixK (nx s.1)).2.2.2 = false ∨ most < (infixK (nx s.1)).1 ∨ (infixK (nx s.1)).2.1 < prio) : loopP x most f t prio s = .ok (t, s) := by
  cases f with
  | zero => rfl
  | succ f => rw [loopP]; exact if_pos h
theorem loop_err (x : W) (most : Int) (f : Nat) (t : T) (prio : Int) (s : St) (h : ¬ ((infixK (nx s.1)).2.2.2 = false ∨ most < (infixK (nx s.1)).1 ∨ (infixK (nx s.1)).2.1 < prio)) {k : Nat} (hx : x (infixK (nx s.1)).2.2.1 (s.1.tail, s.2) = .error k) :
    loopP x most (f + 1) t prio s = .error k := by
  rw [loopP, if_neg h, hx]
theorem loop_go (x : W) (most : Int) (f : Nat) (t : T) (prio : Int) (s : St) (h : ¬ ((infixK (nx s.1)).2.2.2 = false ∨ most < (infixK (nx s.1)).1 ∨ (infixK (nx s.1)).2.1 < prio)) {u : T} {s' : St} (hx : x (infixK (nx s.1)).2.2.1 (s.1.tail, s.2) = .ok (u, s')) :
    loopP x most (f + 1) t prio s = loopP x most f (.cmp (nx s.1).text [t, u]) (infixK (nx s.1)).1 s' := by
  rw [loopP, if_neg h, hx]
theorem infix_lt {L : List Tok} {j : Nat} (h : (infixK (nx ((ab L).drop j))).2.2.2 = true) : j < L.length := by
  rcases Nat.lt_or_ge j L.length with h1 | h1
  · exact h1
  · rw [nx_nil L j h1] at h; simp [infixK, K0, isM] at h
theorem infix_bound (k : K) : -10000 ≤ (infixK k).2.2.1 ∧ (infixK k).2.2.1 ≤ 10000 := by
  unfold infixK
  split
  · rcases op.sides k.text with h | ⟨_, h1, h2, h3, h4, h5, h6, _⟩
    · rw [h]; decide
    · omega
  · decide
end Go.Proofs.Ytpihmockcjdafaa.rd
end
section
/- The program's reader: term, whole. -/
namespace Go.Proofs.Ytpihmockcjdafaa.rd
open Go.RowKit
open Go.Proofs.Ytpihmockcjdafaa.op (bs strC Both Tb progI progP tupI)
open Go.Proofs.Ytpihmockcjdafaa.lx (Tok Tk tcell tcells cell_at ieq_yes ieq_no)
set_option maxRecDepth 20000

theorem alloc3 (w : World) (o1 o2 o3 : Obj) : (((w.alloc o1).alloc o2).alloc o3).heap[w.heap.size]? = some o1 ∧ (((w.alloc o1).alloc o2).alloc o3).heap[w.heap.size + 1]? = some o2 ∧ (((w.alloc o1).alloc o2).alloc o3).heap[w.heap.size + 1 + 1]? = some o3 ∧
    (((w.alloc o1).alloc o2).alloc o3).heap.size = w.heap.size + 1 + 1 + 1 ∧ Below w.heap.size w (((w.alloc o1).alloc o2).alloc o3) := by
  have z1 := size_alloc w o1
  have z2 := size_alloc (w.alloc o1) o2
  have h2 := heap_alloc_new (w.alloc o1) o2
  have h3 := heap_alloc_new ((w.alloc o1).alloc o2) o3
  rw [z1] at z2 h2
  rw [z2] at h3
  exact ⟨(Lib.alloc_old _ o3 _ (by omega)).trans ((Lib.alloc_old _ o2 _ (by omega)).trans (heap_alloc_new w o1)), (Lib.alloc_old _ o3 _ (by omega)).trans h2, h3, by rw [size_alloc, z2],
    (((Below.refl w.heap.size w).alloc (Nat.le_refl _) o1).alloc (by omega) o2).alloc (by omega) o3⟩
end Go.Proofs.Ytpihmockcjdafaa.rd
end
section
/- The program's reader: sentence. -/
namespace Go.Proofs.Ytpihmockcjdafaa.rd
open Go.RowKit
open Go.Proofs.Ytpihmockcjdafaa.op (bs strC Both Tb progI progP tupI)
open Go.Proofs.Ytpihmockcjdafaa.lx (Tok Tk tcell tcells cell_at ieq_yes ieq_no)
set_option maxRecDepth 20000

theorem Fr.low {r b : Nat} {w w' : World} (h : Fr r b w w') (hb : r < b) (hz : r < w.heap.size) : Below r w w' :=
  ⟨h.os, h.tape, h.output, h.size, fun k hk => h.block k (by omega) (by omega) (.inl (by omega))⟩
theorem sent_info : (Try.prog.info? 29).map (·.size) = some 5 := by kernel_rfl
theorem cells5 {W : World} {g : Nat} {t : TypeId} {a b c d e : Value} (h : W.heap[g]? = some (.cells #[a, b, c, d, e] t (0, 0))) :
    W.cell? ⟨g, 0, none⟩ = some a ∧ W.cell? ⟨g, 1, none⟩ = some b ∧ W.cell? ⟨g, 2, none⟩ = some c ∧ W.cell? ⟨g, 3, none⟩ = some d ∧ W.cell? ⟨g, 4, none⟩ = some e ∧ ∀ j, W.frozen? ⟨g, j, none⟩ = false :=
  ⟨by rw [cell_at h]; rfl, by rw [cell_at h]; rfl, by rw [cell_at h]; rfl, by rw [cell_at h]; rfl, by rw [cell_at h]; rfl, fun j => by simp [World.frozen?, h]⟩
theorem set5 {W : World} {g : Nat} {t : TypeId} {a0 a1 a2 a3 a4 : Value} (h : W.heap[g]? = some (.cells #[a0, a1, a2, a3, a4] t (0, 0))) (a b c d e : Value) :
    (((((W.setCell ⟨g, 0, none⟩ a).setCell ⟨g, 1, none⟩ b).setCell ⟨g, 2, none⟩ c).setCell ⟨g, 3, none⟩ d).setCell ⟨g, 4, none⟩ e).heap[g]? = some (.cells #[a, b, c, d, e] t (0, 0)) :=
  heap_set_at (heap_set_at (heap_set_at (heap_set_at (heap_set_at h))))
theorem ret_sent {fn : Func} {p : Tmp} (h : fn.results = #[.cell p 29]) (tmps : Array Value) (w : World) {g : Nat} {a b c d e : Value} (hp : tmps.getD p undef = .pointer (some ⟨g, 0, none⟩)) (hg : w.heap[g]? = some (.cells #[a, b, c, d, e] 29 (0, 0))) :
    (results fn tmps).run Try.prog w = .ok (.agg #[a, b, c, d, e]) w := results_cell_row h tmps w g _ _ _ _ hp hg Try.underlying29 rfl sent_info
end Go.Proofs.Ytpihmockcjdafaa.rd
end
section
/- The next token: what the machine of modes makes of the bytes where a token begins. -/
namespace Go.Proofs.Ytpihmockcjdafaa.lx
open Go.RowKit

theorem ans_start (M : Nat) (b : UInt8) (l : List UInt8) (ts : List Tok) (n : Nat) (h1 : cl b ≠ 1) (h2 : b ≠ 37) (h3 : b ≠ 47) :
    ans M (b :: l) ts n .btw = if cl b = 0 then .bad n 30 else if ts.length = M then .bad n 34 else match opening ts n b with | .go ts' m' => ans M l ts' (n + 1) m' | .bad p e => .bad p e := by
  rw [ans_cons, step, start, if_neg h1, if_neg h2, if_neg h3]
  by_cases h0 : cl b = 0
  · rw [if_pos h0, if_pos h0]
  · rw [if_neg h0, if_neg h0]
    by_cases hM : ts.length = M
    · rw [if_pos hM, if_pos hM]
    · rw [if_neg hM, if_neg hM]
      cases opening ts n b <;> rfl
theorem ans_slash (M : Nat) (l : List UInt8) (ts : List Tok) (n : Nat) (h : ∀ r, l ≠ 42 :: r) :
    ans M (47 :: l) ts n .btw = if ts.length = M then .bad n 34 else ans M l ts (n + 1) (.word 5 n [47]) := by
  rw [ans_cons, step, start, if_neg (by decide), if_neg (by decide), if_pos rfl]
  cases l with
  | nil =>
    simp only [ans_nil, fin]
    by_cases hM : ts.length = M
    · rw [if_pos hM, if_pos hM]
    · rw [if_neg hM, if_neg hM]; rfl
  | cons b r =>
    have hb : b ≠ 42 := fun e => h r (by rw [e])
    simp only [ans_cons, step]
    rw [if_neg hb]
    by_cases hM : ts.length = M
    · rw [if_pos hM, if_pos hM]
    · rw [if_neg hM, if_neg hM, (joinB_name (cl b)).2.2.2]
      by_cases h5 : cl b = 5
      · rw [if_pos h5, if_pos (by simpa using h5)]; rfl
      · rw [if_neg h5, if_neg (by simpa using h5)]; rfl
/-- a '.' that begins a token -/
theorem ans_dot (M : Nat) (l : List UInt8) (ts : List Tok) (n : Nat) :
    ans M l ts (n + 1) (.dot n) = if (match l with | [] => true | b :: _ => cl b == 1 || b == 37) = true then ans M l (ts ++ [⟨6, [46], n, n + 1⟩]) (n + 1) .btw else ans M l ts (n + 1) (.word 5 n [46]) := by
  cases l with
  | nil => rfl
  | cons b r =>
    simp only [ans_cons, step]
    rw [(joinB_name (cl b)).2.2.2]
    by_cases h5 : cl b = 5
    · have h37 : b ≠ 37 := fun e => by rw [e] at h5; exact absurd h5 (by decide)
      rw [if_pos h5, if_neg (by simp [h5, h37]), if_pos (by simpa using h5)]; rfl
    · rw [if_neg h5]
      by_cases h1 : cl b = 1 ∨ b = 37
      · rw [if_pos h1, if_pos (by simpa using h1)]
      · rw [if_neg h1, if_neg (by simpa using h1), if_neg (by simpa using h5)]; rfl
/-- a word, whole -/
theorem ans_word_all (M y : Nat) (s : ByteArray) (n : Nat) (ts : List Tok) (_hn : n < s.size) :
    ans M (s.data.toList.drop (n + 1)) ts (n + 1) (.word y n [bA s n]) =
      ans M (s.data.toList.drop (n + 1 + (wordL s n y).length)) (ts ++ [⟨kindOf y, bA s n :: wordL s n y, n, n + 1 + (wordL s n y).length⟩]) (n + 1 + (wordL s n y).length) .btw := by
  have hsp : s.data.toList.drop (n + 1) = wordL s n y ++ (s.data.toList.drop (n + 1)).dropWhile fun b => joinB y (cl b) := (List.takeWhile_append_dropWhile).symm
  have hd : s.data.toList.drop (n + 1 + (wordL s n y).length) = (s.data.toList.drop (n + 1)).dropWhile fun b => joinB y (cl b) := by
    rw [← List.drop_drop]
    conv => lhs; rw [hsp]
    rw [List.drop_left]
  rw [hd]
  conv => lhs; rw [hsp]
  rw [ans_word M y n (wordL s n y) _ _ _ _ (fun b hb => List.all_eq_true.1 (List.all_takeWhile (p := fun b => joinB y (cl b)) (l := s.data.toList.drop (n + 1))) b hb)]
  rw [ans_word_end]
  · rfl
  · intro b r hbr
    have := List.head?_dropWhile_not (fun b => joinB y (cl b)) (s.data.toList.drop (n + 1))
    rw [hbr] at this
    simpa using this

theorem wordL_none {s : ByteArray} {n y : Nat} (h : ∀ b r, s.data.toList.drop (n + 1) = b :: r → joinB y (cl b) = false) : wordL s n y = [] := by
  unfold wordL
  cases hd : s.data.toList.drop (n + 1) with
  | nil => rfl
  | cons b r => rw [List.takeWhile_cons, if_neg (by rw [h b r hd]; decide)]

theorem next_word (M : Nat) {s : ByteArray} {n : Nat} (ts : List Tok) (hn : n < s.size) (hst : Stop s n) (h0 : cl (bA s n) ≠ 0) (h6 : cl (bA s n) ≠ 6) (hM : ts.length ≠ M) :
    ans M (s.data.toList.drop n) ts n .btw = ans M (s.data.toList.drop (n + 1 + (wordL s n (cl (bA s n))).length))
      (ts ++ [⟨kindS s n ts (cl (bA s n)), bA s n :: wordL s n (cl (bA s n)), n, n + 1 + (wordL s n (cl (bA s n))).length⟩]) (n + 1 + (wordL s n (cl (bA s n))).length) .btw := by
  obtain ⟨h1, h2, h3⟩ := hst hn
  have hb := bA_le s n
  by_cases h47 : bA s n = 47
  · rw [drop_bA hn, h47, ans_slash, if_neg hM]
    · have e5 : cl (47 : UInt8) = 5 := by decide
      have hk : kindS s n ts 5 = kindOf 5 := by
        unfold kindS endsB; rw [h47]; rfl
      rw [e5, hk]
      have := ans_word_all M 5 s n ts hn
      rw [h47] at this; exact this
    · intro r hr
      rw [drop_bA hn, h47, hr] at h3
      exact absurd h3 (by simp [Lib.hasPrefix])
  rw [drop_bA hn, ans_start M _ _ ts n h1 h2 h47, if_neg h0, if_neg hM]
  unfold opening
  rw [if_neg h6]
  by_cases h7 : cl (bA s n) = 7
  · rw [if_pos h7]
    have hw : wordL s n (cl (bA s n)) = [] := wordL_none fun b r _ => by rw [h7]; rfl
    rw [hw, h7]; rfl
  rw [if_neg h7]
  by_cases h8 : cl (bA s n) = 8
  · rw [if_pos h8]
    have hw : wordL s n (cl (bA s n)) = [] := wordL_none fun b r _ => by rw [h8]; rfl
    rw [hw, h8]
    have hk : kindS s n ts 8 = if bA s n = 40 ∧ opens ts n = true then 4 else 5 := by
      unfold kindS
      rw [if_neg (by decide), if_neg (by decide), if_pos rfl]
      by_cases hp : bA s n = 40 ∧ opens ts n = true
      · rw [if_pos (by simp [hp]), if_pos hp]
      · rw [if_neg (by simpa using hp), if_neg hp]
    rw [hk]; rfl
  rw [if_neg h8]
  by_cases h46 : bA s n = 46
  · rw [if_pos h46]
    simp only
    have e5 : cl (bA s n) = 5 := by rw [h46]; decide
    rw [ans_dot, e5]
    have he : (match s.data.toList.drop (n + 1) with | [] => true | b :: _ => cl b == 1 || b == 37) = endsB s n := by
      unfold endsB
      rw [h46]
      by_cases hlt : n + 1 < s.size
      · rw [drop_bA hlt]
        simp only
        rw [show (n + 1 == s.size) = false from by simp; omega, Bool.false_or, Bool.or_comm]; rfl
      · rw [drop_end (k := n + 1) (by omega), show (n + 1 == s.size) = true from by simp; omega]; rfl
    rw [he]
    by_cases hE : endsB s n = true
    · rw [if_pos hE]
      have hw : wordL s n 5 = [] := wordL_none fun b r hbr => by
        rw [hbr] at he
        simp only at he
        rw [hE] at he
        rw [(joinB_name (cl b)).2.2.2]
        rcases Bool.or_eq_true_iff.1 he with h | h
        · rw [beq_iff_eq] at h; rw [h]; rfl
        · rw [beq_iff_eq] at h; rw [h]; decide
      have hk : kindS s n ts 5 = 6 := by unfold kindS; rw [if_neg (by decide), if_neg (by decide), if_neg (by decide), if_pos rfl, if_pos hE]
      rw [hw, hk, h46]; rfl
    · rw [if_neg hE]
      have hk : kindS s n ts 5 = kindOf 5 := by unfold kindS; rw [if_neg (by decide), if_neg (by decide), if_neg (by decide), if_pos rfl, if_neg hE]; rfl
      rw [hk]
      have := ans_word_all M 5 s n ts hn
      rw [h46] at this ⊢; exact this
  rw [if_neg h46]
  have hk : kindS s n ts (cl (bA s n)) = kindOf (cl (bA s n)) := by
    unfold kindS kindOf
    by_cases a3 : cl (bA s n) = 3
    · rw [if_pos a3, if_pos a3]
    rw [if_neg a3, if_neg a3]
    by_cases a4 : cl (bA s n) = 4
    · rw [if_pos a4, if_pos a4]
    rw [if_neg a4, if_neg a4, if_neg h8]
    by_cases a5 : cl (bA s n) = 5
    · rw [if_pos a5, if_neg]
      unfold endsB
      simp [h46]
    · rw [if_neg a5]
  rw [hk]
  exact ans_word_all M _ s n ts hn
theorem next_quote (M : Nat) {s : ByteArray} {n : Nat} (ts : List Tok) (hn : n < s.size) (h6 : cl (bA s n) = 6) (hM : ts.length ≠ M) :
    ans M (s.data.toList.drop n) ts n .btw = ans M (s.data.toList.drop (n + 1)) ts (n + 1) (.quo n []) := by
  have h37 : bA s n ≠ 37 := fun e => by rw [e] at h6; exact absurd h6 (by decide)
  have h47 : bA s n ≠ 47 := fun e => by rw [e] at h6; exact absurd h6 (by decide)
  rw [drop_bA hn, ans_start M _ _ ts n (by omega) h37 h47, if_neg (by omega), if_neg hM]
  unfold opening
  rw [if_pos h6]
theorem next_alien (M : Nat) {s : ByteArray} {n : Nat} (ts : List Tok) (hn : n < s.size) (hst : Stop s n) (h0 : cl (bA s n) = 0) : ans M (s.data.toList.drop n) ts n .btw = .bad n 30 := by
  obtain ⟨h1, h2, h3⟩ := hst hn
  have h47 : bA s n ≠ 47 := fun e => by rw [e] at h0; exact absurd h0 (by decide)
  rw [drop_bA hn, ans_start M _ _ ts n h1 h2 h47, if_pos h0]
theorem next_many (M : Nat) {s : ByteArray} {n : Nat} (ts : List Tok) (hn : n < s.size) (hst : Stop s n) (h0 : cl (bA s n) ≠ 0) (hM : ts.length = M) : ans M (s.data.toList.drop n) ts n .btw = .bad n 34 := by
  obtain ⟨h1, h2, h3⟩ := hst hn
  by_cases h47 : bA s n = 47
  · rw [drop_bA hn, h47, ans_slash, if_pos hM]
    intro r hr
    rw [drop_bA hn, h47, hr] at h3
    exact absurd h3 (by simp [Lib.hasPrefix])
  · rw [drop_bA hn, ans_start M _ _ ts n h1 h2 h47, if_neg h0, if_pos hM]
end Go.Proofs.Ytpihmockcjdafaa.lx
end
section
/- The next token: the scanner's next. -/
namespace Go.Proofs.Ytpihmockcjdafaa.lx
open Go.RowKit

def NextP (B c : Nat) (s : ByteArray) (ts : List Tok) (n : Nat) (w : World) (e : Ending) (w' : World) : Prop :=
  Below B w w' ∧ ((∃ m v' ts', e = .returned (.tuple #[]) ∧ Sc B c s m v' ts' w' ∧ n < m ∧ m ≤ s.size ∧ ts'.length ≤ 1000 ∧ ans 1000 (s.data.toList.drop n) ts n .btw = ans 1000 (s.data.toList.drop m) ts' m .btw) ∨
    (∃ p k, e = Wrong p k ∧ ans 1000 (s.data.toList.drop n) ts n .btw = .bad p k))

theorem tok_info : (Try.prog.info? 48).map (fun i => (i.zero, i.size, i.bytes)) = some (some (.agg #[.int .i64 0, .string ⟨#[]⟩, .int .i64 0, .int .i64 0]), 4, 40) := by kernel_rfl

/-- append to a slice of one's own, as one step of a region that draws -/
theorem step_append_own {P : Program} {ops : Array Oper} {o : Oper} {a : Act} {w : World} {K : Act → World → Prop} {Q : Exit → Act → World → Prop} {E : Prop} (hg : o.guard = none) (s x : Operand) (t : TypeId)
    (ho : o.op = .call { callee := .builtin .append, args := #[s, x], argTypes := #[t, t] })
    (base : Nat) (e : TypeId) (i : TypeInfo) (z : Value) (size bytes : Nat) (ht : P.underlying t = some (.slice e)) (hi : P.info? e = some i) (hz : i.zero = some z)
    (hsize : i.size = size) (hby : i.bytes = bytes) (hzs : z.cells.size = size) (hsz : 0 < size)
    (v : Value) (n : Nat) (xs : List Value) (hs : a.eval s = v) (hown : w.ownsRow base e size v n xs)
    (ad : Addr) (m c : Nat) (news : List Value) (hx : a.eval x = .slice (some ad) m c) (hl : news.length = m * size) (hnews : ∀ j u, news[j]? = some u → w.cell? (ad.add j) = some u) (h1 : ∀ u ∈ news, u.oneCell' = true)
    (h63 : n + m ≤ maxLen) (hbytes : (n + m) * bytes ≤ 140737488355328) (hbase : base ≤ w.heap.size)
    (h : ∀ v' w', w'.ownsRow base e size v' (n + m) (xs ++ news) → w.grownBy w' v.ownBlock → K (a.put o.dst v') w') :
    if Region.wanted o (yielded ops a.tmps) = true then Oper.wp P o a w K Q else E := by
  have hw : Region.wanted o (yielded ops a.tmps) = true := by simp [Region.wanted, hg]
  rw [if_pos hw]
  exact wp_append_own w s x t ho base e i z size bytes ht hi hz hsize hby hzs hsz v n xs hs hown ad m c news hx hl hnews h1 h63 hbytes hbase (fun v' w' a b _ => h v' w' a b)

theorem news_at (W : World) (T : Tok) : ∀ j u, (tcell T)[j]? = some u → ((W.alloc (.cells (tcell T).toArray 48)).drew).cell? ((⟨W.heap.size, 0, none⟩ : Addr).add j) = some u := by
  intro j u hj
  have e : (⟨W.heap.size, 0, none⟩ : Addr).add j = ⟨W.heap.size, j, none⟩ := by
    by_cases h0 : j = 0
    · subst h0; simp [Addr.add]
    · simp [Addr.add, h0]
  rw [e]
  have hb : ((W.alloc (.cells (tcell T).toArray 48)).drew).heap[W.heap.size]? = some (.cells (tcell T).toArray 48 (0, 0)) := heap_alloc_new W _
  rw [cell_at hb]
  simpa using hj
theorem news_one (T : Tok) : ∀ u ∈ tcell T, u.oneCell' = true := by
  intro u hu; simp [tcell] at hu; rcases hu with rfl | rfl | rfl | rfl <;> rfl
/-- a token more -/
theorem Sc.pushed {B c m : Nat} {s : ByteArray} {v : Value} {ts : List Tok} {W : World} (h : Sc B c s m v ts W) (hB : B ≤ W.heap.size) (o : Obj) (T : Tok) {v' : Value} {w4 : World}
    (hown : w4.ownsRow B 48 4 v' (ts.length + 1) (tcells ts ++ tcell T)) (hgr : ((W.alloc o).drew).grownBy w4 v.ownBlock) :
    (∃ a' cap', v' = .slice (some a') (ts.length + 1) cap') ∧ w4.cell? ⟨c, 2, none⟩ = some v ∧ w4.frozen? ⟨c, 2, none⟩ = false ∧ Below B W w4 ∧ Sc B c s m v' (ts ++ [T]) (w4.setCell ⟨c, 2, none⟩ v') := by
  have hlt := h.lt
  have hsz : W.heap.size < (W.alloc o).drew.heap.size := by show _ < (W.heap.push o).size; simp
  have hb4 : w4.heap[c]? = some (.cells #[.string s, .int .i64 (m : Nat), v] 113 (0, 0)) := by
    rw [hgr.block c (by omega) (fun e => h.other e.symm)]
    exact (Lib.alloc_old W o c hlt).trans h.block
  have hTk : Tk B w4 v' (ts ++ [T]) := by
    unfold Tk; rw [tcells_append, List.length_append]; simpa [tcells] using hown
  have hne : v'.ownBlock ≠ some c := by
    rcases hown.2 with ⟨h1, _⟩ | ⟨g, cap, cur, h1, _, h3, _⟩
    · rw [h1]; simp [Value.ownBlock]
    · rw [h1]; intro e; cases e
      rw [hb4] at h3; simp at h3
  refine ⟨?_, by rw [cell_at hb4]; rfl, by simp [World.frozen?, hb4], ?_, h.base, ?_, hTk.kp ((Kp.refl c w4).set 2 _) hne, hne⟩
  · rcases hown.2 with ⟨_, h1⟩ | ⟨g, cap, cur, h1, _⟩
    · omega
    · exact ⟨_, _, h1⟩
  · exact ((Below.refl B W).alloc hB o).drew.grown hgr (by omega) (fun k hk => ((World.ownsRow.lt h.row) k hk).1)
  · simp [World.setCell, Array.getElem?_modify, hb4]

set_option maxHeartbeats 4000000 in
theorem next_c {B c n : Nat} {s : ByteArray} {v : Value} {ts : List Tok} {w : World} (h : Sc B c s n v ts w) (hB : B ≤ w.heap.size) (hn : n < s.size) (hs : s.size ≤ 4096) (hst : Stop s n) (hts : ts.length ≤ 1000) :
    Calls Try.prog 79 #[.pointer (some ⟨c, 0, none⟩)] w (NextP B c s ts n w) := by
  obtain ⟨a, cap, rfl⟩ := h.row.shape
  obtain ⟨i0, hi, hz0, hz1, hz2⟩ := info_parts tok_info
  have c0 := h.c0
  have c1 := h.c1
  have hh := Lib.hid h
  have hgt := get_bA s
  have hn2 : (n : Int) < s.size := by omega
  have kc := class_c (bA s n).toNat (bA_le s _)
  clear h
  have hst' := Lib.hid hst
  clear hst
  go_enter Try.func79, Try.ntmps79
  go_wp2
  go_quiet ((go_at_call 80; exact still0 kc))
  generalize hw2 : World.drewN w _ = w2
  have hS := Lib.hid (show Sc B c s n (.slice a ts.length cap) ts w2 by rw [← hw2]; exact hh.out.drew _)
  have hK := Lib.hid (show Kp c w w2 by rw [← hw2]; exact Kp.drawn ..)
  clear hw2 c0 c1 hgt
  have c0 := hS.out.c0
  have c1 := hS.out.c1
  have c2 := hS.out.c2
  have hbel := Lib.hid (hK.out.below (Below.refl B w) hS.out.base hB)
  by_cases h0 : cl (bA s n) = 0
  · obtain ⟨a1, a2⟩ := ieq_yes (a := cls (bA s n).toNat) 0 (by unfold cl at h0; omega)
    have hq := Lib.hid (next_alien 1000 ts hn hst'.out h0)
    clear h0
    go_wp2
    exact ⟨rfl, hbel.out, .inr ⟨n, 30, rfl, hq.out⟩⟩
  obtain ⟨a1, a2⟩ := ieq_no (a := cls (bA s n).toNat) 0 (by unfold cl at h0; omega)
  have H0 := Lib.hid h0
  clear h0
  by_cases hM : ts.length = 1000
  · obtain ⟨b1, b2⟩ := ieq_yes (a := ts.length) 1000 (by omega)
    have hq := Lib.hid (next_many 1000 ts hn hst'.out H0.out hM)
    clear hM
    go_wp2
    exact ⟨rfl, hbel.out, .inr ⟨n, 34, rfl, hq.out⟩⟩
  obtain ⟨b1, b2⟩ := ieq_no (a := ts.length) 1000 (by omega)
  have HM := Lib.hid hM
  clear hM
  by_cases h6 : cl (bA s n) = 6
  · obtain ⟨d1, d2⟩ := ieq_yes (a := cls (bA s n).toNat) 6 (by unfold cl at h6; omega)
    have hq := Lib.hid (next_quote 1000 ts hn h6 HM.out)
    clear h6
    go_wp2_with fail
    refine (quoted_c hS.out hn hs).mono ?_
    rintro e w3 ⟨hk3, ⟨m, acc, rfl, hS3, hnm, hms, hqo⟩ | ⟨p, k, rfl, hqb⟩⟩
    · have HS := Lib.hid hS3
      have HK := Lib.hid hk3
      have HQ := Lib.hid hqo
      clear hS3 hk3 hqo c0 c1 c2
      have c1 := HS.out.c1
      have c2 := HS.out.c2
      go_wp2
      have c2' : ∀ o, (w3.alloc o).cell? ⟨c, 2, none⟩ = some (.slice a ts.length cap) := fun o => (HS.out.alloc o).c2
      have c1' : ∀ o, (w3.alloc o).cell? ⟨c, 1, none⟩ = some (.int .i64 (m : Nat)) := fun o => (HS.out.alloc o).c1
      have hz := Lib.hid (show B ≤ w3.heap.size by have := hbel.out.size; have := HK.out.size; omega)
      have hl := HM.out
      go_region_law ((refine step_append_own rfl (.tmp 50) (.tmp 59) 44 rfl B 48 i0 _ 4 40 Try.underlying44 hi hz0 hz1 hz2 rfl (by decide) (.slice a ts.length cap) ts.length (tcells ts) (by simp [Act.eval]) (World.ownsRow.alloc HS.out.row _) ⟨w3.heap.size, 0, none⟩ 1 1 (tcell ⟨1, acc, n, m⟩) (by simp [Act.eval]) rfl (news_at w3 ⟨1, acc, n, m⟩) (news_one _) (by unfold maxLen; omega) (by omega) (by have := hz.out; simp; omega) ?_; intro v' w4 hown hgr; obtain ⟨⟨a', cap', rfl⟩, g2, gf, gb, gs⟩ := HS.out.pushed hz.out _ ⟨1, acc, n, m⟩ hown hgr; have GB := Lib.hid gb; have GS := Lib.hid gs; clear gb gs hown hgr))
      all_goals
        go_end0
        refine ⟨((HK.out.below hbel.out HS.out.base (by have := hbel.out.size; omega)).trans GB.out).setCell HS.out.base _, .inl ⟨m, _, _, rfl, GS.out, hnm, hms, by rw [List.length_append, List.length_singleton]; omega, ?_⟩⟩
        rw [hq.out]; exact HQ.out 1000 ts
    · unfold Wrong
      exact ⟨rfl, hk3.below hbel.out hS.out.base (by have := hbel.out.size; omega), .inr ⟨p, k, rfl, by rw [hq.out]; exact hqb 1000 ts⟩⟩
  · obtain ⟨d1, d2⟩ := ieq_no (a := cls (bA s n).toNat) 6 (by unfold cl at h6; omega)
    have hq := Lib.hid (next_word 1000 ts hn hst'.out H0.out h6 HM.out)
    clear h6
    have kk := kind_c hS.out hn hs hts (cls (bA s n).toNat)
    go_wp2_with fail
    refine kk.mono ?_
    rintro e w3 ⟨rfl, hb3⟩
    have hS3 := Lib.hid (hS.out.stay hb3)
    have hb3' := Lib.hid (hbel.out.trans (hb3.mono (by have := hbel.out.size; omega)))
    clear hb3 kk
    go_wp2_with fail
    refine (word_c hS3.out hn hs (cls (bA s n).toNat)).mono ?_
    rintro e w4 ⟨rfl, hS4, hK4⟩
    have HS := Lib.hid hS4
    have HB4 := Lib.hid (hK4.below hb3'.out hS3.out.base (by have := hb3'.out.size; omega))
    have hmw := HS.out
    clear hS4 hK4 c0 c1 c2
    have hm4 : n + 1 + (wordL s n (cls (bA s n).toNat)).length ≤ s.size := by
      have := (List.takeWhile_prefix (l := s.data.toList.drop (n + 1)) fun b => joinB (cls (bA s n).toNat) (cl b)).length_le
      unfold wordL
      rw [List.length_drop] at this
      have hs2 : s.data.toList.length = s.size := by simp
      omega
    have hq2 := Lib.hid hq.out
    unfold cl at hq
    generalize hW : wordL s n (cls (bA s n).toNat) = W at *
    generalize hm : n + 1 + W.length = m at *
    have Hm := Lib.hid hm
    have HW := Lib.hid hW
    clear hm hW hmw
    generalize kindS s n ts (cls (bA s n).toNat) = kd at *
    have c1 := HS.out.c1
    have c2 := HS.out.c2
    have c2' : ∀ o, (w4.alloc o).cell? ⟨c, 2, none⟩ = some (.slice a ts.length cap) := fun o => (HS.out.alloc o).c2
    have c1' : ∀ o, (w4.alloc o).cell? ⟨c, 1, none⟩ = some (.int .i64 (m : Nat)) := fun o => (HS.out.alloc o).c1
    have hz := Lib.hid (show B ≤ w4.heap.size by have := HB4.out.size; omega)
    have hl := HM.out
    go_wp2
    go_region_law ((refine step_append_own rfl (.tmp 50) (.tmp 59) 44 rfl B 48 i0 _ 4 40 Try.underlying44 hi hz0 hz1 hz2 rfl (by decide) (.slice a ts.length cap) ts.length (tcells ts) (by simp [Act.eval]) (World.ownsRow.alloc HS.out.row _) ⟨w4.heap.size, 0, none⟩ 1 1 (tcell ⟨kd, bA s n :: W, n, m⟩) (by simp [Act.eval]) rfl (news_at w4 ⟨kd, bA s n :: W, n, m⟩) (news_one _) (by unfold maxLen; omega) (by omega) (by have := hz.out; simp; omega) ?_; intro v' w5 hown hgr; obtain ⟨⟨a', cap', rfl⟩, g2, gf, gb, gs⟩ := HS.out.pushed hz.out _ ⟨kd, bA s n :: W, n, m⟩ hown hgr; have GB := Lib.hid gb; have GS := Lib.hid gs; clear gb gs hown hgr))
    all_goals
      go_end0
      refine ⟨(HB4.out.trans GB.out).setCell HS.out.base _, .inl ⟨m, _, _, rfl, GS.out, by have := Hm.out; omega, hm4, by rw [List.length_append, List.length_singleton]; omega, ?_⟩⟩
      exact hq.out
end Go.Proofs.Ytpihmockcjdafaa.lx
end
section
/- The scan's deferred closure: a scanner that gave up, or none. -/
namespace Go.Proofs.Ytpihmockcjdafaa.lx
open Go.RowKit

theorem wpS_rest {P : Program} {fn : Func} {c₀ : Frame} {cs cs' : List Frame} {R : Ending → FrameMode → World → Prop} {u' : FrameMode} {c : Code} {a : Act} {w : World} (hcs : cs' = { c₀ with mode := u' } :: cs)
    (h : c.wp P (bodyPost P fn fun e w' => R e u' w') a w) : c.wpS P (bodyPostS P fn c₀ cs R) a cs' w := by
  refine wpS_of_wp fun b k cs2 => ?_
  obtain ⟨e, a', w', hq, hr⟩ := h b k cs2
  refine ⟨e, a', w', ?_, hr⟩
  cases e with
  | normal => exact ⟨hq.1, u', hcs, hq.2⟩
  | ret => exact ⟨hq.1, u', hcs, hq.2⟩
  | panic ch => exact ⟨hq.1, u', hcs, hq.2⟩
  | outgrown => exact ⟨u', hq⟩
  | exit id => exact hq
  | goto l => exact hq

set_option maxHeartbeats 1000000 in
theorem catch_idle (p q r : Addr) (w : World) :
    CallsD Try.prog 77 #[.pointer (some p), .pointer (some q), .pointer (some r)] .returning w fun e u' w' => e = .returned (.tuple #[]) ∧ u' = .returning ∧ w = w' := by
  refine callsD_of_wpS Try.func77 rfl fun c₀ cs hu => ?_
  apply wpS_seq
  apply wpS_region
  simp [wpOpsS, go_sem, recoverD, hu, Try.ntmps77, Exit.thenS]
  refine wpS_rest (u' := .returning) (by cases c₀; simp_all) ?_
  clear hu
  go_wp2
  go_end0
  exact ⟨rfl, rfl⟩

theorem catch_post (w : World) (a p k : Nat) (x0 : ∀ o, (w.alloc o).cell? ⟨a, 0, none⟩ = some (.slice none 0 0)) (x1 : ∀ o, (w.alloc o).cell? ⟨a + 1, 0, none⟩ = some (.int .i64 0)) (x2 : ∀ o, (w.alloc o).cell? ⟨a + 2, 0, none⟩ = some (.int .i64 0)) (hl : a + 2 < w.heap.size) {o : Obj} :
    Ending.returned (.tuple #[]) = .returned (.tuple #[]) ∧ FrameMode.panicking [{ v := .iface 110 (.agg #[.int .i64 (p : Nat), .int .i64 (k : Nat)]), recovered := true }] = FrameMode.panicking [{ v := .iface 110 (.agg #[.int .i64 (p : Nat), .int .i64 (k : Nat)]), recovered := true }] ∧
      (((((w.alloc o).setCell ⟨a, 0, none⟩ (.slice none 0 0)).setCell ⟨a + 1, 0, none⟩ (.int .i64 (p : Nat))).setCell ⟨a + 2, 0, none⟩ (.int .i64 (k : Nat))).drew).cell? ⟨a, 0, none⟩ = some (.slice none 0 0) ∧
      (((((w.alloc o).setCell ⟨a, 0, none⟩ (.slice none 0 0)).setCell ⟨a + 1, 0, none⟩ (.int .i64 (p : Nat))).setCell ⟨a + 2, 0, none⟩ (.int .i64 (k : Nat))).drew).cell? ⟨a + 1, 0, none⟩ = some (.int .i64 (p : Nat)) ∧
      (((((w.alloc o).setCell ⟨a, 0, none⟩ (.slice none 0 0)).setCell ⟨a + 1, 0, none⟩ (.int .i64 (p : Nat))).setCell ⟨a + 2, 0, none⟩ (.int .i64 (k : Nat))).drew).cell? ⟨a + 2, 0, none⟩ = some (.int .i64 (k : Nat)) ∧
      Below a w ((((w.alloc o).setCell ⟨a, 0, none⟩ (.slice none 0 0)).setCell ⟨a + 1, 0, none⟩ (.int .i64 (p : Nat))).setCell ⟨a + 2, 0, none⟩ (.int .i64 (k : Nat))).drew := by
  have n01 : (⟨a, 0, none⟩ : Addr) ≠ ⟨a + 1, 0, none⟩ := by intro e; cases e
  have n02 : (⟨a, 0, none⟩ : Addr) ≠ ⟨a + 2, 0, none⟩ := by intro e; injection e; omega
  have n12 : (⟨a + 1, 0, none⟩ : Addr) ≠ ⟨a + 2, 0, none⟩ := by intro e; injection e; omega
  have hx0 := x0 o
  have hx1 := x1 o
  have hx2 := x2 o
  refine ⟨rfl, rfl, ?_, ?_, ?_, ((((Below.refl a w).alloc (by omega) o).setCell (p := ⟨a, 0, none⟩) (Nat.le_refl _) _).setCell (p := ⟨a + 1, 0, none⟩) (Nat.le_succ _) _).setCell (p := ⟨a + 2, 0, none⟩) (by show a ≤ a + 2; omega) _ |>.drew⟩
  · show World.cell? (World.setCell _ _ _) _ = _
    rw [World.cell?_setCell_other _ _ _ _ n02.symm, World.cell?_setCell_other _ _ _ _ n01.symm, World.cell?_setCell_same _ _ _ hx0]
  · show World.cell? (World.setCell _ _ _) _ = _
    rw [World.cell?_setCell_other _ _ _ _ n12.symm, World.cell?_setCell_same _ _ _ ((World.cell?_setCell_other _ _ _ _ n01).trans hx1)]
  · show World.cell? (World.setCell _ _ _) _ = _
    rw [World.cell?_setCell_same _ _ _ ((World.cell?_setCell_other _ _ _ _ n12).trans ((World.cell?_setCell_other _ _ _ _ n02).trans hx2))]

set_option maxHeartbeats 1000000 in
theorem catch_wrong (a : Nat) (w : World) (p k : Nat) (h0 : w.cell? ⟨a, 0, none⟩ = some (.slice none 0 0)) (h1 : w.cell? ⟨a + 1, 0, none⟩ = some (.int .i64 0)) (h2 : w.cell? ⟨a + 2, 0, none⟩ = some (.int .i64 0))
    (f0 : w.frozen? ⟨a, 0, none⟩ = false) (f1 : w.frozen? ⟨a + 1, 0, none⟩ = false) (f2 : w.frozen? ⟨a + 2, 0, none⟩ = false) (hl : a + 2 < w.heap.size) :
    CallsD Try.prog 77 #[.pointer (some ⟨a, 0, none⟩), .pointer (some ⟨a + 1, 0, none⟩), .pointer (some ⟨a + 2, 0, none⟩)] (.panicking [{ v := .iface 110 (.agg #[.int .i64 (p : Nat), .int .i64 (k : Nat)]), recovered := false }]) w fun e u' w' =>
      e = .returned (.tuple #[]) ∧ u' = .panicking [{ v := .iface 110 (.agg #[.int .i64 (p : Nat), .int .i64 (k : Nat)]), recovered := true }] ∧
        w'.cell? ⟨a, 0, none⟩ = some (.slice none 0 0) ∧ w'.cell? ⟨a + 1, 0, none⟩ = some (.int .i64 (p : Nat)) ∧ w'.cell? ⟨a + 2, 0, none⟩ = some (.int .i64 (k : Nat)) ∧ Below a w w' := by
  refine callsD_of_wpS Try.func77 rfl fun c₀ cs hu => ?_
  apply wpS_seq
  apply wpS_region
  simp [wpOpsS, go_sem, recoverD, hu, Try.ntmps77, Exit.thenS]
  refine wpS_rest (u' := .panicking [{ v := .iface 110 (.agg #[.int .i64 (p : Nat), .int .i64 (k : Nat)]), recovered := true }]) (by cases c₀; simp_all) ?_
  clear hu
  rw [show (#[.pointer (some ⟨a, 0, none⟩), .pointer (some ⟨a + 1, 0, none⟩), .pointer (some ⟨a + 2, 0, none⟩)] ++ (Array.replicate 13 undef).setIfInBounds 3 (.iface 110 (.agg #[.int .i64 (p : Nat), .int .i64 (k : Nat)])) : Array Value) = #[.pointer (some ⟨a, 0, none⟩), .pointer (some ⟨a + 1, 0, none⟩), .pointer (some ⟨a + 2, 0, none⟩), undef, undef, undef, .iface 110 (.agg #[.int .i64 (p : Nat), .int .i64 (k : Nat)]), undef, undef, undef, undef, undef, undef, undef, undef, undef] from rfl]
  have x0 : ∀ o, (w.alloc o).cell? ⟨a, 0, none⟩ = some (.slice none 0 0) := fun o => (World.cell?_of_block (Lib.alloc_old w o a (by omega))).trans h0
  have x1 : ∀ o, (w.alloc o).cell? ⟨a + 1, 0, none⟩ = some (.int .i64 0) := fun o => (World.cell?_of_block (Lib.alloc_old w o (a + 1) (by omega))).trans h1
  have x2 : ∀ o, (w.alloc o).cell? ⟨a + 2, 0, none⟩ = some (.int .i64 0) := fun o => (World.cell?_of_block (Lib.alloc_old w o (a + 2) (by omega))).trans h2
  have y0 : ∀ o, (w.alloc o).frozen? ⟨a, 0, none⟩ = false := fun o => (World.frozen?_of_block (Lib.alloc_old w o a (by omega))).trans f0
  have y1 : ∀ o, (w.alloc o).frozen? ⟨a + 1, 0, none⟩ = false := fun o => (World.frozen?_of_block (Lib.alloc_old w o (a + 1) (by omega))).trans f1
  have y2 : ∀ o, (w.alloc o).frozen? ⟨a + 2, 0, none⟩ = false := fun o => (World.frozen?_of_block (Lib.alloc_old w o (a + 2) (by omega))).trans f2
  have z0 : ¬ a = w.heap.size := by omega
  have z1 : ¬ a + 1 = w.heap.size := by omega
  have z2 : ¬ a + 2 = w.heap.size := by omega
  have hta : ∀ w, (Instr.typeAssert (.iface 110 (.agg #[.int .i64 (p : Nat), .int .i64 (k : Nat)])) 20 110 true).run Try.prog w = .ok (.tuple #[.agg #[.int .i64 (p : Nat), .int .i64 (k : Nat)], .bool true]) w := fun _ => by kernel_rfl
  go_wp2
  go_region
  all_goals
    go_wp2
    go_end0
    exact ⟨rfl, (catch_post w a p k x0 x1 x2 hl).2.2⟩
end Go.Proofs.Ytpihmockcjdafaa.lx
end
section
/- lex's scan, Tokens: a text as tokens, or its place and error. -/
namespace Go.Proofs.Ytpihmockcjdafaa.lx
open Go.RowKit

/-- what Tokens hands back, as three values -/
def Gives (w w' : World) (v : Value) (p k : Nat) : Out → Prop
  | .ok ts => Tk w.heap.size w' v ts ∧ p = 0 ∧ k = 0
  | .bad q j => v = .slice none 0 0 ∧ p = q ∧ k = j
/-- the answer o, in memory of its own -/
def ToksP (o : Out) (w : World) (e : Ending) (w' : World) : Prop :=
  ∃ v p k, e = .returned (.tuple #[v, .int .i64 (p : Nat), .int .i64 (k : Nat)]) ∧ Gives w w' v p k o ∧ Below w.heap.size w w'

/-- what scan makes ahead of its work -/
structure Scan0 (a b d c : Nat) (s : ByteArray) (w W : World) : Prop where
  ha : a = w.heap.size
  hb : b = a + 1
  hd : d = a + 2
  hc : c = a + 3
  below : Below a w W
  size : W.heap.size = a + 4
  blk0 : W.heap[a]? = some (.cells #[.slice none 0 0] 44 (0, 0))
  blk1 : W.heap[b]? = some (.cells #[.int .i64 0] 3 (0, 0))
  blk2 : W.heap[d]? = some (.cells #[.int .i64 0] 30 (0, 0))
  sc : Sc c c s 0 (.slice none 0 0) [] W
theorem scan0 (s : ByteArray) (w : World) : Scan0 w.heap.size (w.heap.size + 1) (w.heap.size + 1 + 1) (w.heap.size + 1 + 1 + 1) s w
    ((((w.alloc (.cells #[.slice none 0 0] 44)).alloc (.cells #[.int .i64 0] 3)).alloc (.cells #[.int .i64 0] 30)).alloc (.cells #[.string s, .int .i64 0, .slice none 0 0] 113)) := by
  have z : ∀ (w : World) (o : Obj), (w.alloc o).heap.size = w.heap.size + 1 := fun w o => by show (w.heap.push o).size = _; simp
  have o1 : ∀ (w : World) (o : Obj) (k : Nat), k < w.heap.size → (w.alloc o).heap[k]? = w.heap[k]? := fun w o k h => Lib.alloc_old w o k h
  refine ⟨rfl, rfl, rfl, rfl, ?_, by simp only [z], ?_, ?_, ?_, ⟨Nat.le_refl _, ?_, Tk.nil _ _, by simp [Value.ownBlock]⟩⟩
  · exact ((((Below.refl _ w).alloc (Nat.le_refl _) _).alloc (by rw [z]; omega) _).alloc (by simp only [z]; omega) _).alloc (by simp only [z]; omega) _
  · rw [o1 _ _ _ (by simp only [z]; omega), o1 _ _ _ (by simp only [z]; omega), o1 _ _ _ (by simp only [z]; omega)]; exact heap_alloc_new w _
  · rw [o1 _ _ _ (by simp only [z]; omega), o1 _ _ _ (by simp only [z]; omega)]
    have := heap_alloc_new (w.alloc (.cells #[.slice none 0 0] 44)) (.cells #[.int .i64 0] 3)
    rwa [z] at this
  · rw [o1 _ _ _ (by simp only [z]; omega)]
    have := heap_alloc_new ((w.alloc (.cells #[.slice none 0 0] 44)).alloc (.cells #[.int .i64 0] 3)) (.cells #[.int .i64 0] 30)
    rwa [z, z] at this
  · have := heap_alloc_new (((w.alloc (.cells #[.slice none 0 0] 44)).alloc (.cells #[.int .i64 0] 3)).alloc (.cells #[.int .i64 0] 30)) (.cells #[.string s, .int .i64 0, .slice none 0 0] 113)
    rwa [z, z, z] at this
theorem catch_wrong3 {a b d c : Nat} {s : ByteArray} {w W wx : World} (h : Scan0 a b d c s w W) (hx : Below c W wx) (p k : Nat) :
    CallsD Try.prog 77 #[.pointer (some ⟨a, 0, none⟩), .pointer (some ⟨b, 0, none⟩), .pointer (some ⟨d, 0, none⟩)] (.panicking [{ v := .iface 110 (.agg #[.int .i64 (p : Nat), .int .i64 (k : Nat)]), recovered := false }]) wx fun e u' w' =>
      e = .returned (.tuple #[]) ∧ u' = .panicking [{ v := .iface 110 (.agg #[.int .i64 (p : Nat), .int .i64 (k : Nat)]), recovered := true }] ∧
        w'.cell? ⟨a, 0, none⟩ = some (.slice none 0 0) ∧ w'.cell? ⟨b, 0, none⟩ = some (.int .i64 (p : Nat)) ∧ w'.cell? ⟨d, 0, none⟩ = some (.int .i64 (k : Nat)) ∧ Below a wx w' := by
  obtain ⟨ha, rfl, rfl, rfl, hb, hz, b0, b1, b2, hs⟩ := h
  have hsz := hx.size
  have e0 := (hx.block a (by omega)).trans b0
  have e1 := (hx.block (a + 1) (by omega)).trans b1
  have e2 := (hx.block (a + 2) (by omega)).trans b2
  exact catch_wrong a wx p k (by rw [cell_at e0]; rfl) (by rw [cell_at e1]; rfl) (by rw [cell_at e2]; rfl) (by simp [World.frozen?, e0]) (by simp [World.frozen?, e1]) (by simp [World.frozen?, e2]) (by omega)

theorem bad_post {a b d c p k : Nat} {s : ByteArray} {w W wx w'' : World} (h : Scan0 a b d c s w W) (hx : Below c W wx) (hb : Below a wx w'') {o : Out} (ho : o = .bad p k) :
    ToksP o w (.returned (.tuple #[.slice none 0 0, .int .i64 (p : Nat), .int .i64 (k : Nat)])) w'' := by
  subst ho
  refine ⟨_, p, k, rfl, ⟨rfl, rfl, rfl⟩, ?_⟩
  have e := h.ha
  rw [← e]
  exact (h.below.trans (hx.mono (by have := h.hc; omega))).trans hb

theorem ok_facts {a b d c : Nat} {s : ByteArray} {w W wx : World} (h : Scan0 a b d c s w W) (hx : Below c W wx) :
    wx.cell? ⟨a, 0, none⟩ = some (.slice none 0 0) ∧ wx.cell? ⟨b, 0, none⟩ = some (.int .i64 0) ∧ wx.cell? ⟨d, 0, none⟩ = some (.int .i64 0) ∧
      wx.frozen? ⟨a, 0, none⟩ = false ∧ wx.frozen? ⟨b, 0, none⟩ = false ∧ wx.frozen? ⟨d, 0, none⟩ = false ∧ ¬ a = b ∧ ¬ a = d ∧ ¬ b = d := by
  obtain ⟨ha, rfl, rfl, rfl, hb, hz, b0, b1, b2, hs⟩ := h
  have e0 := (hx.block a (by omega)).trans b0
  have e1 := (hx.block (a + 1) (by omega)).trans b1
  have e2 := (hx.block (a + 2) (by omega)).trans b2
  exact ⟨by rw [cell_at e0]; rfl, by rw [cell_at e1]; rfl, by rw [cell_at e2]; rfl, by simp [World.frozen?, e0], by simp [World.frozen?, e1], by simp [World.frozen?, e2], by omega, by omega, by omega⟩
theorem ok_post {a b d c : Nat} {s : ByteArray} {w W wr : World} (h : Scan0 a b d c s w W) (hx : Below c W wr) {v : Value} {ts : List Tok} (hr : Tk c wr v ts) {o : Out} (ho : o = .ok ts) :
    ToksP o w (.returned (.tuple #[v, .int .i64 0, .int .i64 0])) (((wr.setCell ⟨a, 0, none⟩ v).setCell ⟨b, 0, none⟩ (.int .i64 0)).setCell ⟨d, 0, none⟩ (.int .i64 0)) := by
  subst ho
  have hne : ∀ k, k < c → v.ownBlock ≠ some k := fun k hk e => by have := ((World.ownsRow.lt hr) k e).1; omega
  obtain ⟨ha, rfl, rfl, rfl, hb, hz, b0, b1, b2, hs⟩ := h
  refine ⟨v, 0, 0, rfl, ⟨?_, rfl, rfl⟩, ?_⟩
  · rw [← ha]
    exact ((((hr.kp ((Kp.refl a _).set 0 _) (hne a (by omega))).kp ((Kp.refl (a + 1) _).set 0 _) (hne _ (by omega))).kp ((Kp.refl (a + 2) _).set 0 _) (hne _ (by omega)))).mono (by omega)
  · rw [← ha]
    exact (((hb.trans (hx.mono (by omega))).setCell (p := ⟨a, 0, none⟩) (Nat.le_refl _) _).setCell (p := ⟨a + 1, 0, none⟩) (Nat.le_succ _) _).setCell (p := ⟨a + 2, 0, none⟩) (by show a ≤ a + 2; omega) _

set_option maxRecDepth 100000 in
set_option maxHeartbeats 4000000 in
theorem scan_c (s : ByteArray) (w : World) (hg : GM w) (hs : s.size ≤ 4096) :
    Calls Try.prog 71 #[.string s] w (ToksP (toks s.data.toList) w) := by
  have hmf : ∀ (fn : Fn) (first cap : Array Value) (w : World), (Instr.makeFunc fn first cap).run Try.prog w = .ok (.func fn first cap) w := fun _ _ _ _ => rfl
  have H0 := Lib.hid (scan0 s w)
  have hp := Lib.hid (heap_pos hg)
  have Hg := Lib.hid hg
  clear hg
  go_enter_defers Try.func71, Try.ntmps71
  go_wp2_with fail
  generalize World.alloc (World.alloc (World.alloc (World.alloc w _) _) _) _ = W at *
  generalize hc : w.heap.size + 1 + 1 + 1 = c at *
  generalize hd : w.heap.size + 1 + 1 = d at *
  generalize hb : w.heap.size + 1 = b at *
  generalize ha : w.heap.size = a at *
  clear hb hc hd ha
  have hc0 : 0 < c := by have := H0.out.hc; omega
  refine (skip_c H0.out.sc (Hg.out.below H0.out.below (by have := H0.out.ha; have := hp.out; omega)) hc0 (Nat.zero_le _) hs).mono ?_
  rintro e w1 ⟨hk1, ⟨m, rfl, hS, hnm, hm, hst, hsame⟩ | ⟨p, k, rfl, hbad⟩⟩
  · have HS := Lib.hid hS
    have HB := Lib.hid (hk1.below (Below.refl c W) (Nat.le_refl _) (by have := H0.out.hc; have := H0.out.size; omega))
    have Hst := Lib.hid hst
    have Hsm := Lib.hid (show toks s.data.toList = ans 1000 (s.data.toList.drop m) [] m .btw from hsame 1000 [])
    clear hk1 hS hst hsame hnm
    go_wp2
    go_loopg [] (s.size - m) (fun k wr => ∃ (n : Nat) (v : Value) (ts : List Tok), k = s.size - n ∧ n ≤ s.size ∧ ts.length ≤ 1000 ∧ Hid (Stop s n) ∧ Hid (toks s.data.toList = ans 1000 (s.data.toList.drop n) ts n .btw) ∧ Hid (Sc c c s n v ts wr) ∧ Hid (Below c W wr))
    case atStart => exact ⟨m, _, _, rfl, hm, by simp, Hst, Hsm, HS, HB⟩
    case round =>
      clear HS HB Hst Hsm hm
      obtain ⟨n, v, ts, hgk, hn, hts, Hst, Hsm, HS, HB⟩ := hrel
      have c1 := HS.out.c1
      have c2 := HS.out.c2
      by_cases hlt : n < s.size
      · have hlt2 : (n : Int) < s.size := by omega
        go_wp2_with fail
        refine (next_c HS.out (by have := HS.out.lt; omega) hlt hs Hst.out hts).mono ?_
        rintro e w2 ⟨hb2, ⟨n2, v2, ts2, rfl, hS2, hn2, hns2, hts2, hans⟩ | ⟨p, k, rfl, hbad⟩⟩
        · have HB2 := Lib.hid (HB.out.trans hb2)
          have HS2 := Lib.hid hS2
          have Hsm2 := Lib.hid (Hsm.out.trans hans)
          clear hb2 hS2 hans c1 c2
          go_wp2_with fail
          refine (skip_c HS2.out ((Hg.out.below H0.out.below (by have := H0.out.ha; have := hp.out; omega)).below HB2.out hc0) hc0 hns2 hs).mono ?_
          rintro e w3 ⟨hk3, ⟨n3, rfl, hS3, hn3, hns3, hst3, hsame3⟩ | ⟨p, k, rfl, hbad⟩⟩
          · have HS3 := Lib.hid hS3
            have HB3 := Lib.hid (hk3.below HB2.out (Nat.le_refl _) (by have := HS2.out.lt; omega))
            have Hst3 := Lib.hid hst3
            have Hsm3 := Lib.hid (Hsm2.out.trans (hsame3 1000 ts2))
            clear hk3 hS3 hst3 hsame3
            go_wp2
            go_roundg (s.size - n3)
            case measure => omega
            case rel => exact ⟨n3, v2, ts2, rfl, hns3, hts2, Hst3, Hsm3, HS3, HB3⟩
          · have HB3 := Lib.hid (hk3.below HB2.out (Nat.le_refl _) (by have := HS2.out.lt; omega))
            have Hbd := Lib.hid (Hsm2.out.trans (hbad 1000 ts2))
            clear hk3 hbad
            unfold Wrong
            go_wp2
            refine leaves_cons (f := 77) (args := #[.pointer (some ⟨a, 0, none⟩), .pointer (some ⟨b, 0, none⟩), .pointer (some ⟨d, 0, none⟩)]) (by simp) (by simp [go_sem]) ?_
            refine (catch_wrong3 H0.out (HB3.out) p k).mono ?_
            rintro e u' w'' ⟨rfl, rfl, g0, g1, g2, gb⟩
            simp [Leaves, settle, results, Try.results71, go_sem, g0, g1, g2]
            exact bad_post H0.out (HB3.out) gb (Hbd.out)
        · have HB2 := Lib.hid (HB.out.trans hb2)
          have Hbd := Lib.hid (Hsm.out.trans hbad)
          clear hb2 hbad
          unfold Wrong
          go_wp2
          refine leaves_cons (f := 77) (args := #[.pointer (some ⟨a, 0, none⟩), .pointer (some ⟨b, 0, none⟩), .pointer (some ⟨d, 0, none⟩)]) (by simp) (by simp [go_sem]) ?_
          refine (catch_wrong3 H0.out (HB2.out) p k).mono ?_
          rintro e u' w'' ⟨rfl, rfl, g0, g1, g2, gb⟩
          simp [Leaves, settle, results, Try.results71, go_sem, g0, g1, g2]
          exact bad_post H0.out (HB2.out) gb (Hbd.out)
      · have hlt2 : ¬ ((n : Int) < s.size) := by omega
        obtain ⟨av, cv, rfl⟩ := HS.out.row.shape
        obtain ⟨x0, x1, x2, y0, y1, y2, z0, z1, z2⟩ := ok_facts H0.out HB.out
        have Hok := Lib.hid (show toks s.data.toList = .ok ts by rw [Hsm.out, drop_end (k := n) (by omega)]; rfl)
        go_wp2
        refine leaves_cons (f := 77) (args := #[.pointer (some ⟨a, 0, none⟩), .pointer (some ⟨b, 0, none⟩), .pointer (some ⟨d, 0, none⟩)]) (by simp) (by simp [go_sem]) ?_
        refine (catch_idle _ _ _ _).mono ?_
        rintro e u' w'' ⟨rfl, rfl, rfl⟩
        simp [Leaves, settle, results, Try.results71, go_sem, x0, x1, x2]
        exact ok_post H0.out HB.out HS.out.row Hok.out
  · have HB := Lib.hid (hk1.below (Below.refl c W) (Nat.le_refl _) (by have := H0.out.hc; have := H0.out.size; omega))
    have Hbd := Lib.hid (show toks s.data.toList = .bad p k from hbad 1000 [])
    clear hk1 hbad
    unfold Wrong
    go_wp2
    refine leaves_cons (f := 77) (args := #[.pointer (some ⟨a, 0, none⟩), .pointer (some ⟨b, 0, none⟩), .pointer (some ⟨d, 0, none⟩)]) (by simp) (by simp [go_sem]) ?_
    refine (catch_wrong3 H0.out (HB.out) p k).mono ?_
    rintro e u' w'' ⟨rfl, rfl, g0, g1, g2, gb⟩
    simp [Leaves, settle, results, Try.results71, go_sem, g0, g1, g2]
    exact bad_post H0.out (HB.out) gb (Hbd.out)

/-- the document's answer -/
def toksD (l : List UInt8) : Out := if l.length > 4096 then .bad 0 33 else toks l
/-- lex's Tokens -/
theorem tokens_c (s : ByteArray) (w : World) (hg : GM w) (hz : s.size ≤ 9223372036854775807) :
    Calls Try.prog 59 #[.string s] w (ToksP (toksD s.data.toList) w) := by
  have hl : s.data.toList.length = s.size := by simp
  unfold toksD
  rw [hl]
  by_cases hs : s.size > 4096
  · rw [if_pos hs]
    clear hg hl
    go_enter Try.func59, Try.ntmps59
    go_wp2
    go_ret3
    exact ⟨_, 0, 33, rfl, ⟨rfl, rfl, rfl⟩, Below.refl _ _⟩
  · rw [if_neg hs]
    have k := scan_c s w hg (by omega)
    clear hg hl
    go_enter Try.func59, Try.ntmps59
    go_wp2_with fail
    refine k.mono ?_
    rintro e w1 ⟨v, p, q, rfl, hG, hB⟩
    have HG := Lib.hid hG
    have HB := Lib.hid hB
    clear hG hB k
    go_wp2
    go_ret3
    exact ⟨v, p, q, rfl, HG.out, HB.out⟩
end Go.Proofs.Ytpihmockcjdafaa.lx
end
section
/- Sentences in memory; the deferred closure of sentences. -/
namespace Go.Proofs.Ytpihmockcjdafaa.rd
open Go.RowKit
open Go.Proofs.Ytpihmockcjdafaa.op (bs strC Both Tb)
open Go.Proofs.Ytpihmockcjdafaa.lx (Tok Tk tcell tcells cell_at ieq_yes ieq_no wpS_rest)
set_option maxRecDepth 20000

abbrev Sn := T × List (List UInt8)
/-- a sentence's five cells -/
def scell (x : Sn) (z : Value × Value) : List Value := tv x.1 z.1 ++ [z.2]
def scells (l : List (Sn × Value × Value)) : List Value := l.flatMap fun y => scell y.1 y.2
theorem scells_append (a b : List (Sn × Value × Value)) : scells (a ++ b) = scells a ++ scells b := by simp [scells]
theorem scells_len (l : List (Sn × Value × Value)) : (scells l).length = l.length * 5 := by
  induction l with
  | nil => rfl
  | cons t l ih => rw [scells, List.flatMap_cons, List.length_append, List.length_cons]; rw [scells] at ih; rw [ih]; simp [scell, tv]; omega
theorem scells_get (l : List (Sn × Value × Value)) (i j : Nat) (hi : i < l.length) (hj : j < 5) : (scells l)[i * 5 + j]? = (scell l[i].1 l[i].2)[j]? := by
  induction l generalizing i with
  | nil => exact absurd hi (Nat.not_lt_zero _)
  | cons t l ih =>
    rw [scells, List.flatMap_cons]
    cases i with
    | zero => rw [List.getElem?_append_left (by simp [scell, tv]; omega)]; simp
    | succ i =>
      rw [List.getElem?_append_right (by simp [scell, tv]; omega)]
      rw [show (i + 1) * 5 + j - (scell t.1 t.2).length = i * 5 + j from by simp [scell, tv]; omega]
      rw [scells] at ih
      rw [ih i (by simpa using hi)]; rfl
/-- what hangs on one sentence's cells, in blocks from B on -/
def Hg (B : Nat) (w : World) (x : Sn) (z : Value × Value) : Prop := Rp (fun k => B ≤ k) w x.1 z.1 ∧ w.ownsRow B 9 1 z.2 x.2.length (strC (x.2.map bs))
/-- the slice v holds these sentences, all in blocks from B on -/
def Ss (B : Nat) (w : World) (v : Value) (l : List Sn) : Prop :=
  ∃ zs : List (Value × Value), zs.length = l.length ∧ w.ownsRow B 29 5 v l.length (scells (l.zip zs)) ∧ ∀ i (hi : i < l.length) (hz : i < zs.length), Hg B w l[i] zs[i]
theorem Hg.kept {B : Nat} {w w' : World} {x : Sn} {z : Value × Value} (h : Hg B w x z) (h1 : Kt 24 w w') (h2 : Kt 9 w w') : Hg B w' x z := ⟨h.1.kept h1, own_kept h.2 h2⟩
theorem Ss.kept {B : Nat} {w w' : World} {v : Value} {l : List Sn} (h : Ss B w v l) (h1 : Kt 24 w w') (h2 : Kt 9 w w') (h3 : Kt 29 w w') : Ss B w' v l := by
  obtain ⟨zs, a, b, c⟩ := h
  exact ⟨zs, a, own_kept b h3, fun i hi hz => (c i hi hz).kept h1 h2⟩
theorem Ss.stay {B : Nat} {w w' : World} {v : Value} {l : List Sn} (h : Ss B w v l) (hb : Below w.heap.size w w') : Ss B w' v l := h.kept (Kt.below hb) (Kt.below hb) (Kt.below hb)
theorem Ss.mono {B B' : Nat} {w : World} {v : Value} {l : List Sn} (h : Ss B w v l) (hB : B' ≤ B) : Ss B' w v l := by
  obtain ⟨zs, a, b, c⟩ := h
  exact ⟨zs, a, World.ownsRow.mono b hB, fun i hi hz => ⟨(c i hi hz).1.imp fun k _ hk => Nat.le_trans hB hk, World.ownsRow.mono (c i hi hz).2 hB⟩⟩
theorem Ss.nil (B : Nat) (w : World) : Ss B w (.slice none 0 0) [] := ⟨[], rfl, World.ownsRow_nil _ _ _ _, fun _ hi => absurd hi (Nat.not_lt_zero _)⟩
theorem Ss.shape {B : Nat} {w : World} {v : Value} {l : List Sn} (h : Ss B w v l) : ∃ a c, v = .slice a l.length c := by
  obtain ⟨zs, a, b, c⟩ := h
  rcases b.2 with ⟨h1, h2⟩ | ⟨g, cap, cur, h1, _⟩
  · exact ⟨none, 0, by rw [h1, h2]⟩
  · exact ⟨_, _, h1⟩
theorem sent_info3 : (Try.prog.info? 29).map (fun i => (i.zero, i.size, i.bytes)) = some (some (.agg #[.int .i64 0, .int .i64 0, .string ⟨#[]⟩, .slice none 0 0, .slice none 0 0]), 5, 80) := by kernel_rfl

end Go.Proofs.Ytpihmockcjdafaa.rd
end
section
/- The program's reader: sentences. -/
namespace Go.Proofs.Ytpihmockcjdafaa.rd
open Go.RowKit
open Go.Proofs.Ytpihmockcjdafaa.op (bs strC Both Tb)
open Go.Proofs.Ytpihmockcjdafaa.lx (Tok Tk tcell tcells cell_at ieq_yes ieq_no)
set_option maxRecDepth 20000

def appE (l : List Sn) (x : Except Nat (List Sn)) : Except Nat (List Sn) := match x with | .error k => .error k | .ok t => .ok (l ++ t)
theorem sents_nil (f : Nat) (l : List Sn) : appE l (sentsP f []) = .ok l := by
  cases f <;> simp [sentsP, appE]
theorem sents_err (f : Nat) (l : List Sn) {M : List K} (h : M ≠ []) {k : Nat} (hs : sentP M = .error k) : appE l (sentsP (f + 1) M) = .error k := by
  rw [sentsP, if_neg h, hs]; rfl
theorem sents_go (f : Nat) (l : List Sn) {M r : List K} (h : M ≠ []) {t : Sn} (hs : sentP M = .ok (t, r)) : appE l (sentsP (f + 1) M) = appE (l ++ [t]) (sentsP f r) := by
  rw [sentsP, if_neg h, hs]
  dsimp only
  cases sentsP f r <;> simp [appE]
/-- what sentences gives -/
def NQ (w : World) (x : Except Nat (List Sn)) (en : Ending) (w' : World) : Prop :=
  match x with
  | .ok l => ∃ v, en = .returned (.tuple #[v, .int .i64 0, .int .i64 0]) ∧ Ss w.heap.size w' v l ∧ Below w.heap.size w w'
  | .error k => ∃ p : Nat, en = .returned (.tuple #[.slice none 0 0, .int .i64 (p : Nat), .int .i64 (k : Nat)]) ∧ Below w.heap.size w w'
theorem alloc4 (w : World) (o1 o2 o3 o4 : Obj) : ((((w.alloc o1).alloc o2).alloc o3).alloc o4).heap[w.heap.size]? = some o1 ∧ ((((w.alloc o1).alloc o2).alloc o3).alloc o4).heap[w.heap.size + 1]? = some o2 ∧ ((((w.alloc o1).alloc o2).alloc o3).alloc o4).heap[w.heap.size + 1 + 1]? = some o3 ∧
    ((((w.alloc o1).alloc o2).alloc o3).alloc o4).heap[w.heap.size + 1 + 1 + 1]? = some o4 ∧ ((((w.alloc o1).alloc o2).alloc o3).alloc o4).heap.size = w.heap.size + 1 + 1 + 1 + 1 ∧ Below w.heap.size w ((((w.alloc o1).alloc o2).alloc o3).alloc o4) := by
  obtain ⟨h1, h2, h3, h4, h5⟩ := alloc3 w o1 o2 o3
  have h6 := heap_alloc_new (((w.alloc o1).alloc o2).alloc o3) o4
  rw [h4] at h6
  exact ⟨(Lib.alloc_old _ o4 _ (by omega)).trans h1, (Lib.alloc_old _ o4 _ (by omega)).trans h2, (Lib.alloc_old _ o4 _ (by omega)).trans h3, h6, by rw [size_alloc, h4], h5.alloc (by omega) o4⟩
theorem grown_ktv {B z n : Nat} {w w4 : World} {o : Obj} {v : Value} {xs : List Value} {t u : TypeId} (hown : w.ownsRow B u z v n xs) (h : (w.alloc o).grownBy w4 v.ownBlock) (hn : t ≠ u) : Kt t w w4 := fun k ds fr hk => by
  rw [h.block k (by have := lt_of hk; simp; omega) (fun e => by
    rcases hown.2 with ⟨h1, _⟩ | ⟨g, cap, cur, h1, _, h3, _⟩
    · rw [h1] at e; cases e
    · rw [h1] at e; cases e; rw [h3] at hk; cases hk; exact hn rfl), Lib.alloc_old w _ k (lt_of hk)]; exact hk
theorem grown_belowv {B z n : Nat} {w w4 : World} {o : Obj} {v : Value} {xs : List Value} {u : TypeId} (hown : w.ownsRow B u z v n xs) (h : (w.alloc o).grownBy w4 v.ownBlock) (hw : B ≤ w.heap.size) : Below B w w4 :=
  ⟨h.os, h.tape, h.output, Nat.le_trans (by simp) h.size, fun k hk => by rw [h.block k (by simp; omega) (fun e => by have := (World.ownsRow.lt hown k e.symm).1; omega), Lib.alloc_old w _ k (by omega)]⟩
theorem scells_zip (l : List Sn) (zs : List (Value × Value)) (t : Sn) (z : Value × Value) (h : zs.length = l.length) : scells (l.zip zs) ++ scell t z = scells ((l ++ [t]).zip (zs ++ [z])) := by
  rw [zip_snoc _ _ _ _ h, scells_append]; simp [scells]
theorem own_shape {w : World} {B z n : Nat} {u : TypeId} {v : Value} {xs : List Value} (h : w.ownsRow B u z v n xs) : ∃ a m c, v = .slice a m c := by
  rcases h.2 with ⟨h1, _⟩ | ⟨g', cap, cur, h1, _⟩ <;> exact ⟨_, _, _, h1⟩
theorem snews (W : World) (t : Sn) (z : Value × Value) : ∀ j u, (scell t z)[j]? = some u → (W.alloc (.cells (scell t z).toArray 29)).cell? ((⟨W.heap.size, 0, none⟩ : Addr).add j) = some u := by
  intro j u hj
  rw [op.addr_add, cell_at (heap_alloc_new W _)]
  simpa using hj
theorem snews_one (t : Sn) (z : Value × Value) (h1 : z.1.oneCell' = true) (h2 : z.2.oneCell' = true) : ∀ u ∈ scell t z, u.oneCell' = true := by
  intro u hu; simp [scell, tv] at hu; rcases hu with rfl | rfl | rfl | rfl | rfl <;> first | rfl | exact h1 | exact h2
end Go.Proofs.Ytpihmockcjdafaa.rd
end
