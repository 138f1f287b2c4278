/- The program's reader: sentence.; The next token: what the machine of modes makes of the bytes where a token begins.; The next token: the scanner's next.; The scan's deferred closure: a scanner that gave up, or none.; lex's scan, Tokens: a text as tokens, or its place and error.; Sentences in memory; the deferred closure of sentences.; The program's reader: sentences.; Tokens rise, do not overlap, and hold their texts. Plain lists.; Texts one behind the other; quoted names. Plain lists.; Quoted names. Plain lists.; lex's isAtom, inQuotes, Quote. -/
import Derived.Test.YtjccohcigopdfaaQ10
import Derived.Test.YtjccohcigopdfaaQ3
import Derived.Deep.RegionLaw
import Derived.Defers
import Derived.Recover
import Derived.Lib.Walk
import Derived.Deep.Onto
import Derived.Test.YtjccohcigopdfaaQ2
import Derived.WalkSpells
set_option linter.unusedVariables false
set_option linter.unusedSimpArgs false
section
/- The program's reader: sentence. -/
namespace Go.Proofs.Ytjccohcigopdfaa.rd
open Go.RowKit
open Go.Proofs.Ytjccohcigopdfaa.op (bs strC Both Tb progI progP tupI)
open Go.Proofs.Ytjccohcigopdfaa.lx (Tok Tk tcell tcells cell_at ieq_yes ieq_no)
set_option maxRecDepth 20000

theorem Fr.low {r b : Nat} {w w' : World} (h : Fr r b w w') (hb : r < b) (hz : r < w.heap.size) : Below r w w' :=
  ⟨h.os, h.tape, h.output, h.size, fun k hk => h.block k (by omega) (by omega) (.inl (by omega))⟩
theorem sent_info : (Try.prog.info? 44).map (·.size) = some 5 := by kernel_rfl
theorem cells5 {W : World} {g : Nat} {t : TypeId} {a b c d e : Value} (h : W.heap[g]? = some (.cells #[a, b, c, d, e] t (0, 0))) :
    W.cell? ⟨g, 0, none⟩ = some a ∧ W.cell? ⟨g, 1, none⟩ = some b ∧ W.cell? ⟨g, 2, none⟩ = some c ∧ W.cell? ⟨g, 3, none⟩ = some d ∧ W.cell? ⟨g, 4, none⟩ = some e ∧ ∀ j, W.frozen? ⟨g, j, none⟩ = false :=
  ⟨by rw [cell_at h]; rfl, by rw [cell_at h]; rfl, by rw [cell_at h]; rfl, by rw [cell_at h]; rfl, by rw [cell_at h]; rfl, fun j => by simp [World.frozen?, h]⟩
theorem set5 {W : World} {g : Nat} {t : TypeId} {a0 a1 a2 a3 a4 : Value} (h : W.heap[g]? = some (.cells #[a0, a1, a2, a3, a4] t (0, 0))) (a b c d e : Value) :
    (((((W.setCell ⟨g, 0, none⟩ a).setCell ⟨g, 1, none⟩ b).setCell ⟨g, 2, none⟩ c).setCell ⟨g, 3, none⟩ d).setCell ⟨g, 4, none⟩ e).heap[g]? = some (.cells #[a, b, c, d, e] t (0, 0)) :=
  heap_set_at (heap_set_at (heap_set_at (heap_set_at (heap_set_at h))))
theorem ret_sent {fn : Func} {p : Tmp} (h : fn.results = #[.cell p 44]) (tmps : Array Value) (w : World) {g : Nat} {a b c d e : Value} (hp : tmps.getD p undef = .pointer (some ⟨g, 0, none⟩)) (hg : w.heap[g]? = some (.cells #[a, b, c, d, e] 44 (0, 0))) :
    (results fn tmps).run Try.prog w = .ok (.agg #[a, b, c, d, e]) w := results_cell_row h tmps w g _ _ _ _ hp hg Try.underlying44 rfl sent_info
end Go.Proofs.Ytjccohcigopdfaa.rd
end
section
/- The next token: what the machine of modes makes of the bytes where a token begins. -/
namespace Go.Proofs.Ytjccohcigopdfaa.lx
open Go.RowKit

theorem ans_start (M : Nat) (b : UInt8) (l : List UInt8) (ts : List Tok) (n : Nat) (h1 : cl b ≠ 1) (h2 : b ≠ 37) (h3 : b ≠ 47) :
    ans M (b :: l) ts n .btw = if cl b = 0 then .bad n 30 else if ts.length = M then .bad n 34 else match opening ts n b with | .go ts' m' => ans M l ts' (n + 1) m' | .bad p e => .bad p e := by
  rw [ans_cons, step, start, if_neg h1, if_neg h2, if_neg h3]
  by_cases h0 : cl b = 0
  · rw [if_pos h0, if_pos h0]
  · rw [if_neg h0, if_neg h0]
    by_cases hM : ts.length = M
    · rw [if_pos hM, if_pos hM]
    · rw [if_neg hM, if_neg hM]
      cases opening ts n b <;> rfl
theorem ans_slash (M : Nat) (l : List UInt8) (ts : List Tok) (n : Nat) (h : ∀ r, l ≠ 42 :: r) :
    ans M (47 :: l) ts n .btw = if ts.length = M then .bad n 34 else ans M l ts (n + 1) (.word 5 n [47]) := by
  rw [ans_cons, step, start, if_neg (by decide), if_neg (by decide), if_pos rfl]
  cases l with
  | nil =>
    simp only [ans_nil, fin]
    by_cases hM : ts.length = M
    · rw [if_pos hM, if_pos hM]
    · rw [if_neg hM, if_neg hM]; rfl
  | cons b r =>
    have hb : b ≠ 42 := fun e => h r (by rw [e])
    simp only [ans_cons, step]
    rw [if_neg hb]
    by_cases hM : ts.length = M
    · rw [if_pos hM, if_pos hM]
    · rw [if_neg hM, if_neg hM, (joinB_name (cl b)).2.2.2]
      by_cases h5 : cl b = 5
      · rw [if_pos h5, if_pos (by simpa using h5)]; rfl
      · rw [if_neg h5, if_neg (by simpa using h5)]; rfl
/-- a '.' that begins a token -/
theorem ans_dot (M : Nat) (l : List UInt8) (ts : List Tok) (n : Nat) :
    ans M l ts (n + 1) (.dot n) = if (match l with | [] => true | b :: _ => cl b == 1 || b == 37) = true then ans M l (ts ++ [⟨6, [46], n, n + 1⟩]) (n + 1) .btw else ans M l ts (n + 1) (.word 5 n [46]) := by
  cases l with
  | nil => rfl
  | cons b r =>
    simp only [ans_cons, step]
    rw [(joinB_name (cl b)).2.2.2]
    by_cases h5 : cl b = 5
    · have h37 : b ≠ 37 := fun e => by rw [e] at h5; exact absurd h5 (by decide)
      rw [if_pos h5, if_neg (by simp [h5, h37]), if_pos (by simpa using h5)]; rfl
    · rw [if_neg h5]
      by_cases h1 : cl b = 1 ∨ b = 37
      · rw [if_pos h1, if_pos (by simpa using h1)]
      · rw [if_neg h1, if_neg (by simpa using h1), if_neg (by simpa using h5)]; rfl
/-- a word, whole -/
theorem ans_word_all (M y : Nat) (s : ByteArray) (n : Nat) (ts : List Tok) (_hn : n < s.size) :
    ans M (s.data.toList.drop (n + 1)) ts (n + 1) (.word y n [bA s n]) =
      ans M (s.data.toList.drop (n + 1 + (wordL s n y).length)) (ts ++ [⟨kindOf y, bA s n :: wordL s n y, n, n + 1 + (wordL s n y).length⟩]) (n + 1 + (wordL s n y).length) .btw := by
  have hsp : s.data.toList.drop (n + 1) = wordL s n y ++ (s.data.toList.drop (n + 1)).dropWhile fun b => joinB y (cl b) := (List.takeWhile_append_dropWhile).symm
  have hd : s.data.toList.drop (n + 1 + (wordL s n y).length) = (s.data.toList.drop (n + 1)).dropWhile fun b => joinB y (cl b) := by
    rw [← List.drop_drop]
    conv => lhs; rw [hsp]
    rw [List.drop_left]
  rw [hd]
  conv => lhs; rw [hsp]
  rw [ans_word M y n (wordL s n y) _ _ _ _ (fun b hb => List.all_eq_true.1 (List.all_takeWhile (p := fun b => joinB y (cl b)) (l := s.data.toList.drop (n + 1))) b hb)]
  rw [ans_word_end]
  · rfl
  · intro b r hbr
    have := List.head?_dropWhile_not (fun b => joinB y (cl b)) (s.data.toList.drop (n + 1))
    rw [hbr] at this
    simpa using this

theorem wordL_none {s : ByteArray} {n y : Nat} (h : ∀ b r, s.data.toList.drop (n + 1) = b :: r → joinB y (cl b) = false) : wordL s n y = [] := by
  unfold wordL
  cases hd : s.data.toList.drop (n + 1) with
  | nil => rfl
  | cons b r => rw [List.takeWhile_cons, if_neg (by rw [h b r hd]; decide)]

theorem next_word (M : Nat) {s : ByteArray} {n : Nat} (ts : List Tok) (hn : n < s.size) (hst : Stop s n) (h0 : cl (bA s n) ≠ 0) (h6 : cl (bA s n) ≠ 6) (hM : ts.length ≠ M) :
    ans M (s.data.toList.drop n) ts n .btw = ans M (s.data.toList.drop (n + 1 + (wordL s n (cl (bA s n))).length))
      (ts ++ [⟨kindS s n ts (cl (bA s n)), bA s n :: wordL s n (cl (bA s n)), n, n + 1 + (wordL s n (cl (bA s n))).length⟩]) (n + 1 + (wordL s n (cl (bA s n))).length) .btw := by
  obtain ⟨h1, h2, h3⟩ := hst hn
  have hb := bA_le s n
  by_cases h47 : bA s n = 47
  · rw [drop_bA hn, h47, ans_slash, if_neg hM]
    · have e5 : cl (47 : UInt8) = 5 := by decide
      have hk : kindS s n ts 5 = kindOf 5 := by
        unfold kindS endsB; rw [h47]; rfl
      rw [e5, hk]
      have := ans_word_all M 5 s n ts hn
      rw [h47] at this; exact this
    · intro r hr
      rw [drop_bA hn, h47, hr] at h3
      exact absurd h3 (by simp [Lib.hasPrefix])
  rw [drop_bA hn, ans_start M _ _ ts n h1 h2 h47, if_neg h0, if_neg hM]
  unfold opening
  rw [if_neg h6]
  by_cases h7 : cl (bA s n) = 7
  · rw [if_pos h7]
    have hw : wordL s n (cl (bA s n)) = [] := wordL_none fun b r _ => by rw [h7]; rfl
    rw [hw, h7]; rfl
  rw [if_neg h7]
  by_cases h8 : cl (bA s n) = 8
  · rw [if_pos h8]
    have hw : wordL s n (cl (bA s n)) = [] := wordL_none fun b r _ => by rw [h8]; rfl
    rw [hw, h8]
    have hk : kindS s n ts 8 = if bA s n = 40 ∧ opens ts n = true then 4 else 5 := by
      unfold kindS
      rw [if_neg (by decide), if_neg (by decide), if_pos rfl]
      by_cases hp : bA s n = 40 ∧ opens ts n = true
      · rw [if_pos (by simp [hp]), if_pos hp]
      · rw [if_neg (by simpa using hp), if_neg hp]
    rw [hk]; rfl
  rw [if_neg h8]
  by_cases h46 : bA s n = 46
  · rw [if_pos h46]
    simp only
    have e5 : cl (bA s n) = 5 := by rw [h46]; decide
    rw [ans_dot, e5]
    have he : (match s.data.toList.drop (n + 1) with | [] => true | b :: _ => cl b == 1 || b == 37) = endsB s n := by
      unfold endsB
      rw [h46]
      by_cases hlt : n + 1 < s.size
      · rw [drop_bA hlt]
        simp only
        rw [show (n + 1 == s.size) = false from by simp; omega, Bool.false_or, Bool.or_comm]; rfl
      · rw [drop_end (k := n + 1) (by omega), show (n + 1 == s.size) = true from by simp; omega]; rfl
    rw [he]
    by_cases hE : endsB s n = true
    · rw [if_pos hE]
      have hw : wordL s n 5 = [] := wordL_none fun b r hbr => by
        rw [hbr] at he
        simp only at he
        rw [hE] at he
        rw [(joinB_name (cl b)).2.2.2]
        rcases Bool.or_eq_true_iff.1 he with h | h
        · rw [beq_iff_eq] at h; rw [h]; rfl
        · rw [beq_iff_eq] at h; rw [h]; decide
      have hk : kindS s n ts 5 = 6 := by unfold kindS; rw [if_neg (by decide), if_neg (by decide), if_neg (by decide), if_pos rfl, if_pos hE]
      rw [hw, hk, h46]; rfl
    · rw [if_neg hE]
      have hk : kindS s n ts 5 = kindOf 5 := by unfold kindS; rw [if_neg (by decide), if_neg (by decide), if_neg (by decide), if_pos rfl, if_neg hE]; rfl
      rw [hk]
      have := ans_word_all M 5 s n ts hn
      rw [h46] at this ⊢; exact this
  rw [if_neg h46]
  have hk : kindS s n ts (cl (bA s n)) = kindOf (cl (bA s n)) := by
    unfold kindS kindOf
    by_cases a3 : cl (bA s n) = 3
    · rw [if_pos a3, if_pos a3]
    rw [if_neg a3, if_neg a3]
    by_cases a4 : cl (bA s n) = 4
    · rw [if_pos a4, if_pos a4]
    rw [if_neg a4, if_neg a4, if_neg h8]
    by_cases a5 : cl (bA s n) = 5
    · rw [if_pos a5, if_neg]
      unfold endsB
      simp [h46]
    · rw [if_neg a5]
  rw [hk]
  exact ans_word_all M _ s n ts hn
theorem next_quote (M : Nat) {s : ByteArray} {n : Nat} (ts : List Tok) (hn : n < s.size) (h6 : cl (bA s n) = 6) (hM : ts.length ≠ M) :
    ans M (s.data.toList.drop n) ts n .btw = ans M (s.data.toList.drop (n + 1)) ts (n + 1) (.quo n []) := by
  have h37 : bA s n ≠ 37 := fun e => by rw [e] at h6; exact absurd h6 (by decide)
  have h47 : bA s n ≠ 47 := fun e => by rw [e] at h6; exact absurd h6 (by decide)
  rw [drop_bA hn, ans_start M _ _ ts n (by omega) h37 h47, if_neg (by omega), if_neg hM]
  unfold opening
  rw [if_pos h6]
theorem next_alien (M : Nat) {s : ByteArray} {n : Nat} (ts : List Tok) (hn : n < s.size) (hst : Stop s n) (h0 : cl (bA s n) = 0) : ans M (s.data.toList.drop n) ts n .btw = .bad n 30 := by
  obtain ⟨h1, h2, h3⟩ := hst hn
  have h47 : bA s n ≠ 47 := fun e => by rw [e] at h0; exact absurd h0 (by decide)
  rw [drop_bA hn, ans_start M _ _ ts n h1 h2 h47, if_pos h0]
theorem next_many (M : Nat) {s : ByteArray} {n : Nat} (ts : List Tok) (hn : n < s.size) (hst : Stop s n) (h0 : cl (bA s n) ≠ 0) (hM : ts.length = M) : ans M (s.data.toList.drop n) ts n .btw = .bad n 34 := by
  obtain ⟨h1, h2, h3⟩ := hst hn
  by_cases h47 : bA s n = 47
  · rw [drop_bA hn, h47, ans_slash, if_pos hM]
    intro r hr
    rw [drop_bA hn, h47, hr] at h3
    exact absurd h3 (by simp [Lib.hasPrefix])
  · rw [drop_bA hn, ans_start M _ _ ts n h1 h2 h47, if_neg h0, if_pos hM]
end Go.Proofs.Ytjccohcigopdfaa.lx
end
section
/- The next token: the scanner's next. -/
namespace Go.Proofs.Ytjccohcigopdfaa.lx
open Go.RowKit

theorem tok_info : (Try.prog.info? 73).map (fun i => (i.zero, i.size, i.bytes)) = some (some (.agg #[.int .i64 0, .string ⟨#[]⟩, .int .i64 0, .int .i64 0]), 4, 40) := by kernel_rfl

/-- append to a slice of one's own, as one step of a region that draws -/
theorem step_append_own {P : Program} {ops : Array Oper} {o : Oper} {a : Act} {w : World} {K : Act → World → Prop} {Q : Exit → Act → World → Prop} {E : Prop} (hg : o.guard = none) (s x : Operand) (t : TypeId)
    (ho : o.op = .call { callee := .builtin .append, args := #[s, x], argTypes := #[t, t] })
    (base : Nat) (e : TypeId) (i : TypeInfo) (z : Value) (size bytes : Nat) (ht : P.underlying t = some (.slice e)) (hi : P.info? e = some i) (hz : i.zero = some z)
    (hsize : i.size = size) (hby : i.bytes = bytes) (hzs : z.cells.size = size) (hsz : 0 < size)
    (v : Value) (n : Nat) (xs : List Value) (hs : a.eval s = v) (hown : w.ownsRow base e size v n xs)
    (ad : Addr) (m c : Nat) (news : List Value) (hx : a.eval x = .slice (some ad) m c) (hl : news.length = m * size) (hnews : ∀ j u, news[j]? = some u → w.cell? (ad.add j) = some u) (h1 : ∀ u ∈ news, u.oneCell' = true)
    (h63 : n + m ≤ maxLen) (hbytes : (n + m) * bytes ≤ 140737488355328) (hbase : base ≤ w.heap.size)
    (h : ∀ v' w', w'.ownsRow base e size v' (n + m) (xs ++ news) → w.grownBy w' v.ownBlock → K (a.put o.dst v') w') :
    if Region.wanted o (yielded ops a.tmps) = true then Oper.wp P o a w K Q else E := by
  have hw : Region.wanted o (yielded ops a.tmps) = true := by simp [Region.wanted, hg]
  rw [if_pos hw]
  exact wp_append_own w s x t ho base e i z size bytes ht hi hz hsize hby hzs hsz v n xs hs hown ad m c news hx hl hnews h1 h63 hbytes hbase (fun v' w' a b _ => h v' w' a b)

theorem news_at (W : World) (T : Tok) : ∀ j u, (tcell T)[j]? = some u → ((W.alloc (.cells (tcell T).toArray 73)).drew).cell? ((⟨W.heap.size, 0, none⟩ : Addr).add j) = some u := by
  intro j u hj
  have e : (⟨W.heap.size, 0, none⟩ : Addr).add j = ⟨W.heap.size, j, none⟩ := by
    by_cases h0 : j = 0
    · subst h0; simp [Addr.add]
    · simp [Addr.add, h0]
  rw [e]
  have hb : ((W.alloc (.cells (tcell T).toArray 73)).drew).heap[W.heap.size]? = some (.cells (tcell T).toArray 73 (0, 0)) := heap_alloc_new W _
  rw [cell_at hb]
  simpa using hj
theorem news_one (T : Tok) : ∀ u ∈ tcell T, u.oneCell' = true := by
  intro u hu; simp [tcell] at hu; rcases hu with rfl | rfl | rfl | rfl <;> rfl
end Go.Proofs.Ytjccohcigopdfaa.lx
end
section
/- The scan's deferred closure: a scanner that gave up, or none. -/
namespace Go.Proofs.Ytjccohcigopdfaa.lx
open Go.RowKit

theorem wpS_rest {P : Program} {fn : Func} {c₀ : Frame} {cs cs' : List Frame} {R : Ending → FrameMode → World → Prop} {u' : FrameMode} {c : Code} {a : Act} {w : World} (hcs : cs' = { c₀ with mode := u' } :: cs)
    (h : c.wp P (bodyPost P fn fun e w' => R e u' w') a w) : c.wpS P (bodyPostS P fn c₀ cs R) a cs' w := by
  refine wpS_of_wp fun b k cs2 => ?_
  obtain ⟨e, a', w', hq, hr⟩ := h b k cs2
  refine ⟨e, a', w', ?_, hr⟩
  cases e with
  | normal => exact ⟨hq.1, u', hcs, hq.2⟩
  | ret => exact ⟨hq.1, u', hcs, hq.2⟩
  | panic ch => exact ⟨hq.1, u', hcs, hq.2⟩
  | outgrown => exact ⟨u', hq⟩
  | exit id => exact hq
  | goto l => exact hq

end Go.Proofs.Ytjccohcigopdfaa.lx
end
section
/- lex's scan, Tokens: a text as tokens, or its place and error. -/
namespace Go.Proofs.Ytjccohcigopdfaa.lx
open Go.RowKit

/-- what Tokens hands back, as three values -/
def Gives (w w' : World) (v : Value) (p k : Nat) : Out → Prop
  | .ok ts => Tk w.heap.size w' v ts ∧ p = 0 ∧ k = 0
  | .bad q j => v = .slice none 0 0 ∧ p = q ∧ k = j
/-- the answer o, in memory of its own -/
def ToksP (o : Out) (w : World) (e : Ending) (w' : World) : Prop :=
  ∃ v p k, e = .returned (.tuple #[v, .int .i64 (p : Nat), .int .i64 (k : Nat)]) ∧ Gives w w' v p k o ∧ Below w.heap.size w w'

/-- the document's answer -/
def toksD (l : List UInt8) : Out := if l.length > 4096 then .bad 0 33 else toks l
end Go.Proofs.Ytjccohcigopdfaa.lx
end
section
/- Sentences in memory; the deferred closure of sentences. -/
namespace Go.Proofs.Ytjccohcigopdfaa.rd
open Go.RowKit
open Go.Proofs.Ytjccohcigopdfaa.op (bs strC Both Tb)
open Go.Proofs.Ytjccohcigopdfaa.lx (Tok Tk tcell tcells cell_at ieq_yes ieq_no wpS_rest)
set_option maxRecDepth 20000

abbrev Sn := T × List (List UInt8)
/-- a sentence's five cells -/
def scell (x : Sn) (z : Value × Value) : List Value := tv x.1 z.1 ++ [z.2]
def scells (l : List (Sn × Value × Value)) : List Value := l.flatMap fun y => scell y.1 y.2
theorem scells_append (a b : List (Sn × Value × Value)) : scells (a ++ b) = scells a ++ scells b := by simp [scells]
theorem scells_len (l : List (Sn × Value × Value)) : (scells l).length = l.length * 5 := by
  induction l with
  | nil => rfl
  | cons t l ih => rw [scells, List.flatMap_cons, List.length_append, List.length_cons]; rw [scells] at ih; rw [ih]; simp [scell, tv]; omega
theorem scells_get (l : List (Sn × Value × Value)) (i j : Nat) (hi : i < l.length) (hj : j < 5) : (scells l)[i * 5 + j]? = (scell l[i].1 l[i].2)[j]? := by
  induction l generalizing i with
  | nil => exact absurd hi (Nat.not_lt_zero _)
  | cons t l ih =>
    rw [scells, List.flatMap_cons]
    cases i with
    | zero => rw [List.getElem?_append_left (by simp [scell, tv]; omega)]; simp
    | succ i =>
      rw [List.getElem?_append_right (by simp [scell, tv]; omega)]
      rw [show (i + 1) * 5 + j - (scell t.1 t.2).length = i * 5 + j from by simp [scell, tv]; omega]
      rw [scells] at ih
      rw [ih i (by simpa using hi)]; rfl
/-- what hangs on one sentence's cells, in blocks from B on -/
def Hg (B : Nat) (w : World) (x : Sn) (z : Value × Value) : Prop := Rp (fun k => B ≤ k) w x.1 z.1 ∧ w.ownsRow B 9 1 z.2 x.2.length (strC (x.2.map bs))
/-- the slice v holds these sentences, all in blocks from B on -/
def Ss (B : Nat) (w : World) (v : Value) (l : List Sn) : Prop :=
  ∃ zs : List (Value × Value), zs.length = l.length ∧ w.ownsRow B 44 5 v l.length (scells (l.zip zs)) ∧ ∀ i (hi : i < l.length) (hz : i < zs.length), Hg B w l[i] zs[i]
theorem Hg.kept {B : Nat} {w w' : World} {x : Sn} {z : Value × Value} (h : Hg B w x z) (h1 : Kt 25 w w') (h2 : Kt 9 w w') : Hg B w' x z := ⟨h.1.kept h1, own_kept h.2 h2⟩
theorem Ss.kept {B : Nat} {w w' : World} {v : Value} {l : List Sn} (h : Ss B w v l) (h1 : Kt 25 w w') (h2 : Kt 9 w w') (h3 : Kt 44 w w') : Ss B w' v l := by
  obtain ⟨zs, a, b, c⟩ := h
  exact ⟨zs, a, own_kept b h3, fun i hi hz => (c i hi hz).kept h1 h2⟩
theorem Ss.stay {B : Nat} {w w' : World} {v : Value} {l : List Sn} (h : Ss B w v l) (hb : Below w.heap.size w w') : Ss B w' v l := h.kept (Kt.below hb) (Kt.below hb) (Kt.below hb)
theorem Ss.mono {B B' : Nat} {w : World} {v : Value} {l : List Sn} (h : Ss B w v l) (hB : B' ≤ B) : Ss B' w v l := by
  obtain ⟨zs, a, b, c⟩ := h
  exact ⟨zs, a, World.ownsRow.mono b hB, fun i hi hz => ⟨(c i hi hz).1.imp fun k _ hk => Nat.le_trans hB hk, World.ownsRow.mono (c i hi hz).2 hB⟩⟩
theorem Ss.nil (B : Nat) (w : World) : Ss B w (.slice none 0 0) [] := ⟨[], rfl, World.ownsRow_nil _ _ _ _, fun _ hi => absurd hi (Nat.not_lt_zero _)⟩
theorem Ss.shape {B : Nat} {w : World} {v : Value} {l : List Sn} (h : Ss B w v l) : ∃ a c, v = .slice a l.length c := by
  obtain ⟨zs, a, b, c⟩ := h
  rcases b.2 with ⟨h1, h2⟩ | ⟨g, cap, cur, h1, _⟩
  · exact ⟨none, 0, by rw [h1, h2]⟩
  · exact ⟨_, _, h1⟩
theorem sent_info3 : (Try.prog.info? 44).map (fun i => (i.zero, i.size, i.bytes)) = some (some (.agg #[.int .i64 0, .int .i64 0, .string ⟨#[]⟩, .slice none 0 0, .slice none 0 0]), 5, 80) := by kernel_rfl

end Go.Proofs.Ytjccohcigopdfaa.rd
end
section
/- The program's reader: sentences. -/
namespace Go.Proofs.Ytjccohcigopdfaa.rd
open Go.RowKit
open Go.Proofs.Ytjccohcigopdfaa.op (bs strC Both Tb)
open Go.Proofs.Ytjccohcigopdfaa.lx (Tok Tk tcell tcells cell_at ieq_yes ieq_no)
set_option maxRecDepth 20000

def appE (l : List Sn) (x : Except Nat (List Sn)) : Except Nat (List Sn) := match x with | .error k => .error k | .ok t => .ok (l ++ t)
theorem sents_nil (f : Nat) (l : List Sn) : appE l (sentsP f []) = .ok l := by
  cases f <;> simp [sentsP, appE]
theorem sents_err (f : Nat) (l : List Sn) {M : List K} (h : M ≠ []) {k : Nat} (hs : sentP M = .error k) : appE l (sentsP (f + 1) M) = .error k := by
  rw [sentsP, if_neg h, hs]; rfl
theorem sents_go (f : Nat) (l : List Sn) {M r : List K} (h : M ≠ []) {t : Sn} (hs : sentP M = .ok (t, r)) : appE l (sentsP (f + 1) M) = appE (l ++ [t]) (sentsP f r) := by
  rw [sentsP, if_neg h, hs]
  dsimp only
  cases sentsP f r <;> simp [appE]
/-- what sentences gives -/
def NQ (w : World) (x : Except Nat (List Sn)) (en : Ending) (w' : World) : Prop :=
  match x with
  | .ok l => ∃ v, en = .returned (.tuple #[v, .int .i64 0, .int .i64 0]) ∧ Ss w.heap.size w' v l ∧ Below w.heap.size w w'
  | .error k => ∃ p : Nat, en = .returned (.tuple #[.slice none 0 0, .int .i64 (p : Nat), .int .i64 (k : Nat)]) ∧ Below w.heap.size w w'
theorem alloc4 (w : World) (o1 o2 o3 o4 : Obj) : ((((w.alloc o1).alloc o2).alloc o3).alloc o4).heap[w.heap.size]? = some o1 ∧ ((((w.alloc o1).alloc o2).alloc o3).alloc o4).heap[w.heap.size + 1]? = some o2 ∧ ((((w.alloc o1).alloc o2).alloc o3).alloc o4).heap[w.heap.size + 1 + 1]? = some o3 ∧
    ((((w.alloc o1).alloc o2).alloc o3).alloc o4).heap[w.heap.size + 1 + 1 + 1]? = some o4 ∧ ((((w.alloc o1).alloc o2).alloc o3).alloc o4).heap.size = w.heap.size + 1 + 1 + 1 + 1 ∧ Below w.heap.size w ((((w.alloc o1).alloc o2).alloc o3).alloc o4) := by
  obtain ⟨h1, h2, h3, h4, h5⟩ := alloc3 w o1 o2 o3
  have h6 := heap_alloc_new (((w.alloc o1).alloc o2).alloc o3) o4
  rw [h4] at h6
  exact ⟨(Lib.alloc_old _ o4 _ (by omega)).trans h1, (Lib.alloc_old _ o4 _ (by omega)).trans h2, (Lib.alloc_old _ o4 _ (by omega)).trans h3, h6, by rw [size_alloc, h4], h5.alloc (by omega) o4⟩
theorem grown_ktv {B z n : Nat} {w w4 : World} {o : Obj} {v : Value} {xs : List Value} {t u : TypeId} (hown : w.ownsRow B u z v n xs) (h : (w.alloc o).grownBy w4 v.ownBlock) (hn : t ≠ u) : Kt t w w4 := fun k ds fr hk => by
  rw [h.block k (by have := lt_of hk; simp; omega) (fun e => by
    rcases hown.2 with ⟨h1, _⟩ | ⟨g, cap, cur, h1, _, h3, _⟩
    · rw [h1] at e; cases e
    · rw [h1] at e; cases e; rw [h3] at hk; cases hk; exact hn rfl), Lib.alloc_old w _ k (lt_of hk)]; exact hk
theorem grown_belowv {B z n : Nat} {w w4 : World} {o : Obj} {v : Value} {xs : List Value} {u : TypeId} (hown : w.ownsRow B u z v n xs) (h : (w.alloc o).grownBy w4 v.ownBlock) (hw : B ≤ w.heap.size) : Below B w w4 :=
  ⟨h.os, h.tape, h.output, Nat.le_trans (by simp) h.size, fun k hk => by rw [h.block k (by simp; omega) (fun e => by have := (World.ownsRow.lt hown k e.symm).1; omega), Lib.alloc_old w _ k (by omega)]⟩
theorem scells_zip (l : List Sn) (zs : List (Value × Value)) (t : Sn) (z : Value × Value) (h : zs.length = l.length) : scells (l.zip zs) ++ scell t z = scells ((l ++ [t]).zip (zs ++ [z])) := by
  rw [zip_snoc _ _ _ _ h, scells_append]; simp [scells]
theorem own_shape {w : World} {B z n : Nat} {u : TypeId} {v : Value} {xs : List Value} (h : w.ownsRow B u z v n xs) : ∃ a m c, v = .slice a m c := by
  rcases h.2 with ⟨h1, _⟩ | ⟨g', cap, cur, h1, _⟩ <;> exact ⟨_, _, _, h1⟩
theorem snews (W : World) (t : Sn) (z : Value × Value) : ∀ j u, (scell t z)[j]? = some u → (W.alloc (.cells (scell t z).toArray 44)).cell? ((⟨W.heap.size, 0, none⟩ : Addr).add j) = some u := by
  intro j u hj
  rw [op.addr_add, cell_at (heap_alloc_new W _)]
  simpa using hj
theorem snews_one (t : Sn) (z : Value × Value) (h1 : z.1.oneCell' = true) (h2 : z.2.oneCell' = true) : ∀ u ∈ scell t z, u.oneCell' = true := by
  intro u hu; simp [scell, tv] at hu; rcases hu with rfl | rfl | rfl | rfl | rfl <;> first | rfl | exact h1 | exact h2
end Go.Proofs.Ytjccohcigopdfaa.rd
end
section
/- Tokens rise, do not overlap, and hold their texts. Plain lists. -/
namespace Go.Proofs.Ytjccohcigopdfaa.lx

/-- where the last token ends -/
def lastTo (ts : List Tok) : Nat := match ts.getLast? with
  | some t => t.to
  | none => 0
theorem lastTo_snoc (ts : List Tok) (t : Tok) : lastTo (ts ++ [t]) = t.to := by simp [lastTo]
/-- a token in its place: behind e, its text there, or two bytes less within quotes -/
def PlOk (l : List UInt8) (e : Nat) (t : Tok) : Prop :=
  e ≤ t.frm ∧ t.frm < t.to ∧ t.to ≤ l.length ∧ (l.getD t.frm 0 ≠ 39 → (l.take t.to).drop t.frm = t.text) ∧ (l.getD t.frm 0 = 39 → t.text.length + 2 ≤ t.to - t.frm)
def PlAll (l : List UInt8) (ts : List Tok) : Prop := ∀ i (h : i < ts.length), PlOk l (lastTo (ts.take i)) ts[i]
theorem plAll_nil (l : List UInt8) : PlAll l [] := fun _ h => absurd h (Nat.not_lt_zero _)
theorem plAll_snoc {l : List UInt8} {ts : List Tok} {t : Tok} (h : PlAll l ts) (ht : PlOk l (lastTo ts) t) : PlAll l (ts ++ [t]) := by
  intro i hi
  rw [List.length_append, List.length_singleton] at hi
  by_cases hl : i < ts.length
  · rw [List.getElem_append_left hl, List.take_append_of_le_length (by omega)]; exact h i hl
  · obtain rfl : i = ts.length := by omega
    rw [List.getElem_append_right (Nat.le_refl _)]
    simp only [Nat.sub_self, List.getElem_cons_zero]
    rw [List.take_left]; exact ht
theorem plAll_last {l : List UInt8} {ts : List Tok} (h : PlAll l ts) : lastTo ts ≤ l.length := by
  rcases ts.eq_nil_or_concat with rfl | ⟨r, t, rfl⟩
  · exact Nat.zero_le _
  · rw [List.concat_eq_append] at h ⊢
    rw [lastTo_snoc]
    have := h r.length (by simp)
    rw [List.getElem_append_right (Nat.le_refl _)] at this
    simp only [Nat.sub_self, List.getElem_cons_zero] at this
    exact this.2.2.1

/-- what holds of the machine at the place n of the text l -/
def Inv (l : List UInt8) (ts : List Tok) (n : Nat) : Mode → Prop
  | .btw => lastTo ts ≤ n
  | .line => lastTo ts < n
  | .slash f => lastTo ts ≤ f ∧ f + 1 = n ∧ l.getD f 0 = 47
  | .dot f => lastTo ts ≤ f ∧ f + 1 = n ∧ l.getD f 0 = 46
  | .rem _ => lastTo ts ≤ n
  | .star _ => lastTo ts ≤ n
  | .word _ f acc => lastTo ts ≤ f ∧ f < n ∧ l.getD f 0 ≠ 39 ∧ (l.take n).drop f = acc
  | .quo f acc => lastTo ts ≤ f ∧ l.getD f 0 = 39 ∧ f + acc.length + 1 ≤ n
  | .quoq f acc => lastTo ts ≤ f ∧ l.getD f 0 = 39 ∧ f + acc.length + 2 ≤ n
  | .esc f acc => lastTo ts ≤ f ∧ l.getD f 0 = 39 ∧ f + acc.length + 2 ≤ n
theorem slice_one {l : List UInt8} {n : Nat} {b : UInt8} (h : l[n]? = some b) : (l.take (n + 1)).drop n = [b] := by
  obtain ⟨hl, rfl⟩ := List.getElem?_eq_some_iff.1 h
  rw [List.take_succ_eq_append_getElem hl, List.drop_append_of_le_length (by simp; omega), List.drop_take]; simp
theorem slice_more {l : List UInt8} {f n : Nat} {b : UInt8} (hf : f ≤ n) (h : l[n]? = some b) : (l.take (n + 1)).drop f = (l.take n).drop f ++ [b] := by
  obtain ⟨hl, rfl⟩ := List.getElem?_eq_some_iff.1 h
  rw [List.take_succ_eq_append_getElem hl, List.drop_append_of_le_length (by simp; omega)]
theorem getD_of {l : List UInt8} {n : Nat} {b : UInt8} (h : l[n]? = some b) : l.getD n 0 = b := by rw [List.getD_eq_getElem?_getD, h]; rfl
theorem getD_lt {l : List UInt8} {n : Nat} {b : UInt8} (h : l[n]? = some b) : n < l.length := (List.getElem?_eq_some_iff.1 h).1
/-- a whole token is put behind the others -/
theorem ends_tok {l : List UInt8} {ts : List Tok} {n : Nat} (hP : PlAll l ts) (hn : n ≤ l.length) {k f : Nat} {acc : List UInt8} (h1 : lastTo ts ≤ f) (h2 : f < n) (h3 : l.getD f 0 ≠ 39) (h4 : (l.take n).drop f = acc) :
    PlAll l (ts ++ [⟨k, acc, f, n⟩]) ∧ lastTo (ts ++ [⟨k, acc, f, n⟩]) = n :=
  ⟨plAll_snoc hP ⟨h1, h2, hn, fun _ => h4, fun h => absurd h h3⟩, lastTo_snoc _ _⟩
theorem ends_quo {l : List UInt8} {ts : List Tok} {n : Nat} (hP : PlAll l ts) (hn : n ≤ l.length) {k f : Nat} {acc : List UInt8} (h1 : lastTo ts ≤ f) (h3 : l.getD f 0 = 39) (h4 : f + acc.length + 2 ≤ n) :
    PlAll l (ts ++ [⟨k, acc, f, n⟩]) ∧ lastTo (ts ++ [⟨k, acc, f, n⟩]) = n :=
  ⟨plAll_snoc hP ⟨h1, by show f < n; omega, hn, fun h => absurd h3 h, fun _ => by show acc.length + 2 ≤ n - f; omega⟩, lastTo_snoc _ _⟩
theorem inv_start {M : Nat} {l : List UInt8} {ts ts' : List Tok} {n : Nat} {b : UInt8} {m' : Mode} (hP : PlAll l ts) (h : lastTo ts ≤ n) (hb : l[n]? = some b) (hs : start M ts n b = .go ts' m') : PlAll l ts' ∧ Inv l ts' (n + 1) m' := by
  have hlt := getD_lt hb
  have hd := getD_of hb
  have h1 := slice_one hb
  unfold start at hs
  split at hs
  · cases hs; exact ⟨hP, by show lastTo ts ≤ n + 1; omega⟩
  split at hs
  · cases hs; exact ⟨hP, by show lastTo ts < n + 1; omega⟩
  split at hs
  · cases hs; exact ⟨hP, h, rfl, by rw [hd]; assumption⟩
  split at hs
  · cases hs
  split at hs
  · cases hs
  have n39 : cl b ≠ 6 → b ≠ 39 := fun h e => h (by rw [e]; decide)
  unfold opening at hs
  by_cases h6 : cl b = 6
  · rw [if_pos h6] at hs; cases hs
    refine ⟨hP, h, ?_, by show n + 0 + 1 ≤ n + 1; omega⟩
    rw [hd]
    have := b.toNat_lt
    have e : b.toNat = 39 := by
      revert h6; unfold cl cls; repeat' split
      all_goals omega
    exact UInt8.toNat_inj.1 (by rw [e]; rfl)
  rw [if_neg h6] at hs
  by_cases h7 : cl b = 7
  · rw [if_pos h7] at hs; cases hs
    obtain ⟨p1, p2⟩ := ends_tok (k := 1) hP (n := n + 1) (by omega) h (by omega) (by rw [hd]; exact n39 h6) h1
    exact ⟨p1, by show lastTo _ ≤ n + 1; omega⟩
  rw [if_neg h7] at hs
  by_cases h8 : cl b = 8
  · rw [if_pos h8] at hs; cases hs
    obtain ⟨p1, p2⟩ := ends_tok (k := if b = 40 ∧ opens ts n = true then 4 else 5) hP (n := n + 1) (by omega) h (by omega) (by rw [hd]; exact n39 h6) h1
    exact ⟨p1, by show lastTo _ ≤ n + 1; omega⟩
  rw [if_neg h8] at hs
  by_cases h46 : b = 46
  · rw [if_pos h46] at hs; cases hs
    exact ⟨hP, h, rfl, by rw [hd, h46]⟩
  rw [if_neg h46] at hs; cases hs
  exact ⟨hP, h, by omega, by rw [hd]; exact n39 h6, h1⟩
theorem inv_step {M : Nat} {l : List UInt8} {ts ts' : List Tok} {n : Nat} {b : UInt8} {m m' : Mode} (hP : PlAll l ts) (h : Inv l ts n m) (hb : l[n]? = some b) (hs : step M ts n b m = .go ts' m') : PlAll l ts' ∧ Inv l ts' (n + 1) m' := by
  have hlt := getD_lt hb
  have hd := getD_of hb
  have go : ∀ {k f : Nat} {acc : List UInt8}, PlAll l (ts ++ [⟨k, acc, f, n⟩]) ∧ lastTo (ts ++ [⟨k, acc, f, n⟩]) = n → start M (ts ++ [⟨k, acc, f, n⟩]) n b = .go ts' m' → PlAll l ts' ∧ Inv l ts' (n + 1) m' :=
    fun hk hs => inv_start hk.1 (by omega) hb hs
  cases m with
  | btw => exact inv_start hP h hb hs
  | line =>
    have h' : lastTo ts < n := h
    simp only [step] at hs
    split at hs <;> cases hs
    · exact ⟨hP, by show lastTo ts ≤ n + 1; omega⟩
    · exact ⟨hP, by show lastTo ts < n + 1; omega⟩
  | slash f =>
    obtain ⟨h1, h2, h3⟩ := h
    simp only [step] at hs
    have hsl : (l.take n).drop f = [47] := by
      have hf : l[f]? = some 47 := by
        rw [List.getD_eq_getElem?_getD] at h3
        cases hx : l[f]? with
        | none => rw [hx] at h3; exact absurd h3 (by decide)
        | some x => rw [hx] at h3; rw [← h3]; rfl
      rw [← h2]; exact slice_one hf
    split at hs
    · cases hs; exact ⟨hP, by show lastTo ts ≤ n + 1; omega⟩
    split at hs
    · cases hs
    split at hs
    · cases hs
      exact ⟨hP, h1, by omega, by rw [h3]; decide, by rw [slice_more (by omega) hb, hsl]; rfl⟩
    · exact go (ends_tok hP (by omega) h1 (by omega) (by rw [h3]; decide) hsl) hs
  | dot f =>
    obtain ⟨h1, h2, h3⟩ := h
    simp only [step] at hs
    have hsl : (l.take n).drop f = [46] := by
      have hf : l[f]? = some 46 := by
        rw [List.getD_eq_getElem?_getD] at h3
        cases hx : l[f]? with
        | none => rw [hx] at h3; exact absurd h3 (by decide)
        | some x => rw [hx] at h3; rw [← h3]; rfl
      rw [← h2]; exact slice_one hf
    split at hs
    · cases hs
      exact ⟨hP, h1, by omega, by rw [h3]; decide, by rw [slice_more (by omega) hb, hsl]; rfl⟩
    · exact go (ends_tok hP (by omega) h1 (by omega) (by rw [h3]; decide) hsl) hs
  | rem f =>
    have h' : lastTo ts ≤ n := h
    simp only [step] at hs
    split at hs <;> cases hs
    · exact ⟨hP, by show lastTo ts ≤ n + 1; omega⟩
    · exact ⟨hP, by show lastTo ts ≤ n + 1; omega⟩
  | star f =>
    have h' : lastTo ts ≤ n := h
    simp only [step] at hs
    split at hs
    · cases hs; exact ⟨hP, by show lastTo ts ≤ n + 1; omega⟩
    split at hs <;> cases hs
    · exact ⟨hP, by show lastTo ts ≤ n + 1; omega⟩
    · exact ⟨hP, by show lastTo ts ≤ n + 1; omega⟩
  | word c f acc =>
    obtain ⟨h1, h2, h3, h4⟩ := h
    simp only [step] at hs
    split at hs
    · cases hs
      exact ⟨hP, h1, by omega, h3, by rw [slice_more (by omega) hb, h4]⟩
    · exact go (ends_tok hP (by omega) h1 h2 h3 h4) hs
  | quo f acc =>
    obtain ⟨h1, h2, h3⟩ := h
    simp only [step] at hs
    split at hs
    · cases hs; exact ⟨hP, h1, h2, by omega⟩
    split at hs
    · cases hs; exact ⟨hP, h1, h2, by omega⟩
    split at hs <;> cases hs
    exact ⟨hP, h1, h2, by rw [List.length_append, List.length_singleton]; omega⟩
  | quoq f acc =>
    obtain ⟨h1, h2, h3⟩ := h
    simp only [step] at hs
    split at hs
    · cases hs; exact ⟨hP, h1, h2, by rw [List.length_append, List.length_singleton]; omega⟩
    · exact go (ends_quo hP (by omega) h1 h2 h3) hs
  | esc f acc =>
    obtain ⟨h1, h2, h3⟩ := h
    simp only [step] at hs
    split at hs
    · cases hs; exact ⟨hP, h1, h2, by rw [List.length_append, List.length_singleton]; omega⟩
    split at hs
    · cases hs; exact ⟨hP, h1, h2, by rw [List.length_append, List.length_singleton]; omega⟩
    split at hs <;> cases hs
    exact ⟨hP, h1, h2, by rw [List.length_append, List.length_singleton]; omega⟩
theorem inv_fin {M : Nat} {l : List UInt8} {ts out : List Tok} {m : Mode} (hP : PlAll l ts) (h : Inv l ts l.length m) (hs : fin M ts l.length m = .ok out) : PlAll l out := by
  cases m with
  | btw => cases hs; exact hP
  | line => cases hs; exact hP
  | slash f =>
    obtain ⟨h1, h2, h3⟩ := h
    simp only [fin] at hs
    split at hs <;> cases hs
    have hf : l[f]? = some 47 := by
      rw [List.getD_eq_getElem?_getD] at h3
      cases hx : l[f]? with
      | none => rw [hx] at h3; exact absurd h3 (by decide)
      | some x => rw [hx] at h3; rw [← h3]; rfl
    exact (ends_tok hP (Nat.le_refl _) h1 (by omega) (by rw [h3]; decide) (by rw [← h2]; exact slice_one hf)).1
  | dot f =>
    obtain ⟨h1, h2, h3⟩ := h
    cases hs
    have hf : l[f]? = some 46 := by
      rw [List.getD_eq_getElem?_getD] at h3
      cases hx : l[f]? with
      | none => rw [hx] at h3; exact absurd h3 (by decide)
      | some x => rw [hx] at h3; rw [← h3]; rfl
    exact (ends_tok hP (Nat.le_refl _) h1 (by omega) (by rw [h3]; decide) (by rw [← h2]; exact slice_one hf)).1
  | rem f => cases hs
  | star f => cases hs
  | word c f acc =>
    obtain ⟨h1, h2, h3, h4⟩ := h
    cases hs
    exact (ends_tok hP (Nat.le_refl _) h1 h2 h3 h4).1
  | quo f acc => cases hs
  | quoq f acc =>
    obtain ⟨h1, h2, h3⟩ := h
    cases hs
    exact (ends_quo hP (Nat.le_refl _) h1 h2 h3).1
  | esc f acc => cases hs
/-- the state behind k bytes -/
theorem inv_run {M : Nat} {l : List UInt8} : ∀ (k : List UInt8) (ts : List Tok) (n : Nat) (m : Mode) (ts' : List Tok) (m' : Mode), k <+: l.drop n → PlAll l ts → Inv l ts n m → run M k ts n m = .go ts' m' → PlAll l ts' ∧ Inv l ts' (n + k.length) m' := by
  intro k
  induction k with
  | nil => intro ts n m ts' m' _ hP hI hr; cases hr; exact ⟨hP, hI⟩
  | cons b k ih =>
    intro ts n m ts' m' hk hP hI hr
    have hb : l[n]? = some b := by
      obtain ⟨r, hr'⟩ := hk
      have : (l.drop n)[0]? = some b := by rw [← hr']; rfl
      rwa [List.getElem?_drop, Nat.add_zero] at this
    rw [run] at hr
    cases hs : step M ts n b m with
    | bad p e => rw [hs] at hr; cases hr
    | go ts1 m1 =>
      rw [hs] at hr
      obtain ⟨p1, p2⟩ := inv_step hP hI hb hs
      have hk' : k <+: l.drop (n + 1) := by
        obtain ⟨r, hr⟩ := hk
        have hlt := getD_lt hb
        rw [List.drop_eq_getElem_cons hlt, List.cons_append] at hr
        exact ⟨r, (List.cons.inj hr).2⟩
      have := ih ts1 (n + 1) m1 ts' m' hk' p1 p2 hr
      rw [List.length_cons, show n + (k.length + 1) = n + 1 + k.length from by omega]
      exact this
theorem places {M : Nat} {l : List UInt8} {out : List Tok} (h : ans M l [] 0 .btw = .ok out) : PlAll l out := by
  rw [ans_run] at h
  cases hr : run M l [] 0 .btw with
  | bad p e => rw [hr] at h; cases h
  | go ts m =>
    rw [hr] at h
    obtain ⟨p1, p2⟩ := inv_run l [] 0 .btw ts m (by simp) (plAll_nil l) (Nat.zero_le _) hr
    rw [Nat.zero_add] at p2 h
    exact inv_fin p1 p2 h
end Go.Proofs.Ytjccohcigopdfaa.lx
end
section
/- Texts one behind the other; quoted names. Plain lists. -/
namespace Go.Proofs.Ytjccohcigopdfaa.lx

/-! ### one text behind another -/
/-- the state behind a text that is tokens: a line feed comes next -/
theorem fin_feed {M : Nat} {ts a : List Tok} {n : Nat} {m : Mode} (h : fin M ts n m = .ok a) : step M ts n 10 m = .go a .btw := by
  have hst : ∀ (T : List Tok), start M T n 10 = .go T .btw := fun T => by unfold start; rw [if_pos (by decide)]
  cases m <;> simp only [fin] at h <;> simp only [step]
  case btw => cases h; exact hst _
  case line => cases h; rfl
  case slash f =>
    split at h
    · cases h
    · rename_i hl; cases h; rw [if_neg (by decide), if_neg hl, if_neg (by decide)]; exact hst _
  case dot f => cases h; rw [if_neg (by decide), if_pos (.inl (by decide))]; exact hst _
  case word c f acc =>
    cases h
    rw [if_neg, hst]
    have : joinB c (cl 10) = false := by
      unfold joinB
      repeat' split
      · decide
      · rename_i hc; rcases hc with rfl | rfl <;> decide
      · rfl
    rw [this]; decide
  case quoq f acc => cases h; rw [if_neg (by decide)]; exact hst _
  all_goals cases h
/-- .. a blank that is no line feed -/
theorem fin_blank {M : Nat} {ts a : List Tok} {n : Nat} {m : Mode} (h : fin M ts n m = .ok a) (hm : m ≠ .line) : step M ts n 32 m = .go a .btw := by
  have hst : ∀ (T : List Tok), start M T n 32 = .go T .btw := fun T => by unfold start; rw [if_pos (by decide)]
  cases m <;> simp only [fin] at h <;> simp only [step]
  case btw => cases h; exact hst _
  case line => exact absurd rfl hm
  case slash f =>
    split at h
    · cases h
    · rename_i hl; cases h; rw [if_neg (by decide), if_neg hl, if_neg (by decide)]; exact hst _
  case dot f => cases h; rw [if_neg (by decide), if_pos (.inl (by decide))]; exact hst _
  case word c f acc =>
    cases h
    rw [if_neg, hst]
    have : joinB c (cl 32) = false := by
      unfold joinB
      repeat' split
      · decide
      · rename_i hc; rcases hc with rfl | rfl <;> decide
      · rfl
    rw [this]; decide
  case quoq f acc => cases h; rw [if_neg (by decide)]; exact hst _
  all_goals cases h
theorem run_of {M : Nat} {l : List UInt8} {a : List Tok} (h : ans M l [] 0 .btw = .ok a) : ∃ ts m, run M l [] 0 .btw = .go ts m ∧ fin M ts l.length m = .ok a := by
  rw [ans_run] at h
  cases hr : run M l [] 0 .btw with
  | bad p e => rw [hr] at h; cases h
  | go ts m => rw [hr] at h; rw [Nat.zero_add] at h; exact ⟨ts, m, rfl, h⟩
theorem ahead_of {l : List UInt8} {a : List Tok} {d : Nat} (h : PlAll l a) (hd : l.length < d) : Ahead a d := by
  intro t ht
  have := plAll_last h
  unfold lastTo at this
  rw [ht] at this
  simp only at this
  omega
/-- from between two tokens on, behind others, a text is what it is alone -/
theorem ans_behind {T b : List Tok} {d : Nat} {l : List UInt8} (h : Ahead T d) (hl : toks l = .ok b) (hn : T.length + b.length ≤ 1000) : ans 1000 l T d .btw = .ok (T ++ b.map (shT d)) := by
  have h1 := (ans_less (M' := 1000 - T.length) l [] 0 .btw hl).2 (by omega)
  have h2 := ans_shift h (M := 1000) (by omega) l [] 0 .btw trivial
  rw [h1, List.map_nil, List.append_nil, Nat.zero_add] at h2
  exact h2
/-- P3.1: two texts with a line feed between -/
theorem between_feed {s t : List UInt8} {a b : List Tok} (hs : toks s = .ok a) (ht : toks t = .ok b) (hn : a.length + b.length ≤ 1000) : toks (s ++ 10 :: t) = .ok (a ++ b.map (shT (s.length + 1))) := by
  obtain ⟨ts, m, hr, hf⟩ := run_of hs
  unfold toks
  rw [ans_append, hr]
  simp only
  rw [Nat.zero_add, ans_cons, fin_feed hf]
  exact ans_behind (ahead_of (places hs) (by omega)) ht hn

/-! ### notes -/
theorem ans_line_all (M : Nat) (k l : List UInt8) (ts : List Tok) (n : Nat) (h : ∀ b ∈ k, b ≠ 10) : ans M (k ++ 10 :: l) ts n .line = ans M l ts (n + k.length + 1) .btw := by
  rw [ans_line M k _ ts n h, ans_cons, step, if_pos rfl]
theorem ans_space (M : Nat) (l : List UInt8) (ts : List Tok) (n : Nat) : ans M (32 :: l) ts n .btw = ans M l ts (n + 1) .btw := by
  rw [ans_cons, step, start, if_pos (by decide)]
theorem ans_rem_plain (M f : Nat) (k l : List UInt8) (ts : List Tok) (n : Nat) (h : ∀ b ∈ k, b ≠ 42) : ans M (k ++ 42 :: 47 :: l) ts n (.rem f) = ans M l ts (n + k.length + 2) .btw := by
  induction k generalizing n with
  | nil => rw [List.nil_append, ans_cons, step, if_pos rfl]; simp only; rw [ans_cons, step, if_pos rfl]; rfl
  | cons b k ih =>
    rw [List.cons_append, ans_cons, step, if_neg (h b (by simp))]
    simp only [ih (n + 1) (fun c hc => h c (by simp [hc]))]
    rw [List.length_cons, show n + (k.length + 1) + 2 = n + 1 + k.length + 2 from by omega]
theorem ans_remark2 (M : Nat) (l : List UInt8) (ts : List Tok) (n : Nat) : ans M (47 :: 42 :: l) ts n .btw = ans M l ts (n + 2) (.rem n) := by
  rw [ans_cons, step, start, if_neg (by decide), if_neg (by decide), if_pos rfl]
  simp only
  rw [ans_cons, step, if_pos rfl]
theorem ans_pct (M : Nat) (l : List UInt8) (ts : List Tok) (n : Nat) : ans M (37 :: l) ts n .btw = ans M l ts (n + 1) .line := by
  rw [ans_cons, step, start, if_neg (by decide), if_pos rfl]
theorem notes_plain {s : List UInt8} {a : List Tok} (hs : toks s = .ok a) (t : List UInt8) : toks (s ++ 32 :: 10 :: 32 :: t) = ans 1000 t a (s.length + 3) .btw := by
  obtain ⟨ts, m, hr, hf⟩ := run_of hs
  unfold toks
  rw [ans_append, hr]
  simp only
  rw [Nat.zero_add]
  by_cases hm : m = .line
  · subst hm
    cases hf
    rw [ans_cons, step, if_neg (by decide)]; simp only
    rw [ans_cons, step, if_pos rfl]; simp only
    rw [ans_space]
  · rw [ans_cons, fin_blank hf hm]; simp only
    rw [ans_cons, step, start, if_pos (by decide)]; simp only
    rw [ans_space]
theorem notes_full {s k : List UInt8} {a : List Tok} (hs : toks s = .ok a) (h10 : ∀ b ∈ k, b ≠ 10) (h42 : ∀ b ∈ k, b ≠ 42) (t : List UInt8) :
    toks (s ++ (32 :: 47 :: 42 :: (k ++ (42 :: 47 :: 32 :: 37 :: (k ++ (10 :: 32 :: t)))))) = ans 1000 t a (s.length + (2 * k.length + 9)) .btw := by
  obtain ⟨ts, m, hr, hf⟩ := run_of hs
  unfold toks
  rw [ans_append, hr]
  simp only
  rw [Nat.zero_add]
  by_cases hm : m = .line
  · subst hm
    cases hf
    have e : (32 :: 47 :: 42 :: (k ++ (42 :: 47 :: 32 :: 37 :: (k ++ (10 :: 32 :: t)))) : List UInt8) = (32 :: 47 :: 42 :: (k ++ (42 :: 47 :: 32 :: 37 :: k))) ++ 10 :: 32 :: t := by simp
    rw [e, ans_line_all _ _ _ _ _ (by
      intro b hb
      simp only [List.mem_cons, List.mem_append] at hb
      rcases hb with rfl | rfl | rfl | hb | rfl | rfl | rfl | rfl | hb
      all_goals first | decide | exact h10 b hb), ans_space]
    congr 1
    simp; omega
  · rw [ans_cons, fin_blank hf hm]; simp only
    rw [ans_remark2, ans_rem_plain _ _ _ _ _ _ h42, ans_space, ans_pct, ans_line_all _ _ _ _ _ h10, ans_space]
    congr 1
    omega
end Go.Proofs.Ytjccohcigopdfaa.lx
end
section
/- Quoted names. Plain lists. -/
namespace Go.Proofs.Ytjccohcigopdfaa.lx

/-- a byte in quotes -/
def enc1 (b : UInt8) : List UInt8 := if b = 10 then [92, 110] else if b = 9 then [92, 116] else if b = 92 ∨ b = 39 then [92, b] else [b]
def encL (l : List UInt8) : List UInt8 := l.flatMap enc1
/-- a name in quotes -/
def inQ (l : List UInt8) : List UInt8 := 39 :: (encL l ++ [39])
/-- a byte that can stand in quotes -/
def okB (b : UInt8) : Bool := b == 10 || b == 9 || (decide (32 ≤ b.toNat) && decide (b.toNat ≤ 126))
def okL (l : List UInt8) : Bool := l.all okB
theorem enc1_len (b : UInt8) : 1 ≤ (enc1 b).length ∧ (enc1 b).length ≤ 2 := by
  unfold enc1
  by_cases h1 : b = 10
  · simp [h1]
  by_cases h2 : b = 9
  · simp [h2]
  by_cases h3 : b = 92 ∨ b = 39
  · simp [h1, h2, h3]
  · simp [h1, h2, h3]
theorem encL_len (l : List UInt8) : l.length ≤ (encL l).length ∧ (encL l).length ≤ 2 * l.length := by
  induction l with
  | nil => exact ⟨Nat.le_refl _, Nat.le_refl _⟩
  | cons b l ih =>
    have := enc1_len b
    simp only [encL, List.flatMap_cons, List.length_append, List.length_cons] at ih ⊢
    omega
theorem ans_enc1 (M f : Nat) (b : UInt8) (l acc : List UInt8) (ts : List Tok) (n : Nat) (h : okB b = true) : ans M (enc1 b ++ l) ts n (.quo f acc) = ans M l ts (n + (enc1 b).length) (.quo f (acc ++ [b])) := by
  unfold enc1
  by_cases h1 : b = 10
  · rw [if_pos h1, h1]; exact ans_q_esc M f 110 l acc ts n
  rw [if_neg h1]
  by_cases h2 : b = 9
  · rw [if_pos h2, h2]; exact ans_q_esc M f 116 l acc ts n
  rw [if_neg h2]
  by_cases h3 : b = 92 ∨ b = 39
  · rw [if_pos h3]
    rcases h3 with rfl | rfl
    · exact ans_q_esc M f 92 l acc ts n
    · exact ans_q_esc M f 39 l acc ts n
  rw [if_neg h3]
  unfold okB at h
  simp [h1, h2] at h
  exact ans_q_plain M f b l acc ts n (fun e => h3 (.inr e)) (fun e => h3 (.inl e)) (by omega)
theorem ans_enc1_bad (M f : Nat) (b : UInt8) (l acc : List UInt8) (ts : List Tok) (n : Nat) (h : okB b = false) : ans M (enc1 b ++ l) ts n (.quo f acc) = .bad n 30 := by
  unfold okB at h
  simp only [Bool.or_eq_false_iff, Bool.and_eq_false_iff, beq_eq_false_iff_ne, decide_eq_false_iff_not] at h
  obtain ⟨⟨h1, h2⟩, h3⟩ := h
  have h4 : ¬ (b = 92 ∨ b = 39) := by rintro (rfl | rfl) <;> simp at h3
  unfold enc1
  rw [if_neg h1, if_neg h2, if_neg h4]
  exact ans_q_bad M f b l acc ts n (fun e => h4 (.inr e)) (fun e => h4 (.inl e)) (by omega)
theorem ans_encL (M f : Nat) (k l : List UInt8) (ts : List Tok) : ∀ (acc : List UInt8) (n : Nat), okL k = true → ans M (encL k ++ l) ts n (.quo f acc) = ans M l ts (n + (encL k).length) (.quo f (acc ++ k)) := by
  induction k with
  | nil => intro acc n _; rw [List.append_nil]; rfl
  | cons b k ih =>
    intro acc n h
    simp only [okL, List.all_cons, Bool.and_eq_true] at h
    have e : encL (b :: k) = enc1 b ++ encL k := rfl
    rw [e, List.append_assoc, ans_enc1 M f b _ acc ts n h.1, ih _ _ h.2, List.length_append, List.append_assoc, show n + ((enc1 b).length + (encL k).length) = n + (enc1 b).length + (encL k).length from by omega]; rfl
theorem ans_encL_bad (M f : Nat) (k l : List UInt8) (ts : List Tok) : ∀ (acc : List UInt8) (n : Nat), okL k = false → ∃ p, ans M (encL k ++ l) ts n (.quo f acc) = .bad p 30 := by
  induction k with
  | nil => intro acc n h; cases h
  | cons b k ih =>
    intro acc n h
    have e : encL (b :: k) = enc1 b ++ encL k := rfl
    rw [e, List.append_assoc]
    cases hb : okB b with
    | false => exact ⟨n, ans_enc1_bad M f b _ acc ts n hb⟩
    | true =>
      rw [ans_enc1 M f b _ acc ts n hb]
      have hk : okL k = false := by simp only [okL, List.all_cons, hb, Bool.true_and] at h; exact h
      exact ih _ _ hk
theorem inQ_len (l : List UInt8) : (inQ l).length = (encL l).length + 2 := by simp [inQ]
theorem toks_inQ (l : List UInt8) (h : okL l = true) : toks (inQ l) = .ok [⟨1, l, 0, (inQ l).length⟩] := by
  unfold toks inQ
  have e : ans 1000 (39 :: (encL l ++ [39])) [] 0 .btw = ans 1000 (encL l ++ [39]) [] 1 (.quo 0 []) := by
    rw [ans_cons, step, start, if_neg (by decide), if_neg (by decide), if_neg (by decide), if_neg (by decide), if_neg (by decide), opening, if_pos (by decide)]
  rw [e, ans_encL 1000 0 l [39] [] [] 1 h, ans_q_end _ _ [] _ _ _ (fun b r hb => by cases hb)]
  simp [ans_nil, fin]; omega
theorem toks_inQ_bad (l : List UInt8) (h : okL l = false) : ∃ p, toks (inQ l) = .bad p 30 := by
  unfold toks inQ
  have e : ans 1000 (39 :: (encL l ++ [39])) [] 0 .btw = ans 1000 (encL l ++ [39]) [] 1 (.quo 0 []) := by
    rw [ans_cons, step, start, if_neg (by decide), if_neg (by decide), if_neg (by decide), if_neg (by decide), if_neg (by decide), opening, if_pos (by decide)]
  rw [e]
  exact ans_encL_bad 1000 0 l [39] [] [] 1 h

/-- o is one atom of this name -/
def isOne (name : List UInt8) : Out → Bool
  | .ok [t] => t.kind == 1 && t.text == name
  | _ => false
theorem isOne_iff {name : List UInt8} {o : Out} (h : isOne name o = true) : ∃ f n, o = .ok [⟨1, name, f, n⟩] := by
  match o, h with
  | .ok [t], h =>
    simp only [isOne, Bool.and_eq_true, beq_iff_eq] at h
    obtain ⟨k, x, f, n⟩ := t
    simp only at h
    exact ⟨f, n, by rw [h.1, h.2]⟩
  | .ok [], h => cases h
  | .ok (_ :: _ :: _), h => cases h
  | .bad _ _, h => cases h
/-- a name that is itself one atom: from its first byte to its last, and no quote ahead -/
theorem self_atom {name : List UInt8} {f n : Nat} (h : toks name = .ok [⟨1, name, f, n⟩]) : f = 0 ∧ n = name.length ∧ name.getD 0 0 ≠ 39 := by
  have hp := places h 0 (by simp)
  obtain ⟨_, h2, h3, h4, h5⟩ := hp
  simp only [List.getElem_cons_zero] at h2 h3 h4 h5
  by_cases hq : name.getD f 0 = 39
  · have := h5 hq; omega
  · have hl := congrArg List.length (h4 hq)
    rw [List.length_drop, List.length_take] at hl
    have hf : f = 0 := by omega
    subst hf
    exact ⟨rfl, by omega, hq⟩
/-- P3.2 -/
def quoteS (name : List UInt8) : List UInt8 := if isOne name (toks name) = true then name else if okL name = true then inQ name else []
theorem isOne_inQ (name : List UInt8) : isOne name (toks (inQ name)) = okL name := by
  cases h : okL name with
  | true => rw [toks_inQ name h]; simp [isOne]
  | false => obtain ⟨p, hp⟩ := toks_inQ_bad name h; rw [hp]; rfl
/-- P3.3: what is quoted is one atom of that name -/
theorem quote_toks {name : List UInt8} (h : quoteS name ≠ []) : toks (quoteS name) = .ok [⟨1, name, 0, (quoteS name).length⟩] := by
  unfold quoteS at h ⊢
  by_cases h1 : isOne name (toks name) = true
  · rw [if_pos h1] at h ⊢
    obtain ⟨f, n, hf⟩ := isOne_iff h1
    obtain ⟨rfl, rfl, _⟩ := self_atom hf
    exact hf
  · rw [if_neg h1] at h ⊢
    by_cases h2 : okL name = true
    · rw [if_pos h2] at h ⊢; exact toks_inQ name h2
    · rw [if_neg h2] at h; exact absurd rfl h
theorem quote_len (name : List UInt8) : (quoteS name).length ≤ 2 * name.length + 2 := by
  unfold quoteS
  split
  · omega
  · split
    · rw [inQ_len]; have := (encL_len name).2; omega
    · simp
/-- several names, quoted, with blanks between -/
theorem atoms_run {q name : List UInt8} (hq : toks q = .ok [⟨1, name, 0, q.length⟩]) (l : List UInt8) {T : List Tok} {d : Nat} (hT : Ahead T d) (hn : T.length + 1 ≤ 1000) :
    ans 1000 (q ++ 32 :: l) T d .btw = ans 1000 l (T ++ [⟨1, name, d, d + q.length⟩]) (d + q.length + 1) .btw := by
  have h1 := ans_behind hT hq (by simpa using hn)
  have e : [(⟨1, name, 0, q.length⟩ : Tok)].map (shT d) = [⟨1, name, d, d + q.length⟩] := by simp [shT, Nat.add_comm]
  rw [e] at h1
  -- the state behind q
  rw [ans_run] at h1
  rw [ans_append]
  obtain ⟨ts0, m0, hr0, hf0⟩ := run_of hq
  have hinv := inv_run (M := 1000) (l := q) q [] 0 .btw ts0 m0 (by simp) (plAll_nil q) (Nat.zero_le _) hr0
  have hm0 : m0 ≠ .line := by
    intro e0
    subst e0
    cases hf0
    have h2 : lastTo _ < 0 + q.length := hinv.2
    rw [show lastTo [(⟨1, name, 0, q.length⟩ : Tok)] = q.length from rfl] at h2
    omega
  cases hr : run 1000 q T d .btw with
  | bad p e => rw [hr] at h1; cases h1
  | go ts m =>
    rw [hr] at h1
    simp only at h1 ⊢
    have hm : m ≠ .line := by
      intro e1
      subst e1
      -- the same machine, shifted: its mode there is m0 shifted
      have := run_shift hT (M := 1000) (by omega) q [] 0 .btw trivial ts0 m0 ?_
      · rw [List.map_nil, List.append_nil, Nat.zero_add] at this
        have h3 : run 1000 q T d .btw = _ := this
        rw [hr] at h3
        cases m0 <;> simp [shM] at h3
        exact hm0 rfl
      · have hlen : ts0.length + pend m0 ≤ 1 := by
          have := (fin_less (M' := 1000) hf0).1
          simpa using this
        exact run_less q [] 0 .btw ts0 m0 hr0 (by omega)
    rw [ans_cons, fin_blank h1 hm]
theorem ahead_snoc (T : List Tok) (t : Tok) {d : Nat} (h : t.to < d) : Ahead (T ++ [t]) d := by
  intro x hx
  simp at hx
  rw [← hx]; exact h
end Go.Proofs.Ytjccohcigopdfaa.lx
end
section
/- lex's isAtom, inQuotes, Quote. -/
namespace Go.Proofs.Ytjccohcigopdfaa.lx
open Go.RowKit

theorem ret_s {a b : ByteArray} (h : a = b) : Ending.returned (.string a) = .returned (.string b) := by rw [h]
theorem bytes_of {s : ByteArray} {l : List UInt8} (h : s.data.toList = l) : s = ⟨l.toArray⟩ := h ▸ (Lib.mk_data s).symm
theorem data_of (l : List UInt8) : (ByteArray.mk l.toArray).data.toList = l := by simp
/-- not one token -/
def NotOne : Out → Prop
  | .ok ts => ts.length ≠ 1
  | .bad _ _ => True
theorem gives_len {w w' : World} {v : Value} {p k : Nat} {o : Out} (h : Gives w w' v p k o) (hn : NotOne o) : ∃ a n cap, v = .slice a n cap ∧ n ≠ 1 := by
  cases o with
  | ok ts => obtain ⟨a, cap, hv⟩ := h.1.shape; exact ⟨a, _, cap, hv, hn⟩
  | bad q j => exact ⟨none, 0, 0, h.1, by omega⟩
theorem not_one_isOne {name : List UInt8} {o : Out} (h : NotOne o) : isOne name o = false := by
  match o, h with
  | .ok [], _ => rfl
  | .ok [t], h => exact absurd rfl h
  | .ok (_ :: _ :: _), _ => rfl
  | .bad _ _, _ => rfl

theorem encL_snoc (l : List UInt8) (b : UInt8) : encL (l ++ [b]) = encL l ++ enc1 b := by simp [encL]
/-- a name of which both Quotes answer alike: it is not long, or is one atom as it stands -/
def Qn (x : List UInt8) : Prop := x.length ≤ 2047 ∨ (x.length ≤ 4096 ∧ isOne x (toks x) = true)
theorem Qn.small {x : List UInt8} (h : x.length ≤ 2047) : Qn x := .inl h
end Go.Proofs.Ytjccohcigopdfaa.lx
end
