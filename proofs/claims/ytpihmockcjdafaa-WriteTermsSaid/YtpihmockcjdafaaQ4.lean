/- The scanner's opens: whether a '(' opens what stands right ahead of it.; The scanner's word: goes past a token without quotes.; What stands between tokens: the scanner's skipLine, skipRemark.; The scanner's skip: all that stands between tokens.; Quoted atoms: the scanner's escaped, quoted.; Quoted atoms: the scanner's quoted.; What num's functions come to: a contract for each.; Texts of integers: num's Print, Parse; the reference's. -/
import Derived.Test.YtpihmockcjdafaaQ3
import Derived.Deep.RegionHeld3
import Derived.StillTailTactics
import Derived.Deep.Fields
import Derived.Deep.WholeRow
import Derived.Deep.LoopGhost
import Derived.Test.YtpihmockcjdafaaShelf
import Derived.Lib.CutLaws
import Derived.Lib.IndexMore
import Derived.Test.YtpihmockcjdafaaProg
import Derived.Test.YtpihmockcjdafaaQ2
import Derived.WalkKit
import Derived.Handy
import Derived.Outline
import Derived.Lib.Hide
import Derived.WalkSpells
import Derived.WalkLawsBesides
import Derived.Laws.BytesArg
set_option linter.unusedVariables false
set_option linter.unusedSimpArgs false
section
/- The scanner's opens: whether a '(' opens what stands right ahead of it. -/
namespace Go.Proofs.Ytpihmockcjdafaa.lx
open Go.RowKit

theorem below_drawn (B : Nat) (w : World) (k : Nat) : Below B w (w.drewN k) := ⟨rfl, rfl, rfl, Nat.le_refl _, fun _ _ => rfl⟩
theorem opens_nil (n : Nat) : opens [] n = false := rfl
theorem opens_snoc (l : List Tok) (t : Tok) (n : Nat) : opens (l ++ [t]) n = (t.kind == 1 && t.to == n) := by simp [opens]

set_option maxHeartbeats 1000000 in
theorem opens_none {B c n : Nat} {s : ByteArray} {v : Value} {ts : List Tok} {w : World} (h : Sc B c s n v ts w) (hn : n < s.size) (_hs : s.size ≤ 4096) (hb : (bA s n).toNat ≠ 40 ∨ ts = []) :
    Calls Try.prog 92 #[.pointer (some ⟨c, 0, none⟩)] w fun e w' => e = .returned (.bool false) ∧ Below w.heap.size w w' := by
  have c0 := h.c0
  have c1 := h.c1
  have c2 := h.c2
  obtain ⟨a, cap, rfl⟩ := h.row.shape
  clear h
  have hgt := get_bA s
  by_cases h1 : (bA s n).toNat = 40
  · obtain rfl : ts = [] := hb.resolve_left (by simpa using h1)
    obtain ⟨a1, a2⟩ := ieq_yes (a := (bA s n).toNat) 40 (by omega)
    clear h1 hb
    rw [List.length_nil] at c2
    go_enter Try.func92, Try.ntmps92
    go_wp2
    go_quiet (fail)
    go_wp2
    go_ret
    exact ⟨rfl, below_drawn ..⟩
  · obtain ⟨a1, a2⟩ := ieq_no (a := (bA s n).toNat) 40 (by omega)
    clear h1 hb
    go_enter Try.func92, Try.ntmps92
    go_wp2
    go_quiet (fail)
    go_wp2
    go_ret
    exact ⟨rfl, below_drawn ..⟩

set_option maxHeartbeats 1000000 in
theorem opens_some {B c n : Nat} {s : ByteArray} {v : Value} {ts : List Tok} {w : World} (h : Sc B c s n v ts w) (hn : n < s.size) (_hs : s.size ≤ 4096) (hb : (bA s n).toNat = 40) (h0 : 0 < ts.length) (h1 : ts.length ≤ 1000) :
    Calls Try.prog 92 #[.pointer (some ⟨c, 0, none⟩)] w fun e w' => e = .returned (.bool (opens ts n)) ∧ Below w.heap.size w w' := by
  have c0 := h.c0
  have c1 := h.c1
  have c2 := h.c2
  obtain ⟨g, cap, rfl, hcap, hg, hgl, hcell⟩ := h.row.row h0
  have hlc := h.lt
  clear h
  obtain ⟨l, t, rfl⟩ : ∃ l t, ts = l ++ [t] := ⟨ts.dropLast, ts.getLast (by intro e; rw [e] at h0; exact absurd h0 (by decide)), (List.dropLast_concat_getLast _).symm⟩
  obtain ⟨d0, d1, d2, d3⟩ := hcell l.length (by simp)
  rw [List.getElem_append_right (Nat.le_refl _)] at d0 d1 d2 d3
  simp only [Nat.sub_self, List.getElem_cons_zero] at d0 d1 d2 d3
  rw [List.length_append, List.length_singleton] at c2 hcap h1
  rw [opens_snoc]
  clear hcell h0
  have hgt := get_bA s
  generalize l.length = m at *
  have m1 : IntKind.i64.wrap (((m + 1 : Nat) : Int) - 1) = (m : Int) := by rw [IntWalk.i64_in _ (by omega)]; omega
  obtain ⟨a1, a2⟩ := ieq_yes (a := (bA s n).toNat) 40 (by omega)
  clear hb
  go_enter Try.func92, Try.ntmps92
  go_wp2
  go_quiet (fail)
  generalize hw1 : World.drewN w _ = w1
  have hb1 : Below w.heap.size w w1 := hw1 ▸ below_drawn _ _ _
  have hz : w1.heap.size = w.heap.size := by rw [← hw1]; rfl
  have x1 : ∀ (k : Nat) (j : Nat), k < w.heap.size → w1.cell? ⟨k, j, none⟩ = w.cell? ⟨k, j, none⟩ := fun k j hk => World.cell?_of_block (hb1.block k hk)
  rw [← x1 _ _ hlc] at c0 c1 c2
  rw [← x1 _ _ hgl] at d0 d1 d2 d3
  rw [← hz] at hgl hlc
  clear hw1 hz x1
  have hb2 := Lib.hid hb1
  clear hb1
  go_wp2
  go_region
  generalize hw2 : World.drew (World.alloc w1 _) = w2
  have hbl : w2.heap[w1.heap.size]? = some (.cells #[.int .i64 (t.kind : Nat), .string ⟨t.text.toArray⟩, .int .i64 (t.frm : Nat), .int .i64 (t.to : Nat)] 48 (0, 0)) := by rw [← hw2]; exact heap_alloc_new w1 _
  have e1 : w2.cell? ⟨c, 1, none⟩ = some (.int .i64 (n : Nat)) := by rw [← hw2, ← c1]; exact World.cell?_of_block (Lib.alloc_old w1 _ c hlc)
  have p0 : w2.cell? ⟨w1.heap.size, 0, none⟩ = some (.int .i64 (t.kind : Nat)) := by rw [cell_at hbl]; rfl
  have p3 : w2.cell? ⟨w1.heap.size, 3, none⟩ = some (.int .i64 (t.to : Nat)) := by rw [cell_at hbl]; rfl
  have hb3 := Lib.hid (show Below w.heap.size w w2 by rw [← hw2]; exact (hb2.out.alloc hb2.out.size _).drew)
  clear hw2 hbl c0 c1 c2 d0 d1 d2 d3 hb2
  by_cases h5 : t.kind = 1
  · obtain ⟨r1, r2⟩ := ieq_yes (a := t.kind) 1 (by omega)
    have h6 : ((t.to : Int) == (n : Int)) = (t.to == n) := by rw [Bool.eq_iff_iff]; simp; omega
    have H5 := Lib.hid (show (t.kind == 1) = true by simpa using h5)
    clear h5
    go_wp2
    go_quiet (fail)
    go_wp2
    go_ret
    exact ⟨ret_b (by rw [H5.out, Bool.true_and]), hb3.out.trans (below_drawn ..)⟩
  · obtain ⟨r1, r2⟩ := ieq_no (a := t.kind) 1 (by omega)
    have H5 := Lib.hid (show (t.kind == 1) = false by simpa using h5)
    clear h5
    go_wp2
    go_quiet (fail)
    go_wp2
    go_ret
    exact ⟨ret_b (by rw [H5.out]; rfl), hb3.out.trans (below_drawn ..)⟩

theorem opens_c {B c n : Nat} {s : ByteArray} {v : Value} {ts : List Tok} {w : World} (h : Sc B c s n v ts w) (hn : n < s.size) (hs : s.size ≤ 4096) (h1 : ts.length ≤ 1000) :
    Calls Try.prog 92 #[.pointer (some ⟨c, 0, none⟩)] w fun e w' => e = .returned (.bool (decide (bA s n = 40) && opens ts n)) ∧ Below w.heap.size w w' := by
  by_cases hb : bA s n = 40
  · by_cases h0 : ts = []
    · rw [h0, opens_nil, Bool.and_false]; exact opens_none h hn hs (.inr h0)
    · rw [decide_eq_true hb, Bool.true_and]
      exact opens_some h hn hs (by rw [hb]; rfl) (List.length_pos_iff.2 h0) h1
  · rw [decide_eq_false hb, Bool.false_and]
    exact opens_none h hn hs (.inl fun e => hb (UInt8.toNat_inj.1 e))

/-- the kind of what begins at n, with a byte of the class y -/
def kindS (s : ByteArray) (n : Nat) (ts : List Tok) (y : Nat) : Nat :=
  if y = 3 then 2 else if y = 4 then 3 else if y = 8 then (if (decide (bA s n = 40) && opens ts n) = true then 4 else 5) else if y = 5 then (if endsB s n = true then 6 else 1) else 1

set_option maxHeartbeats 1000000 in
theorem kind_c {B c n : Nat} {s : ByteArray} {v : Value} {ts : List Tok} {w : World} (h : Sc B c s n v ts w) (hn : n < s.size) (hs : s.size ≤ 4096) (h1 : ts.length ≤ 1000) (y : Nat) :
    Calls Try.prog 85 #[.pointer (some ⟨c, 0, none⟩), .int .i64 y] w fun e w' => e = .returned (.int .i64 (kindS s n ts y : Nat)) ∧ Below w.heap.size w w' := by
  have ko := opens_c h hn hs h1
  have ke := ends_c h hn hs
  clear h
  unfold kindS
  by_cases y3 : y = 3
  · subst y3
    rw [if_pos rfl]
    clear ko ke
    go_enter Try.func85, Try.ntmps85
    go_wp2
    go_ret
    exact ⟨rfl, Below.refl _ _⟩
  by_cases y4 : y = 4
  · subst y4
    rw [if_neg (by decide), if_pos rfl]
    clear ko ke
    go_enter Try.func85, Try.ntmps85
    go_wp2
    go_ret
    exact ⟨rfl, Below.refl _ _⟩
  rw [if_neg y3, if_neg y4]
  by_cases y8 : y = 8
  · subst y8
    rw [if_pos rfl]
    clear ke y3 y4
    cases ho : (decide (bA s n = 40) && opens ts n) <;> rw [ho] at ko
    all_goals
      have Ho := Lib.hid ho
      clear ho
      go_enter Try.func85, Try.ntmps85
      go_wp2_with (go_at_call 92; (with_reducible refine ko.mono ?_); rintro e w' ⟨rfl, hb⟩)
      go_ret
      exact ⟨rfl, hb⟩
  rw [if_neg y8]
  by_cases y5 : y = 5
  · subst y5
    rw [if_pos rfl]
    clear ko y3 y4 y8
    cases ho : endsB s n <;> rw [ho] at ke
    all_goals
      have Ho := Lib.hid ho
      clear ho
      go_enter Try.func85, Try.ntmps85
      go_wp2_with (go_at_call 93; (with_reducible refine ke.mono ?_); rintro e w' ⟨rfl, k, rfl⟩)
      go_ret
      exact ⟨rfl, below_drawn ..⟩
  rw [if_neg y5]
  clear ko ke
  obtain ⟨p1, p2⟩ := ieq_no (a := y) 3 (by omega)
  obtain ⟨q1, q2⟩ := ieq_no (a := y) 4 (by omega)
  obtain ⟨r1, r2⟩ := ieq_no (a := y) 8 (by omega)
  obtain ⟨s1, s2⟩ := ieq_no (a := y) 5 (by omega)
  clear y3 y4 y8 y5
  go_enter Try.func85, Try.ntmps85
  go_wp2
  go_ret
  exact ⟨rfl, Below.refl _ _⟩
end Go.Proofs.Ytpihmockcjdafaa.lx
end
section
/- The scanner's word: goes past a token without quotes. -/
namespace Go.Proofs.Ytpihmockcjdafaa.lx
open Go.RowKit

/-- what goes on with a word of class y, behind the place n -/
def wordL (s : ByteArray) (n y : Nat) : List UInt8 := (s.data.toList.drop (n + 1)).takeWhile fun b => joinB y (cl b)
theorem wordL_is {s : ByteArray} {n m y : Nat} (hn : n < m) (hm : m ≤ s.size) (h1 : ∀ j, n + 1 ≤ j → j < m → joinB y (cl (bA s j)) = true) (h2 : m < s.size → joinB y (cl (bA s m)) = false) :
    wordL s n y = (s.data.toList.drop (n + 1)).take (m - (n + 1)) ∧ (wordL s n y).length = m - (n + 1) := by
  have e : wordL s n y = (s.data.toList.drop (n + 1)).take (m - (n + 1)) := by
    have hsp := List.take_append_drop (m - (n + 1)) (s.data.toList.drop (n + 1))
    unfold wordL
    conv => lhs; rw [← hsp]
    rw [List.takeWhile_append_of_pos, List.drop_drop, show n + 1 + (m - (n + 1)) = m from by omega]
    · by_cases h : m < s.size
      · rw [drop_bA h, List.takeWhile_cons, if_neg (by rw [h2 h]; decide), List.append_nil]
      · rw [drop_end (k := m) (by omega), List.takeWhile_nil, List.append_nil]
    · intro b hb
      obtain ⟨i, hi, rfl⟩ := List.mem_iff_getElem.1 hb
      have hl := List.length_take_le (m - (n + 1)) (s.data.toList.drop (n + 1))
      rw [List.getElem_take, List.getElem_drop]
      have := h1 (n + 1 + i) (by omega) (by omega)
      unfold bA at this
      rwa [List.getD_eq_getElem?_getD, List.getElem?_eq_getElem (by simp; omega)] at this
  refine ⟨e, ?_⟩
  rw [e, List.length_take, List.length_drop]
  have : s.data.toList.length = s.size := by simp
  omega
theorem wordL_text {s : ByteArray} {n m y : Nat} (hn : n < m) (hm : m ≤ s.size) (h1 : ∀ j, n + 1 ≤ j → j < m → joinB y (cl (bA s j)) = true) (h2 : m < s.size → joinB y (cl (bA s m)) = false) :
    s.extract n m = ⟨(bA s n :: wordL s n y).toArray⟩ := by
  rw [(wordL_is hn hm h1 h2).1, Lib.extract_eq, drop_bA (by omega), show m - n = (m - (n + 1)) + 1 from by omega, List.take_succ_cons]

theorem word_end {B c n m y : Nat} {s : ByteArray} {v : Value} {ts : List Tok} {w wr : World} (hn : n < m) (hm : m ≤ s.size) (h1 : ∀ j, n + 1 ≤ j → j < m → joinB y (cl (bA s j)) = true) (h2 : m < s.size → joinB y (cl (bA s m)) = false)
    (hS : Sc B c s m v ts wr) (hK : Kp c w wr) (p q : Nat) :
    Ending.returned (.string (s.extract n m)) = .returned (.string ⟨(bA s n :: wordL s n y).toArray⟩) ∧ Sc B c s (n + 1 + (wordL s n y).length) v ts ((wr.drewN p).drewN q) ∧ Kp c w ((wr.drewN p).drewN q) := by
  rw [wordL_text hn hm h1 h2, (wordL_is hn hm h1 h2).2, show n + 1 + (m - (n + 1)) = m from by omega]
  exact ⟨rfl, (hS.drew p).drew q, (hK.drew p).drew q⟩

set_option maxHeartbeats 1000000 in
theorem word_c {B c n : Nat} {s : ByteArray} {v : Value} {ts : List Tok} {w : World} (h : Sc B c s n v ts w) (hn : n < s.size) (hs : s.size ≤ 4096) (y : Nat) :
    Calls Try.prog 86 #[.pointer (some ⟨c, 0, none⟩), .int .i64 y] w fun e w' => e = .returned (.string ⟨(bA s n :: wordL s n y).toArray⟩) ∧ Sc B c s (n + 1 + (wordL s n y).length) v ts w' ∧ Kp c w w' := by
  have c0 := h.c0
  have c1 := h.c1
  have f1 := h.free 1
  have hh := Lib.hid (h.move (n + 1) (e := (n : Int) + 1) (by omega))
  have hk0 := Lib.hid ((Kp.refl c w).set 1 (.int .i64 ((n : Int) + 1)))
  clear h
  have hgt := get_bA s
  go_enter Try.func86, Try.ntmps86
  go_wp2
  clear c0 c1 f1
  go_loopg [] (s.size - (n + 1)) (fun k wr => ∃ m : Nat, k = s.size - m ∧ m ≤ s.size ∧ n < m ∧ Hid (∀ j, n + 1 ≤ j → j < m → joinB y (cl (bA s j)) = true) ∧ Hid (Sc B c s m v ts wr) ∧ Hid (Kp c w wr))
  case atStart => exact ⟨n + 1, rfl, by omega, by omega, Lib.hid (fun j h1 h2 => absurd h2 (by omega)), hh, hk0⟩
  case round =>
    obtain ⟨m, hgk, hm, hnm, hj, hS, hK⟩ := hrel
    have c0 := hS.out.c0
    have c1 := hS.out.c1
    have f1 := hS.out.free 1
    have hmm : (m : Int) ≤ s.size := by omega
    have hn0 : (n : Int) ≤ m := by omega
    by_cases hlt : m < s.size
    · have hlt2 : (m : Int) < s.size := by omega
      have kc := class_c (bA s m).toNat (bA_le s _)
      have kj := joins_c y (cls (bA s m).toNat)
      cases hj2 : joinB y (cl (bA s m))
      all_goals
        have Hj := Lib.hid hj2
        unfold cl at hj2
        rw [hj2] at kj
        clear hj2
      · go_wp2
        go_quiet ((first | (go_at_call 80; first | exact still0 kc | exact still kc) | (go_at_call 94; first | exact still0 kj | exact still kj)))
        go_wp2
        go_quiet (fail)
        go_wp2
        go_ret
        exact word_end hnm hm hj.out (fun _ => Hj.out) hS.out hK.out _ _
      · have hj' := Lib.hid (show ∀ j, n + 1 ≤ j → j < m + 1 → joinB y (cl (bA s j)) = true from fun j h1 h2 => by
          by_cases e : j = m
          · rw [e]; exact Hj.out
          · exact hj.out j h1 (by omega))
        go_wp2
        go_quiet ((first | (go_at_call 80; first | exact still0 kc | exact still kc) | (go_at_call 94; first | exact still0 kj | exact still kj)))
        go_wp2
        go_roundg (s.size - (m + 1))
        case measure => omega
        case rel => exact ⟨m + 1, rfl, by omega, by omega, hj', Lib.hid ((hS.out.drew _).move (m + 1) (by omega)), Lib.hid ((hK.out.drew _).set 1 _)⟩
    · have hlt2 : ¬ ((m : Int) < s.size) := by omega
      go_wp2
      go_quiet (fail)
      go_wp2
      go_quiet (fail)
      go_wp2
      go_ret
      exact word_end hnm hm hj.out (fun h => absurd h hlt) hS.out hK.out _ _
end Go.Proofs.Ytpihmockcjdafaa.lx
end
section
/- What stands between tokens: the scanner's skipLine, skipRemark. -/
namespace Go.Proofs.Ytpihmockcjdafaa.lx
open Go.RowKit

/-! ### lists -/
/-- how long a line goes on -/
def lineLen (l : List UInt8) : Nat := (l.takeWhile fun b => b != 10).length
theorem lineLen_le (l : List UInt8) : lineLen l ≤ l.length := (List.takeWhile_prefix _).length_le
theorem lineLen_cons (b : UInt8) (l : List UInt8) (h : b ≠ 10) : lineLen (b :: l) = lineLen l + 1 := by
  unfold lineLen; rw [List.takeWhile_cons, if_pos (by simpa using h)]; rfl
theorem ans_comment (M : Nat) (l : List UInt8) (ts : List Tok) : ∀ n, ans M l ts n .line = ans M (l.drop (lineLen l)) ts (n + lineLen l) .btw := by
  induction l with
  | nil => intro n; rfl
  | cons b l ih =>
    intro n
    by_cases h : b = 10
    · subst h; rw [ans_line_end]; rfl
    · rw [lineLen_cons b l h, ans_cons, step, if_neg h, show n + (lineLen l + 1) = n + 1 + lineLen l from by omega]; exact ih (n + 1)
theorem ans_percent (M : Nat) (l : List UInt8) (ts : List Tok) (n : Nat) : ans M (37 :: l) ts n .btw = ans M ((37 :: l).drop (lineLen (37 :: l))) ts (n + lineLen (37 :: l)) .btw := by
  have h : ans M (37 :: l) ts n .btw = ans M l ts (n + 1) .line := by rw [ans_cons, step, start, if_neg (by decide), if_pos rfl]
  rw [h, ans_comment, lineLen_cons _ _ (by decide), List.drop_succ_cons, show n + (lineLen l + 1) = n + 1 + lineLen l from by omega]
theorem index_line (l : List UInt8) : (Lib.indexByte l 10 = -1 ∧ lineLen l = l.length) ∨ (Lib.indexByte l 10 = (lineLen l : Nat) ∧ lineLen l < l.length) := by
  induction l with
  | nil => exact .inl ⟨rfl, rfl⟩
  | cons b l ih =>
    by_cases h : b = 10
    · subst h; exact .inr ⟨rfl, Nat.succ_pos _⟩
    · rw [lineLen_cons b l h, Lib.indexByte, if_neg (by simpa using h), List.length_cons]
      rcases ih with ⟨h1, h2⟩ | ⟨h1, h2⟩
      · left; rw [h1]; exact ⟨rfl, by rw [h2]⟩
      · right; rw [h1, if_neg (by simp)]; exact ⟨by omega, by omega⟩
theorem cut_rem (l : List UInt8) : (Lib.cut l [42, 47] = (l, [], false) ∧ cutRem l = none) ∨ (∃ r, (∃ b, Lib.cut l [42, 47] = (b, r, true)) ∧ cutRem l = some r ∧ r.length + 2 ≤ l.length ∧ r = l.drop (l.length - r.length)) := by
  have key : (Lib.index l [42, 47] = -1 ∧ cutRem l = none) ∨ (∃ i : Nat, Lib.index l [42, 47] = i ∧ i + 2 ≤ l.length ∧ cutRem l = some (l.drop (i + 2))) := by
    induction l with
    | nil => exact .inl ⟨rfl, rfl⟩
    | cons a l ih =>
      cases l with
      | nil =>
        left
        refine ⟨?_, rfl⟩
        rw [Lib.index, if_neg (by simp), Lib.index]; rfl
      | cons b r =>
        rw [cutRem]
        by_cases h : a = 42 ∧ b = 47
        · obtain ⟨rfl, rfl⟩ := h
          right
          exact ⟨0, by rw [Lib.index, if_pos (by simp)]; rfl, by simp, by simp⟩
        · rw [if_neg h, Lib.index, if_neg (by simp; exact fun e1 e2 => h ⟨e1.symm, e2.symm⟩)]
          rcases ih with ⟨h1, h2⟩ | ⟨i, h1, h2, h3⟩
          · left; rw [h1]; exact ⟨rfl, h2⟩
          · right
            refine ⟨i + 1, by rw [h1, if_neg (by simp)]; omega, by simp at h2 ⊢; omega, by rw [h3]; rfl⟩
  unfold Lib.cut
  rcases key with ⟨h1, h2⟩ | ⟨i, h1, h2, h3⟩
  · left; rw [h1]; exact ⟨rfl, h2⟩
  · right
    have hl : (l.drop (i + 2)).length = l.length - (i + 2) := by simp
    refine ⟨l.drop (i + 2), ⟨l.take i, ?_⟩, h3, by omega, ?_⟩
    · rw [h1, if_pos (by omega)]; simp
    · rw [hl, show l.length - (l.length - (i + 2)) = i + 2 from by omega]

/-- the scanner gives up: the place and the error -/
def Wrong (p e : Nat) : Ending := .panicked [{ v := .iface 110 (.agg #[.int .i64 (p : Nat), .int .i64 (e : Nat)]), recovered := false }]
/-- the library's MaxLen is some number -/
def GM (w : World) : Prop := ∃ m, w.cell? ⟨0, 0, none⟩ = some (.int .i64 m)
theorem heap_pos {w : World} (h : GM w) : 0 < w.heap.size := by
  obtain ⟨m, hm⟩ := h
  rcases Nat.lt_or_ge 0 w.heap.size with h' | h'
  · exact h'
  · unfold World.cell? at hm; simp [Array.getElem?_eq_none (show w.heap.size ≤ 0 by omega)] at hm
theorem GM.kp {c : Nat} {w w' : World} (h : GM w) (hk : Kp c w w') (hc : 0 < c) : GM w' := by
  have h0 := heap_pos h
  obtain ⟨m, hm⟩ := h
  exact ⟨m, by rw [← hm]; exact World.cell?_of_block (hk.block 0 h0 (by intro e; cases e; omega))⟩
theorem GM.below {B : Nat} {w w' : World} (h : GM w) (hb : Below B w w') (hB : 0 < B) : GM w' := by
  obtain ⟨m, hm⟩ := h
  exact ⟨m, by rw [← hm]; exact World.cell?_of_block (hb.block 0 hB)⟩

theorem size_of {s : ByteArray} {l : List UInt8} (h : s.data.toList = l) : s.size = l.length := by rw [← h]; simp

set_option maxHeartbeats 1000000 in
theorem skipLine_c {B c n : Nat} {s r : ByteArray} {v : Value} {ts : List Tok} {w : World} (h : Sc B c s n v ts w) (hn : n ≤ s.size) (hs : s.size ≤ 4096) (hr : r.data.toList = s.data.toList.drop n) :
    Calls Try.prog 81 #[.pointer (some ⟨c, 0, none⟩), .string r] w fun e w' => e = .returned (.tuple #[]) ∧ Sc B c s (n + lineLen (s.data.toList.drop n)) v ts w' ∧ Kp c w w' := by
  have c0 := h.c0
  have c1 := h.c1
  have f1 := h.free 1
  have hh := Lib.hid h
  clear h
  have hz : r.size ≤ 4096 := by rw [size_of hr]; simp; omega
  have hrl := size_of hr
  have ki := fun w => Try.strings_IndexByte r 10 w
  rw [hr] at ki
  have hl := lineLen_le (s.data.toList.drop n)
  have Hr := Lib.hid hr
  clear hr
  rcases index_line (s.data.toList.drop n) with ⟨h1, h2⟩ | ⟨h1, h2⟩
  all_goals
    rw [show (10 : Int).toNat.toUInt8 = 10 from rfl, h1] at ki
    rw [← hrl] at h2 hl
    have H1 := Lib.hid h1
    have Hrl := Lib.hid hrl
    clear h1 hrl
    generalize lineLen (s.data.toList.drop n) = q at *
  · subst h2
    go_enter Try.func81, Try.ntmps81
    go_wp2_with (go_at_call 87; (with_reducible refine (ki _).mono ?_); rintro e w' ⟨rfl, rfl⟩)
    go_end0
    exact ⟨rfl, hh.out.move _ (by omega), (Kp.refl c _).set 1 _⟩
  · go_enter Try.func81, Try.ntmps81
    go_wp2_with (go_at_call 87; (with_reducible refine (ki _).mono ?_); rintro e w' ⟨rfl, rfl⟩)
    go_end0
    exact ⟨rfl, hh.out.move _ (by omega), (Kp.refl c _).set 1 _⟩

set_option maxHeartbeats 1000000 in
theorem skipRemark_none {B c n : Nat} {s r : ByteArray} {v : Value} {ts : List Tok} {w : World} (h : Sc B c s n v ts w) (hg : GM w) (hn : n + 2 ≤ s.size) (hs : s.size ≤ 4096) (hr : r.data.toList = s.data.toList.drop n)
    (hq : cutRem (s.data.toList.drop (n + 2)) = none) :
    Calls Try.prog 83 #[.pointer (some ⟨c, 0, none⟩), .string r] w fun e w' => e = Wrong n 31 ∧ Kp c w w' := by
  have c0 := h.c0
  have c1 := h.c1
  clear h
  obtain ⟨gm, hgm⟩ := hg
  have hz : 2 ≤ r.size ∧ r.size ≤ 4096 := by rw [size_of hr]; simp; omega
  have hr2 : (r.extract 2 r.size).data.toList = s.data.toList.drop (n + 2) := by rw [Lib.extract_to_end, hr, List.drop_drop]
  have hz2 : (r.extract 2 r.size).size < 4294967281 := by rw [size_of hr2]; simp; omega
  have kc := fun w hm => Try.strings_Cut (r.extract 2 r.size) ⟨#[42, 47]⟩ gm w hz2 hm
  rw [hr2] at kc
  rcases cut_rem (s.data.toList.drop (n + 2)) with ⟨h1, _⟩ | ⟨x, _, h1, _⟩
  · rw [show (ByteArray.mk #[42, 47]).data.toList = [42, 47] from rfl, h1] at kc
    clear h1 hr hr2 hz2 hq
    go_enter Try.func83, Try.ntmps83
    go_wp2_with (go_at_call 89; (with_reducible refine (kc _ hgm).mono ?_); rintro e w' ⟨rfl, k, rfl⟩)
    exact ⟨rfl, rfl, Kp.drawn ..⟩
  · rw [hq] at h1; cases h1
set_option maxHeartbeats 1000000 in
theorem skipRemark_some {B c n : Nat} {s r : ByteArray} {v : Value} {ts : List Tok} {w : World} (h : Sc B c s n v ts w) (hg : GM w) (hn : n + 2 ≤ s.size) (hs : s.size ≤ 4096) (hr : r.data.toList = s.data.toList.drop n)
    {q : List UInt8} (hq : cutRem (s.data.toList.drop (n + 2)) = some q) :
    Calls Try.prog 83 #[.pointer (some ⟨c, 0, none⟩), .string r] w fun e w' => e = .returned (.tuple #[]) ∧ Sc B c s (s.size - q.length) v ts w' ∧ Kp c w w' := by
  have c0 := h.c0
  have c1 := h.c1
  have f1 := h.free 1
  have hh := Lib.hid h
  clear h
  obtain ⟨gm, hgm⟩ := hg
  have hz : 2 ≤ r.size ∧ r.size ≤ 4096 := by rw [size_of hr]; simp; omega
  have hr2 : (r.extract 2 r.size).data.toList = s.data.toList.drop (n + 2) := by rw [Lib.extract_to_end, hr, List.drop_drop]
  have hz2 : (r.extract 2 r.size).size < 4294967281 := by rw [size_of hr2]; simp; omega
  have kc := fun w hm => Try.strings_Cut (r.extract 2 r.size) ⟨#[42, 47]⟩ gm w hz2 hm
  rw [hr2] at kc
  rcases cut_rem (s.data.toList.drop (n + 2)) with ⟨_, h1⟩ | ⟨x, ⟨b, h0⟩, h1, h2, _⟩
  · rw [hq] at h1; cases h1
  · rw [hq] at h1; cases h1
    rw [show (ByteArray.mk #[42, 47]).data.toList = [42, 47] from rfl, h0] at kc
    have hql : q.length ≤ s.size := by simp at h2; omega
    have hqs : (ByteArray.mk q.toArray).size = q.length := by simp [ByteArray.size]
    clear h0 h2 hr hr2 hz2 hq
    rw [← hqs] at hql ⊢
    clear hqs
    generalize ByteArray.mk q.toArray = qs at *
    have hql2 : (qs.size : Int) ≤ s.size := by omega
    go_enter Try.func83, Try.ntmps83
    go_wp2_with (go_at_call 89; (with_reducible refine (kc _ hgm).mono ?_); rintro e w' ⟨rfl, k, rfl⟩)
    go_end0
    exact ⟨rfl, (hh.out.drew k).move _ (by omega), (Kp.drawn c w k).set 1 _⟩
end Go.Proofs.Ytpihmockcjdafaa.lx
end
section
/- The scanner's skip: all that stands between tokens. -/
namespace Go.Proofs.Ytpihmockcjdafaa.lx
open Go.RowKit

theorem ans_blank (M : Nat) (b : UInt8) (l : List UInt8) (ts : List Tok) (n : Nat) (h : cl b = 1) : ans M (b :: l) ts n .btw = ans M l ts (n + 1) .btw := by
  rw [ans_cons, step, start, if_pos h]
theorem ans_remark (M : Nat) (l : List UInt8) (ts : List Tok) (n : Nat) : ans M (47 :: 42 :: l) ts n .btw = ans M l ts (n + 2) (.rem n) := by
  rw [ans_cons, step, start, if_neg (by decide), if_neg (by decide), if_pos rfl]
  simp only
  rw [ans_cons, step, if_pos rfl]
/-- a token begins at m, or the text is at its end -/
def Stop (s : ByteArray) (m : Nat) : Prop := m < s.size → cl (bA s m) ≠ 1 ∧ bA s m ≠ 37 ∧ Lib.hasPrefix (s.data.toList.drop m) [47, 42] = false
/-- the text from n on comes to what it comes to from m on -/
def Same (s : ByteArray) (n m : Nat) : Prop := ∀ M ts, ans M (s.data.toList.drop n) ts n .btw = ans M (s.data.toList.drop m) ts m .btw
def SkipP (B c : Nat) (s : ByteArray) (v : Value) (ts : List Tok) (n : Nat) (w : World) (e : Ending) (w' : World) : Prop :=
  Kp c w w' ∧ ((∃ m, e = .returned (.tuple #[]) ∧ Sc B c s m v ts w' ∧ n ≤ m ∧ m ≤ s.size ∧ Stop s m ∧ Same s n m) ∨
    (∃ p k, e = Wrong p k ∧ ∀ M ts', ans M (s.data.toList.drop n) ts' n .btw = .bad p k))
theorem rest_facts {s : ByteArray} {m : Nat} (h : m < s.size) : (∀ h0 : 0 < (s.extract m s.size).size, (s.extract m s.size)[0]'h0 = bA s m) ∧ 0 < (s.extract m s.size).size ∧ (s.extract m s.size).data.toList = s.data.toList.drop m := by
  have e : (s.extract m s.size).data.toList = s.data.toList.drop m := Lib.extract_to_end s m
  refine ⟨fun h0 => ?_, by rw [size_of e]; simp; omega, e⟩
  rw [get_bA]
  unfold bA
  rw [e]; simp
theorem same_line {s : ByteArray} {m : Nat} (h : m < s.size) (hb : bA s m = 37) : Same s m (m + lineLen (s.data.toList.drop m)) ∧ 1 ≤ lineLen (s.data.toList.drop m) ∧ m + lineLen (s.data.toList.drop m) ≤ s.size := by
  have hl := lineLen_le (s.data.toList.drop m)
  have hs : s.data.toList.length = s.size := by simp
  refine ⟨fun M ts => ?_, ?_, by rw [List.length_drop] at hl; omega⟩
  · have e := drop_bA h
    rw [hb] at e
    rw [← List.drop_drop, e]; exact ans_percent M _ ts m
  · rw [drop_bA h, hb, lineLen_cons _ _ (by decide)]; omega
theorem prefix_two {l : List UInt8} (h : Lib.hasPrefix l [47, 42] = true) : ∃ r, l = 47 :: 42 :: r := by
  unfold Lib.hasPrefix at h
  match l, h with
  | [], h => simp at h
  | [a], h => simp at h
  | a :: b :: r, h => simp at h; obtain ⟨rfl, rfl⟩ := h; exact ⟨r, rfl⟩
theorem same_remark {s : ByteArray} {m : Nat} (hm : m < s.size) (h : Lib.hasPrefix (s.data.toList.drop m) [47, 42] = true) : m + 2 ≤ s.size ∧
    (cutRem (s.data.toList.drop (m + 2)) = none → ∀ M ts', ans M (s.data.toList.drop m) ts' m .btw = .bad m 31) ∧
    (∀ q, cutRem (s.data.toList.drop (m + 2)) = some q → Same s m (s.size - q.length) ∧ m < s.size - q.length) := by
  obtain ⟨r, hr⟩ := prefix_two h
  have hs : s.data.toList.length = s.size := by simp
  have hl : (s.data.toList.drop m).length = r.length + 2 := by rw [hr]; rfl
  rw [List.length_drop] at hl
  have e2 : s.data.toList.drop (m + 2) = r := by rw [← List.drop_drop, hr]; rfl
  refine ⟨by omega, fun hq M ts' => ?_, fun q hq => ?_⟩
  · rw [hr, ans_remark]; rw [e2] at hq; exact (ans_rem M m ts' r (m + 2)).2.1 hq
  · rw [e2] at hq
    rcases cut_rem r with ⟨_, h1⟩ | ⟨x, _, h1, h2, h3⟩
    · rw [hq] at h1; cases h1
    · rw [hq] at h1; cases h1
      refine ⟨fun M ts => ?_, by omega⟩
      have hd : s.data.toList.drop (s.size - q.length) = q := by
        rw [show s.size - q.length = m + 2 + (r.length - q.length) from by omega, ← List.drop_drop, e2]; exact h3.symm
      rw [hr, ans_remark, hd, ((ans_rem M m ts r (m + 2)).1 q hq).1, show m + 2 + r.length - q.length = s.size - q.length from by omega]

set_option maxHeartbeats 2000000 in
theorem skip_c {B c n : Nat} {s : ByteArray} {v : Value} {ts : List Tok} {w : World} (h : Sc B c s n v ts w) (hg : GM w) (hc : 0 < c) (hn : n ≤ s.size) (hs : s.size ≤ 4096) :
    Calls Try.prog 78 #[.pointer (some ⟨c, 0, none⟩)] w (SkipP B c s v ts n w) := by
  have hh := Lib.hid h
  have hG := Lib.hid hg
  clear h hg
  go_enter Try.func78, Try.ntmps78
  go_wp2
  go_step3
  go_wp2
  go_step3
  go_wp2
  go_loopg [] (s.size - n) (fun k wr => ∃ m : Nat, k = s.size - m ∧ m ≤ s.size ∧ n ≤ m ∧ Hid (Same s n m) ∧ Hid (Sc B c s m v ts wr) ∧ Hid (Kp c w wr))
  case atStart => exact ⟨n, rfl, by omega, by omega, Lib.hid (fun _ _ => rfl), hh, Lib.hid (Kp.refl c w)⟩
  case round =>
    obtain ⟨m, hgk, hm, hnm, hj, hS, hK⟩ := hrel
    have c0 := hS.out.c0
    have c1 := hS.out.c1
    have f1 := hS.out.free 1
    have hmm : (m : Int) ≤ s.size := by omega
    by_cases hlt : m < s.size
    · have hlt2 : (m : Int) < s.size := by omega
      obtain ⟨r0, rz, rl⟩ := rest_facts hlt
      have Rl := Lib.hid rl
      clear rl
      have kc := class_c (bA s m).toNat (bA_le s _)
      go_wp2
      go_quiet (fail)
      go_wp2
      go_quiet (fail)
      generalize s.extract m s.size = r at *
      generalize hw2 : World.drewN (World.drewN wr _) _ = w2
      have hS2 := Lib.hid (show Sc B c s m v ts w2 by rw [← hw2]; exact (hS.out.drew _).drew _)
      have hK2 := Lib.hid (show Kp c w w2 by rw [← hw2]; exact (hK.out.drew _).drew _)
      clear hw2 c0 c1 f1 hS hK
      have c1 := hS2.out.c1
      have f1 := hS2.out.free 1
      by_cases hb1 : cls (bA s m).toNat = 1
      · obtain ⟨b1, b2⟩ := ieq_yes (a := cls (bA s m).toNat) 1 (by omega)
        have hj' := Lib.hid (show Same s n (m + 1) from fun M ts => by rw [hj.out M ts, drop_bA hlt, ans_blank M _ _ _ _ hb1])
        clear hb1
        go_wp2_with (first | (go_at_call 80; (with_reducible refine (kc _).mono ?_); rintro e w' ⟨rfl, rfl⟩))
        go_roundg (s.size - (m + 1))
        case measure => omega
        case rel => exact ⟨m + 1, rfl, by omega, by omega, hj', Lib.hid (hS2.out.move (m + 1) (by omega)), Lib.hid (hK2.out.set 1 _)⟩
      · obtain ⟨b1, b2⟩ := ieq_no (a := cls (bA s m).toNat) 1 (by omega)
        have Hb1 := Lib.hid hb1
        clear hb1
        by_cases hb2 : bA s m = 37
        · obtain ⟨d1, d2⟩ := ieq_yes (a := (bA s m).toNat) 37 (by rw [hb2]; rfl)
          have ks := skipLine_c hS2.out hm hs Rl.out
          obtain ⟨l1, l2, l3⟩ := same_line hlt hb2
          have hj' := Lib.hid (show Same s n (m + lineLen (s.data.toList.drop m)) from fun M ts => by rw [hj.out M ts, l1 M ts])
          clear hb2 l1
          go_wp2_with (first | (go_at_call 80; (with_reducible refine (kc _).mono ?_); rintro e w' ⟨rfl, rfl⟩) | (go_at_call 81; (with_reducible refine ks.mono ?_); rintro e w' ⟨rfl, hs1, hk1⟩))
          go_roundg (s.size - (m + lineLen (s.data.toList.drop m)))
          case measure => omega
          case rel => exact ⟨_, rfl, l3, by omega, hj', Lib.hid hs1, Lib.hid (hK2.out.trans hk1)⟩
        · obtain ⟨d1, d2⟩ := ieq_no (a := (bA s m).toNat) 37 (by intro e; exact hb2 (UInt8.toNat_inj.1 (by simp; omega)))
          have kp := fun w => Try.strings_HasPrefix r ⟨#[47, 42]⟩ w
          rw [Rl.out, show (ByteArray.mk #[47, 42]).data.toList = [47, 42] from rfl] at kp
          cases hp : Lib.hasPrefix (s.data.toList.drop m) [47, 42] <;> rw [hp] at kp
          · have hst := Lib.hid (show Stop s m from fun _ => ⟨Hb1.out, hb2, hp⟩)
            clear hb2 hp
            go_wp2_with (first | (go_at_call 80; (with_reducible refine (kc _).mono ?_); rintro e w' ⟨rfl, rfl⟩) | (go_at_call 82; (with_reducible refine (kp _).mono ?_); rintro e w' ⟨rfl, rfl⟩))
            rw [Exit.noGoto_normal]
            go_end0
            exact ⟨hK2.out, .inl ⟨m, rfl, hS2.out, hnm, hm, hst.out, hj.out⟩⟩
          · obtain ⟨m2, q1, q2⟩ := same_remark hlt hp
            cases hq : cutRem (s.data.toList.drop (m + 2)) with
            | none =>
              have kr := skipRemark_none hS2.out (hG.out.kp hK2.out hc) m2 hs Rl.out hq
              unfold Wrong at kr
              have hbad := Lib.hid (show ∀ M ts', ans M (s.data.toList.drop n) ts' n .btw = .bad m 31 from fun M ts' => by rw [hj.out M ts']; exact q1 hq M ts')
              clear hb2 hp hq q1 q2
              go_wp2_with (first | (go_at_call 80; (with_reducible refine (kc _).mono ?_); rintro e w' ⟨rfl, rfl⟩) | (go_at_call 82; (with_reducible refine (kp _).mono ?_); rintro e w' ⟨rfl, rfl⟩) | (go_at_call 83; (with_reducible refine kr.mono ?_); rintro e w' ⟨rfl, hk1⟩))
              exact ⟨rfl, hK2.out.trans hk1, .inr ⟨m, 31, rfl, hbad.out⟩⟩
            | some q =>
              have kr := skipRemark_some hS2.out (hG.out.kp hK2.out hc) m2 hs Rl.out hq
              obtain ⟨q3, q4⟩ := q2 q hq
              have hj' := Lib.hid (show Same s n (s.size - q.length) from fun M ts => by rw [hj.out M ts, q3 M ts])
              clear hb2 hp hq q1 q2 q3
              go_wp2_with (first | (go_at_call 80; (with_reducible refine (kc _).mono ?_); rintro e w' ⟨rfl, rfl⟩) | (go_at_call 82; (with_reducible refine (kp _).mono ?_); rintro e w' ⟨rfl, rfl⟩) | (go_at_call 83; (with_reducible refine kr.mono ?_); rintro e w' ⟨rfl, hs1, hk1⟩))
              go_roundg (s.size - (s.size - q.length))
              case measure => omega
              case rel => exact ⟨_, rfl, by omega, by omega, hj', Lib.hid hs1, Lib.hid (hK2.out.trans hk1)⟩
    · have hlt2 : ¬ ((m : Int) < s.size) := by omega
      go_wp2
      go_quiet (fail)
      go_wp2
      rw [Exit.noGoto_normal]
      go_end0
      exact ⟨hK.out.drew _, .inl ⟨m, rfl, hS.out.drew _, hnm, hm, fun h => absurd h hlt, hj.out⟩⟩
end Go.Proofs.Ytpihmockcjdafaa.lx
end
section
/- Quoted atoms: the scanner's escaped, quoted. -/
namespace Go.Proofs.Ytpihmockcjdafaa.lx
open Go.RowKit

/-- what a backslash and this byte stand for -/
def escOk (d : UInt8) : Bool := d == 110 || d == 116 || d == 92 || d == 39
def escV (d : UInt8) : UInt8 := if d = 110 then 10 else if d = 116 then 9 else d

def escE (d : UInt8) (n : Nat) : Ending := if escOk d = true then .returned (.int .u8 ((escV d).toNat : Nat)) else Wrong n 32
theorem escaped_end {B c n f : Nat} {s : ByteArray} {v : Value} {ts : List Tok} {w : World} (h : Sc B c s n v ts w) (hs : s.size ≤ 4096) (hn : n + 1 = s.size) :
    Calls Try.prog 91 #[.pointer (some ⟨c, 0, none⟩), .int .i64 (f : Nat)] w fun e w' => e = Wrong f 31 ∧ w = w' := by
  have c0 := h.c0
  have c1 := h.c1
  clear h
  have b1 : ((n : Int) + 1 == (s.size : Int)) = true := by simp; omega
  have hn2 : n ≤ 4096 := by omega
  clear hn
  go_enter Try.func91, Try.ntmps91
  go_wp2
  exact ⟨rfl, rfl, rfl⟩
set_option maxHeartbeats 1000000 in
theorem escaped_c {B c n f : Nat} {s : ByteArray} {v : Value} {ts : List Tok} {w : World} (h : Sc B c s n v ts w) (hs : s.size ≤ 4096) (hn : n + 1 < s.size) :
    Calls Try.prog 91 #[.pointer (some ⟨c, 0, none⟩), .int .i64 (f : Nat)] w fun e w' => e = escE (bA s (n + 1)) n ∧ w = w' := by
  have c0 := h.c0
  have c1 := h.c1
  clear h
  have hgt := get_bA s
  have b1 : ((n : Int) + 1 == (s.size : Int)) = false := by simp; omega
  have hx : ∀ k : Nat, k < 256 → (bA s (n + 1)).toNat = k → bA s (n + 1) = UInt8.ofNat k := fun k hk e => UInt8.toNat_inj.1 (by rw [e]; simp; omega)
  by_cases h1 : (bA s (n + 1)).toNat = 110
  · obtain ⟨a1, a2⟩ := ieq_yes (a := (bA s (n + 1)).toNat) 110 (by omega)
    have e := Lib.hid (hx _ (by omega) h1)
    clear hx h1
    go_enter Try.func91, Try.ntmps91
    go_wp2
    go_ret
    exact ⟨by rw [e.out]; rfl, rfl⟩
  obtain ⟨p1, p2⟩ := ieq_no (a := (bA s (n + 1)).toNat) 110 (by omega)
  by_cases h2 : (bA s (n + 1)).toNat = 116
  · obtain ⟨a1, a2⟩ := ieq_yes (a := (bA s (n + 1)).toNat) 116 (by omega)
    have e := Lib.hid (hx _ (by omega) h2)
    clear hx h1 h2
    go_enter Try.func91, Try.ntmps91
    go_wp2
    go_ret
    exact ⟨by rw [e.out]; rfl, rfl⟩
  obtain ⟨q1, q2⟩ := ieq_no (a := (bA s (n + 1)).toNat) 116 (by omega)
  by_cases h3 : (bA s (n + 1)).toNat = 92
  · obtain ⟨a1, a2⟩ := ieq_yes (a := (bA s (n + 1)).toNat) 92 (by omega)
    have e := Lib.hid (hx _ (by omega) h3)
    clear hx h1 h2 h3
    go_enter Try.func91, Try.ntmps91
    go_wp2
    go_ret
    exact ⟨by rw [e.out]; rfl, rfl⟩
  obtain ⟨r1, r2⟩ := ieq_no (a := (bA s (n + 1)).toNat) 92 (by omega)
  by_cases h4 : (bA s (n + 1)).toNat = 39
  · obtain ⟨a1, a2⟩ := ieq_yes (a := (bA s (n + 1)).toNat) 39 (by omega)
    have e := Lib.hid (hx _ (by omega) h4)
    clear hx h1 h2 h3 h4
    go_enter Try.func91, Try.ntmps91
    go_wp2
    go_ret
    exact ⟨by rw [e.out]; rfl, rfl⟩
  obtain ⟨s1, s2⟩ := ieq_no (a := (bA s (n + 1)).toNat) 39 (by omega)
  have hno : escOk (bA s (n + 1)) = false := by
    unfold escOk
    rw [show (110 : UInt8) = UInt8.ofNat 110 from rfl, show (116 : UInt8) = UInt8.ofNat 116 from rfl, show (92 : UInt8) = UInt8.ofNat 92 from rfl, show (39 : UInt8) = UInt8.ofNat 39 from rfl,
      u8_eq _ _ (by omega), u8_eq _ _ (by omega), u8_eq _ _ (by omega), u8_eq _ _ (by omega)]
    simp [h1, h2, h3, h4]
  have hE := Lib.hid (show escE (bA s (n + 1)) n = Wrong n 32 by unfold escE; rw [if_neg (by rw [hno]; decide)])
  clear hno hx h1 h2 h3 h4
  go_enter Try.func91, Try.ntmps91
  go_wp2
  exact ⟨rfl, by rw [hE.out]; rfl, rfl⟩

/-! ### the machine in quotes -/
theorem ans_q_plain (M f : Nat) (b : UInt8) (l acc : List UInt8) (ts : List Tok) (n : Nat) (h1 : b ≠ 39) (h2 : b ≠ 92) (h3 : ¬ (b.toNat < 32 ∨ 126 < b.toNat)) :
    ans M (b :: l) ts n (.quo f acc) = ans M l ts (n + 1) (.quo f (acc ++ [b])) := by
  rw [ans_cons, step, if_neg h1, if_neg h2, if_neg h3]
theorem ans_q_bad (M f : Nat) (b : UInt8) (l acc : List UInt8) (ts : List Tok) (n : Nat) (h1 : b ≠ 39) (h2 : b ≠ 92) (h3 : b.toNat < 32 ∨ 126 < b.toNat) :
    ans M (b :: l) ts n (.quo f acc) = .bad n 30 := by
  rw [ans_cons, step, if_neg h1, if_neg h2, if_pos h3]
theorem ans_q_two (M f : Nat) (l acc : List UInt8) (ts : List Tok) (n : Nat) : ans M (39 :: 39 :: l) ts n (.quo f acc) = ans M l ts (n + 2) (.quo f (acc ++ [39])) := by
  rw [ans_cons, step, if_pos rfl]; simp only; rw [ans_cons, step, if_pos rfl]
theorem ans_q_esc (M f : Nat) (d : UInt8) (l acc : List UInt8) (ts : List Tok) (n : Nat) : ans M (92 :: d :: l) ts n (.quo f acc) = if escOk d = true then ans M l ts (n + 2) (.quo f (acc ++ [escV d])) else .bad n 32 := by
  rw [ans_cons, step, if_neg (by decide), if_pos rfl]; simp only; rw [ans_cons, step]
  unfold escOk escV
  by_cases h1 : d = 110
  · subst h1; rfl
  by_cases h2 : d = 116
  · subst h2; rfl
  by_cases h3 : d = 92
  · subst h3; rfl
  by_cases h4 : d = 39
  · subst h4; rfl
  rw [if_neg h1, if_neg h2, if_neg (by simp [h3, h4]), if_neg (by simp [h1, h2, h3, h4])]; rfl
theorem ans_q_esc_end (M f : Nat) (acc : List UInt8) (ts : List Tok) (n : Nat) : ans M [92] ts n (.quo f acc) = .bad f 31 := rfl
theorem ans_q_end (M f : Nat) (l acc : List UInt8) (ts : List Tok) (n : Nat) (h : ∀ b r, l = b :: r → b ≠ 39) : ans M (39 :: l) ts n (.quo f acc) = ans M l (ts ++ [⟨1, acc, f, n + 1⟩]) (n + 1) .btw := by
  rw [ans_cons, step, if_pos rfl]
  cases l with
  | nil => rfl
  | cons b r => simp only; rw [ans_cons, ans_cons, step, step, if_neg (h b r rfl)]

/-! ### frames -/
theorem Sc.on {B c n K : Nat} {s : ByteArray} {v : Value} {ts : List Tok} {w w' : World} (h : Sc B c s n v ts w) (hb : Below K w w') (hc : c < K) (hv : ∀ g, v.ownBlock = some g → g < K) : Sc B c s n v ts w' := by
  refine ⟨h.base, (hb.block c hc).trans h.block, ⟨h.row.1, ?_⟩, h.other⟩
  rcases h.row.2 with h1 | ⟨g, cap, cur, h1, h2, h3, h4⟩
  · exact .inl h1
  · exact .inr ⟨g, cap, cur, h1, h2, (hb.block g (hv g (by rw [h1]; rfl))).trans h3, h4⟩
theorem Kp.on {c K : Nat} {w w1 w2 : World} (h : Kp c w w1) (hb : Below K w1 w2) (hK : w.heap.size ≤ K) : Kp c w w2 :=
  ⟨hb.os.trans h.os, hb.tape.trans h.tape, hb.output.trans h.output, Nat.le_trans h.size hb.size, fun k hk hne => (hb.block k (by omega)).trans (h.block k hk hne)⟩
theorem Bl.kp {c K b : Nat} {l : List UInt8} {w w' : World} (h : Bl K b l w) (hk : Kp c w w') (hc : c < K) : Bl K b l w' := by
  have key : ∀ p, Lib.BuilderAtF 55 5 K b p (Lib.byteCells l) w → Lib.BuilderAtF 55 5 K b p (Lib.byteCells l) w' := by
    rintro p ⟨hB, v, hb, hown, hne⟩
    have hlt : b < w.heap.size := by
      rcases Nat.lt_or_ge b w.heap.size with h' | h'
      · exact h'
      · simp [Array.getElem?_eq_none h'] at hb
    refine ⟨hB, v, (hk.block b hlt (by intro e; cases e; omega)).trans hb, ⟨hown.1, ?_⟩, hne⟩
    rcases hown.2 with h1 | ⟨g, cap, cur, fz, h1, h2, h3, h4⟩
    · exact .inl h1
    · have hg : g < w.heap.size := by
        rcases Nat.lt_or_ge g w.heap.size with h' | h'
        · exact h'
        · simp [Array.getElem?_eq_none h'] at h3
      exact .inr ⟨g, cap, cur, fz, h1, h2, (hk.block g hg (by intro e; cases e; omega)).trans h3, h4⟩
  exact h.elim (fun x => .inl (key _ x)) (fun x => .inr (key _ x))
end Go.Proofs.Ytpihmockcjdafaa.lx
end
section
/- Quoted atoms: the scanner's quoted. -/
namespace Go.Proofs.Ytpihmockcjdafaa.lx
open Go.RowKit

/-- the machine in quotes that began at n comes from n + 1 on to what it comes to at m with the text acc -/
def Quo (s : ByteArray) (n m : Nat) (acc : List UInt8) : Prop := ∀ M ts, ans M (s.data.toList.drop (n + 1)) ts (n + 1) (.quo n []) = ans M (s.data.toList.drop m) ts m (.quo n acc)
def QuoOk (s : ByteArray) (n m : Nat) (acc : List UInt8) : Prop := ∀ M ts, ans M (s.data.toList.drop (n + 1)) ts (n + 1) (.quo n []) = ans M (s.data.toList.drop m) (ts ++ [⟨1, acc, n, m⟩]) m .btw
def QuoBad (s : ByteArray) (n p k : Nat) : Prop := ∀ M ts, ans M (s.data.toList.drop (n + 1)) ts (n + 1) (.quo n []) = .bad p k
def QuoP (B c : Nat) (s : ByteArray) (v : Value) (ts : List Tok) (n : Nat) (w : World) (e : Ending) (w' : World) : Prop :=
  Kp c w w' ∧ ((∃ m acc, e = .returned (.string ⟨acc.toArray⟩) ∧ Sc B c s m v ts w' ∧ n < m ∧ m ≤ s.size ∧ QuoOk s n m acc) ∨ (∃ p k, e = Wrong p k ∧ QuoBad s n p k))

theorem drop2 {s : ByteArray} {m : Nat} (h : m + 1 < s.size) : s.data.toList.drop m = bA s m :: bA s (m + 1) :: s.data.toList.drop (m + 2) := by
  rw [drop_bA (by omega), drop_bA h]
theorem drop1 {s : ByteArray} {m : Nat} (h : m + 1 = s.size) : s.data.toList.drop m = [bA s m] := by
  rw [drop_bA (by omega), drop_end (k := m + 1) (by omega)]

set_option maxRecDepth 100000 in
set_option maxHeartbeats 4000000 in
theorem quoted_c {B c n : Nat} {s : ByteArray} {v : Value} {ts : List Tok} {w : World} (h : Sc B c s n v ts w) (hn : n < s.size) (hs : s.size ≤ 4096) :
    Calls Try.prog 84 #[.pointer (some ⟨c, 0, none⟩)] w (QuoP B c s v ts n w) := by
  have hcK := h.lt
  have hvK : Hid (∀ g, v.ownBlock = some g → g < w.heap.size) := Lib.hid fun g hg => ((World.ownsRow.lt h.row) g hg).2
  have c1 := h.c1
  have f1 := h.free 1
  have c1' : (w.alloc (.cells #[.pointer none, .slice none 0 0] 55)).cell? ⟨c, 1, none⟩ = some (.int .i64 (n : Nat)) := (h.alloc _).c1
  have f1' : (w.alloc (.cells #[.pointer none, .slice none 0 0] 55)).frozen? ⟨c, 1, none⟩ = false := (h.alloc _).free 1
  have hz : (w.setCell ⟨c, 1, none⟩ (.int .i64 ((n : Int) + 1))).heap.size = w.heap.size := by simp [World.setCell]
  have hS0 := Lib.hid ((h.move (n + 1) (e := (n : Int) + 1) (by omega)).alloc (.cells #[.pointer none, .slice none 0 0] 55))
  have hK0 := Lib.hid (((Kp.refl c w).set 1 (.int .i64 ((n : Int) + 1))).alloc (.cells #[.pointer none, .slice none 0 0] 55))
  have hB0 := bl_new (w.setCell ⟨c, 1, none⟩ (.int .i64 ((n : Int) + 1)))
  rw [hz] at hB0
  have hB1 := Lib.hid hB0
  clear hB0 hz
  clear h
  have hgt := get_bA s
  go_enter Try.func84, Try.ntmps84
  go_wp2
  clear c1 f1 c1' f1'
  go_loopg [] (s.size - (n + 1)) (fun k wr => ∃ (m : Nat) (acc : List UInt8), k = s.size - m ∧ m ≤ s.size ∧ n < m ∧ acc.length ≤ m ∧ Hid (Quo s n m acc) ∧ Hid (Sc B c s m v ts wr) ∧ Hid (Kp c w wr) ∧ Hid (Bl w.heap.size w.heap.size acc wr))
  case atStart => exact ⟨n + 1, [], rfl, by omega, by omega, by simp, Lib.hid (fun _ _ => rfl), hS0, hK0, hB1⟩
  case round =>
    obtain ⟨m, acc, hgk, hm, hnm, hal, hj, hS, hK, hBl⟩ := hrel
    have c0 := hS.out.c0
    have c1 := hS.out.c1
    have f1 := hS.out.free 1
    have hmm : (m : Int) ≤ s.size := by omega
    by_cases hlt : m < s.size
    · have hlt2 : (m : Int) < s.size := by omega
      go_wp2
      go_quiet (fail)
      go_wp2
      go_quiet (fail)
      generalize hw2 : World.drewN (World.drewN wr _) _ = w2
      have hS2 := Lib.hid (show Sc B c s m v ts w2 by rw [← hw2]; exact (hS.out.drew _).drew _)
      have hK2 := Lib.hid (show Kp c w w2 by rw [← hw2]; exact (hK.out.drew _).drew _)
      have hBl2 := Lib.hid (show Bl w.heap.size w.heap.size acc w2 by rw [← hw2]; exact hBl.out.kp ((Kp.refl c wr).drew _ |>.drew _) hcK)
      clear hw2 c0 c1 f1 hS hK hBl
      have c1 := hS2.out.c1
      have f1 := hS2.out.free 1
      have hd := Lib.hid (drop_bA hlt)
      by_cases h39 : (bA s m).toNat = 39
      · obtain ⟨a1, a2⟩ := ieq_yes (a := (bA s m).toNat) 39 (by omega)
        have e39 := Lib.hid (show bA s m = 39 from UInt8.toNat_inj.1 (by rw [h39]; rfl))
        clear h39
        have kb := behindIs_c hS2.out hlt hs 39
        cases hb : (decide (m + 1 < s.size) && (bA s (m + 1)).toNat == 39) <;> rw [hb] at kb
        · have hq := Lib.hid (show QuoOk s n (m + 1) acc from fun M ts' => by
            rw [hj.out M ts', hd.out, e39.out, ans_q_end]
            intro b r hbr e
            subst e
            by_cases h3 : m + 1 < s.size
            · rw [drop_bA h3] at hbr
              rw [(List.cons.inj hbr).1] at hb
              simp [h3] at hb
            · rw [drop_end (k := m + 1) (by omega)] at hbr; cases hbr)
          clear hb
          have hS3 := Lib.hid (hS2.out.move (m + 1) (e := (m : Int) + 1) (by omega))
          have hK3 := Lib.hid (hK2.out.set 1 (.int .i64 ((m : Int) + 1)))
          have hBl3 := Lib.hid (hBl2.out.kp ((Kp.refl c w2).set 1 (.int .i64 ((m : Int) + 1))) hcK)
          go_wp2_with (go_at_call 90; refine kb.mono ?_; rintro e w' ⟨rfl, rfl⟩)
          refine (bString_c w.heap.size w.heap.size acc _ hBl3.out hK3.out.size).mono ?_
          rintro e w4 ⟨rfl, hb4⟩
          go_wp2
          go_ret
          exact ⟨hK3.out.on hb4 (Nat.le_refl _), .inl ⟨m + 1, acc, rfl, hS3.out.on hb4 hcK hvK.out, by omega, by omega, hq.out⟩⟩
        · have hlt3 : m + 1 < s.size := by simp at hb; exact hb.1
          have hq := Lib.hid (show Quo s n (m + 2) (acc ++ [bA s m]) from fun M ts' => by
            simp only [Bool.and_eq_true, decide_eq_true_eq, beq_iff_eq] at hb
            have e2 : bA s (m + 1) = 39 := UInt8.toNat_inj.1 (by rw [hb.2]; rfl)
            rw [hj.out M ts', drop2 hlt3, e39.out, e2, ans_q_two])
          clear hb
          have hS3 := Lib.hid (hS2.out.move (m + 1) (e := (m : Int) + 1) (by omega))
          have hK3 := Lib.hid (hK2.out.set 1 (.int .i64 ((m : Int) + 1)))
          have hBl3 := Lib.hid (hBl2.out.kp ((Kp.refl c w2).set 1 (.int .i64 ((m : Int) + 1))) hcK)
          go_wp2_with (go_at_call 90; refine kb.mono ?_; rintro e w' ⟨rfl, rfl⟩)
          refine (writeByte_c w.heap.size w.heap.size acc (bA s m) _ hBl3.out (by omega) (by have := hK3.out.size; simpa using this)).mono ?_
          rintro e w4 ⟨rfl, hBl4, hb4⟩
          have hS4 := Lib.hid (hS3.out.on hb4 hcK hvK.out)
          have hK4 := Lib.hid (hK3.out.on hb4 (Nat.le_refl _))
          have hBl5 := Lib.hid hBl4
          clear hBl4 hb4
          have c1 := hS4.out.c1
          have f1 := hS4.out.free 1
          go_wp2
          go_roundg (s.size - (m + 2))
          case measure => omega
          case rel => exact ⟨m + 2, acc ++ [bA s m], rfl, by omega, by omega, by simp; omega, hq, Lib.hid (hS4.out.move (m + 2) (by omega)), Lib.hid (hK4.out.set 1 _), Lib.hid (hBl5.out.kp ((Kp.refl c _).set 1 _) hcK)⟩
      have n39 := Lib.hid (show bA s m ≠ 39 from fun e => h39 (by rw [e]; rfl))
      obtain ⟨a1, a2⟩ := ieq_no (a := (bA s m).toNat) 39 (by omega)
      clear h39
      by_cases h92 : (bA s m).toNat = 92
      · obtain ⟨b1, b2⟩ := ieq_yes (a := (bA s m).toNat) 92 (by omega)
        have e92 := Lib.hid (show bA s m = 92 from UInt8.toNat_inj.1 (by rw [h92]; rfl))
        clear h92
        by_cases hend : m + 1 = s.size
        · have ke := escaped_end (f := n) hS2.out hs hend
          unfold Wrong at ke
          have hq := Lib.hid (show QuoBad s n n 31 from fun M ts' => by rw [hj.out M ts', drop1 hend, e92.out]; rfl)
          clear hend
          go_wp2_with (go_at_call 91; (with_reducible refine ke.mono ?_); rintro e w' ⟨rfl, rfl⟩)
          exact ⟨rfl, hK2.out, .inr ⟨n, 31, rfl, hq.out⟩⟩
        · have hlt3 : m + 1 < s.size := by omega
          have ke := escaped_c (f := n) hS2.out hs hlt3
          clear hend
          cases ho : escOk (bA s (m + 1))
          · have hE : escE (bA s (m + 1)) m = Wrong m 32 := by unfold escE; rw [if_neg (by rw [ho]; decide)]
            rw [hE] at ke
            unfold Wrong at ke
            have hq := Lib.hid (show QuoBad s n m 32 from fun M ts' => by rw [hj.out M ts', drop2 hlt3, e92.out, ans_q_esc, if_neg (by rw [ho]; decide)])
            clear hE ho
            go_wp2_with (go_at_call 91; (with_reducible refine ke.mono ?_); rintro e w' ⟨rfl, rfl⟩)
            exact ⟨rfl, hK2.out, .inr ⟨m, 32, rfl, hq.out⟩⟩
          · have hE : escE (bA s (m + 1)) m = .returned (.int .u8 ((escV (bA s (m + 1))).toNat : Nat)) := by unfold escE; rw [if_pos ho]
            rw [hE] at ke
            have hq := Lib.hid (show Quo s n (m + 2) (acc ++ [escV (bA s (m + 1))]) from fun M ts' => by rw [hj.out M ts', drop2 hlt3, e92.out, ans_q_esc, if_pos ho])
            clear hE ho
            have hS3 := Lib.hid (hS2.out.move (m + 1) (e := (m : Int) + 1) (by omega))
            have hK3 := Lib.hid (hK2.out.set 1 (.int .i64 ((m : Int) + 1)))
            have hBl3 := Lib.hid (hBl2.out.kp ((Kp.refl c w2).set 1 (.int .i64 ((m : Int) + 1))) hcK)
            go_wp2_with (go_at_call 91; (with_reducible refine ke.mono ?_); rintro e w' ⟨rfl, rfl⟩)
            refine (writeByte_c w.heap.size w.heap.size acc (escV (bA s (m + 1))) _ hBl3.out (by omega) (by have := hK3.out.size; simpa using this)).mono ?_
            rintro e w4 ⟨rfl, hBl4, hb4⟩
            have hS4 := Lib.hid (hS3.out.on hb4 hcK hvK.out)
            have hK4 := Lib.hid (hK3.out.on hb4 (Nat.le_refl _))
            have hBl5 := Lib.hid hBl4
            clear hBl4 hb4
            have c1 := hS4.out.c1
            have f1 := hS4.out.free 1
            go_wp2
            go_roundg (s.size - (m + 2))
            case measure => omega
            case rel => exact ⟨m + 2, acc ++ [escV (bA s (m + 1))], rfl, by omega, by omega, by simp; omega, hq, Lib.hid (hS4.out.move (m + 2) (by omega)), Lib.hid (hK4.out.set 1 _), Lib.hid (hBl5.out.kp ((Kp.refl c _).set 1 _) hcK)⟩
      have n92 := Lib.hid (show bA s m ≠ 92 from fun e => h92 (by rw [e]; rfl))
      obtain ⟨b1, b2⟩ := ieq_no (a := (bA s m).toNat) 92 (by omega)
      clear h92
      by_cases h32 : (bA s m).toNat < 32
      · have hq := Lib.hid (show QuoBad s n m 30 from fun M ts' => by rw [hj.out M ts', hd.out, ans_q_bad M n _ _ _ _ _ n39.out n92.out (.inl h32)])
        have t1 : (((bA s m).toNat : Nat) : Int) < 32 := by omega
        clear h32
        go_wp2
        exact ⟨rfl, hK2.out, .inr ⟨m, 30, rfl, hq.out⟩⟩
      have t1 : ¬ ((((bA s m).toNat : Nat) : Int) < 32) := by omega
      by_cases h126 : 126 < (bA s m).toNat
      · have hq := Lib.hid (show QuoBad s n m 30 from fun M ts' => by rw [hj.out M ts', hd.out, ans_q_bad M n _ _ _ _ _ n39.out n92.out (.inr h126)])
        have t2 : (126 : Int) < (((bA s m).toNat : Nat) : Int) := by omega
        clear h126
        go_wp2
        exact ⟨rfl, hK2.out, .inr ⟨m, 30, rfl, hq.out⟩⟩
      have t2 : ¬ ((126 : Int) < (((bA s m).toNat : Nat) : Int)) := by omega
      have hq := Lib.hid (show Quo s n (m + 1) (acc ++ [bA s m]) from fun M ts' => by rw [hj.out M ts', hd.out, ans_q_plain M n _ _ _ _ _ n39.out n92.out (by omega)])
      clear h32 h126
      go_wp2_with fail
      refine (writeByte_c w.heap.size w.heap.size acc (bA s m) _ hBl2.out (by omega) (by have := hK2.out.size; simpa using this)).mono ?_
      rintro e w4 ⟨rfl, hBl4, hb4⟩
      have hS4 := Lib.hid (hS2.out.on hb4 hcK hvK.out)
      have hK4 := Lib.hid (hK2.out.on hb4 (Nat.le_refl _))
      have hBl5 := Lib.hid hBl4
      clear hBl4 hb4
      have c1 := hS4.out.c1
      have f1 := hS4.out.free 1
      go_wp2
      go_roundg (s.size - (m + 1))
      case measure => omega
      case rel => exact ⟨m + 1, acc ++ [bA s m], rfl, by omega, by omega, by simp; omega, hq, Lib.hid (hS4.out.move (m + 1) (by omega)), Lib.hid (hK4.out.set 1 _), Lib.hid (hBl5.out.kp ((Kp.refl c _).set 1 _) hcK)⟩
    · have hlt2 : ¬ ((m : Int) < s.size) := by omega
      go_wp2
      go_quiet (fail)
      go_wp2
      exact ⟨rfl, hK.out.drew _, .inr ⟨n, 31, rfl, fun M ts' => by rw [hj.out M ts', drop_end (k := m) (by omega)]; rfl⟩⟩
end Go.Proofs.Ytpihmockcjdafaa.lx
end
section
/- What num's functions come to: a contract for each. -/
namespace Go.Proofs.Ytpihmockcjdafaa.nm
open Go.RowKit

theorem ret2 {k l : IntKind} {a b c d : Int} (h : a = c) (h2 : b = d) : Ending.returned (.tuple #[.int k a, .int l b]) = .returned (.tuple #[.int k c, .int l d]) := by rw [h, h2]
theorem least_cases {a b : Int} (h : ¬ (a = -9223372036854775808 ∧ b = -1)) : ((a == -9223372036854775808) = true ∧ (b == -1) = false) ∨ (a == -9223372036854775808) = false := by
  by_cases h1 : a = -9223372036854775808
  · exact .inl ⟨by rw [beq_iff_eq]; exact h1, by rw [beq_eq_false_iff_ne]; exact fun h2 => h ⟨h1, h2⟩⟩
  · exact .inr (by rw [beq_eq_false_iff_ne]; exact h1)

theorem add_over_neg {a b : Int} (ha : Fit a) (hb : Fit b) (h : a + b < -9223372036854775808) : a ≤ wrap64 (a + b) ∧ b < 0 := by
  unfold wrap64; unfold Fit at *; omega
theorem add_over_pos {a b : Int} (ha : Fit a) (hb : Fit b) (h : 9223372036854775807 < a + b) : wrap64 (a + b) < a ∧ 0 ≤ b := by
  unfold wrap64; unfold Fit at *; omega

theorem sub_over_neg {a b : Int} (ha : Fit a) (hb : Fit b) (h : a - b < -9223372036854775808) : a < wrap64 (a - b) ∧ 0 ≤ b := by
  unfold wrap64; unfold Fit at *; omega
theorem sub_over_pos {a b : Int} (ha : Fit a) (hb : Fit b) (h : 9223372036854775807 < a - b) : wrap64 (a - b) ≤ a ∧ b < 0 := by
  unfold wrap64; unfold Fit at *; omega

def absI (a : Int) : Int := if a < 0 then -a else a
end Go.Proofs.Ytpihmockcjdafaa.nm
end
section
/- Texts of integers: num's Print, Parse; the reference's. -/
namespace Go.Proofs.Ytpihmockcjdafaa.tx
open Go.RowKit Go.Proofs.Ytpihmockcjdafaa.nm

/-- a text as a value -/
def str (l : List UInt8) : ByteArray := ⟨l.toArray⟩
def ten : ByteArray := { data := #[48, 49, 50, 51, 52, 53, 54, 55, 56, 57] }
theorem ten_cut (d : Nat) (h : d < 10) : ten.extract d (d + 1) = str [dig d] := by
  have : ∀ d : Fin 10, ten.extract d.val (d.val + 1) = str [dig d.val] := by decide
  exact this ⟨d, h⟩
theorem str_append (a b : List UInt8) : str a ++ str b = str (a ++ b) := by
  unfold str; apply ByteArray.ext; simp

theorem dec_len (n : Nat) (h : n ≤ 9223372036854775808) : (dec n).length ≤ 19 := dec_len_lt (by omega) (by omega)

theorem dig_mod (m : Nat) : dig (m % 10) = dig m := by unfold dig; rw [Nat.mod_mod]
theorem str_step (m : Nat) (r : List UInt8) : Value.string (ten.extract (m % 10) (m % 10 + 1) ++ str r) = Value.string (str (dig m :: r)) := by
  rw [ten_cut _ (by omega), dig_mod, str_append]; rfl
theorem str_end1 (m : Nat) (r : List UInt8) {l : List UInt8} (h : m < 10) (hl : l = dig m :: r) :
    Ending.returned (.string (({ data := #[45] } : ByteArray) ++ ten.extract m (m + 1) ++ str r)) = .returned (.string (str (45 :: l))) := by
  rw [ten_cut _ h, show ({ data := #[45] } : ByteArray) = str [45] from rfl, str_append, str_append, hl]; rfl
theorem str_end0 (m : Nat) (r : List UInt8) {l : List UInt8} (h : m < 10) (hl : l = dig m :: r) :
    Ending.returned (.string (({ data := #[] } : ByteArray) ++ ten.extract m (m + 1) ++ str r)) = .returned (.string (str l)) := by
  rw [ten_cut _ h, show ({ data := #[] } : ByteArray) = str [] from rfl, str_append, str_append, hl]; rfl

theorem print_r (a : Int) (ha : Fit a) (w : World) :
    Calls Try.prog 46 #[.int .i64 a] w fun e w' => e = .returned (.string (str (text a))) ∧ w = w' := by
  have hN := Lib.hid (dec_len a.natAbs (by unfold Fit at ha; omega))
  unfold Fit at ha
  by_cases h0 : a < 0
  · rw [text_neg h0]
    go_enter Try.func46, Try.ntmps46
    go_wp2
    go_loop [5, 3] (fun s n => ∃ (m : Nat) (r : List UInt8), n = .int .u64 m ∧ s = .string (str r) ∧ Hid (dec a.natAbs = decTo m r) ∧ m ≤ 18446744073709551615) (fun _ n => (intOf n).toNat)
    case atStart => exact ⟨a.natAbs, [], by go_num, rfl, Lib.hid rfl, by omega⟩
    case round =>
      obtain ⟨m, r, rfl, rfl, hD, hm⟩ := hrel
      have hl : r.length ≤ 19 := by
        have := hN.out; rw [hD.out, decTo_append] at this; simp at this; omega
      have hsz : (str r).size ≤ 19 := hl
      by_cases hm9 : 9 < m
      · have hD' := Lib.hid (show dec a.natAbs = decTo (m / 10) (dig m :: r) by rw [hD.out, decTo_ge (by omega)])
        go_wp2
        exact ⟨⟨m / 10, dig m :: r, by go_num, str_step m r, hD', by omega⟩, by simp [intOf]; omega⟩
      · have hD' := Lib.hid (show dec a.natAbs = dig m :: r by rw [hD.out, decTo_lt (by omega)])
        go_wp2
        go_ret
        exact ⟨str_end1 m r (by omega) hD'.out, rfl⟩
  · rw [text_pos h0]
    go_enter Try.func46, Try.ntmps46
    go_wp2
    go_loop [5, 3] (fun s n => ∃ (m : Nat) (r : List UInt8), n = .int .u64 m ∧ s = .string (str r) ∧ Hid (dec a.natAbs = decTo m r) ∧ m ≤ 18446744073709551615) (fun _ n => (intOf n).toNat)
    case atStart => exact ⟨a.natAbs, [], by go_num, rfl, Lib.hid rfl, by omega⟩
    case round =>
      obtain ⟨m, r, rfl, rfl, hD, hm⟩ := hrel
      have hl : r.length ≤ 19 := by
        have := hN.out; rw [hD.out, decTo_append] at this; simp at this; omega
      have hsz : (str r).size ≤ 19 := hl
      by_cases hm9 : 9 < m
      · have hD' := Lib.hid (show dec a.natAbs = decTo (m / 10) (dig m :: r) by rw [hD.out, decTo_ge (by omega)])
        go_wp2
        exact ⟨⟨m / 10, dig m :: r, by go_num, str_step m r, hD', by omega⟩, by simp [intOf]; omega⟩
      · have hD' := Lib.hid (show dec a.natAbs = dig m :: r by rw [hD.out, decTo_lt (by omega)])
        go_wp2
        go_ret
        exact ⟨str_end0 m r (by omega) hD'.out, rfl⟩
end Go.Proofs.Ytpihmockcjdafaa.tx
end
