/- What stands between tokens: the scanner's skipLine, skipRemark. -/
import Derived.Test.YtdcggedggngpoaaScanW
import Derived.Test.YtdcggedggngpoaaShelf
import Derived.Lib.CutLaws
import Derived.Lib.IndexMore
namespace Go.Proofs.Ytdcggedggngpoaa.lx
open Go.RowKit

/-! ### lists -/
/-- how long a line goes on -/
def lineLen (l : List UInt8) : Nat := (l.takeWhile fun b => b != 10).length
theorem lineLen_le (l : List UInt8) : lineLen l ≤ l.length := (List.takeWhile_prefix _).length_le
theorem lineLen_cons (b : UInt8) (l : List UInt8) (h : b ≠ 10) : lineLen (b :: l) = lineLen l + 1 := by
  unfold lineLen; rw [List.takeWhile_cons, if_pos (by simpa using h)]; rfl
theorem ans_comment (M : Nat) (l : List UInt8) (ts : List Tok) : ∀ n, ans M l ts n .line = ans M (l.drop (lineLen l)) ts (n + lineLen l) .btw := by
  induction l with
  | nil => intro n; rfl
  | cons b l ih =>
    intro n
    by_cases h : b = 10
    · subst h; rw [ans_line_end]; rfl
    · rw [lineLen_cons b l h, ans_cons, step, if_neg h, show n + (lineLen l + 1) = n + 1 + lineLen l from by omega]; exact ih (n + 1)
theorem ans_percent (M : Nat) (l : List UInt8) (ts : List Tok) (n : Nat) : ans M (37 :: l) ts n .btw = ans M ((37 :: l).drop (lineLen (37 :: l))) ts (n + lineLen (37 :: l)) .btw := by
  have h : ans M (37 :: l) ts n .btw = ans M l ts (n + 1) .line := by rw [ans_cons, step, start, if_neg (by decide), if_pos rfl]
  rw [h, ans_comment, lineLen_cons _ _ (by decide), List.drop_succ_cons, show n + (lineLen l + 1) = n + 1 + lineLen l from by omega]
theorem index_line (l : List UInt8) : (Lib.indexByte l 10 = -1 ∧ lineLen l = l.length) ∨ (Lib.indexByte l 10 = (lineLen l : Nat) ∧ lineLen l < l.length) := by
  induction l with
  | nil => exact .inl ⟨rfl, rfl⟩
  | cons b l ih =>
    by_cases h : b = 10
    · subst h; exact .inr ⟨rfl, Nat.succ_pos _⟩
    · rw [lineLen_cons b l h, Lib.indexByte, if_neg (by simpa using h), List.length_cons]
      rcases ih with ⟨h1, h2⟩ | ⟨h1, h2⟩
      · left; rw [h1]; exact ⟨rfl, by rw [h2]⟩
      · right; rw [h1, if_neg (by simp)]; exact ⟨by omega, by omega⟩
theorem cut_rem (l : List UInt8) : (Lib.cut l [42, 47] = (l, [], false) ∧ cutRem l = none) ∨ (∃ r, (∃ b, Lib.cut l [42, 47] = (b, r, true)) ∧ cutRem l = some r ∧ r.length + 2 ≤ l.length ∧ r = l.drop (l.length - r.length)) := by
  have key : (Lib.index l [42, 47] = -1 ∧ cutRem l = none) ∨ (∃ i : Nat, Lib.index l [42, 47] = i ∧ i + 2 ≤ l.length ∧ cutRem l = some (l.drop (i + 2))) := by
    induction l with
    | nil => exact .inl ⟨rfl, rfl⟩
    | cons a l ih =>
      cases l with
      | nil =>
        left
        refine ⟨?_, rfl⟩
        rw [Lib.index, if_neg (by simp), Lib.index]; rfl
      | cons b r =>
        rw [cutRem]
        by_cases h : a = 42 ∧ b = 47
        · obtain ⟨rfl, rfl⟩ := h
          right
          exact ⟨0, by rw [Lib.index, if_pos (by simp)]; rfl, by simp, by simp⟩
        · rw [if_neg h, Lib.index, if_neg (by simp; exact fun e1 e2 => h ⟨e1.symm, e2.symm⟩)]
          rcases ih with ⟨h1, h2⟩ | ⟨i, h1, h2, h3⟩
          · left; rw [h1]; exact ⟨rfl, h2⟩
          · right
            refine ⟨i + 1, by rw [h1, if_neg (by simp)]; omega, by simp at h2 ⊢; omega, by rw [h3]; rfl⟩
  unfold Lib.cut
  rcases key with ⟨h1, h2⟩ | ⟨i, h1, h2, h3⟩
  · left; rw [h1]; exact ⟨rfl, h2⟩
  · right
    have hl : (l.drop (i + 2)).length = l.length - (i + 2) := by simp
    refine ⟨l.drop (i + 2), ⟨l.take i, ?_⟩, h3, by omega, ?_⟩
    · rw [h1, if_pos (by omega)]; simp
    · rw [hl, show l.length - (l.length - (i + 2)) = i + 2 from by omega]

/-- the scanner gives up: the place and the error -/
def Wrong (p e : Nat) : Ending := .panicked [{ v := .iface 43 (.agg #[.int .i64 (p : Nat), .int .i64 (e : Nat)]), recovered := false }]
/-- the library's MaxLen is some number -/
def GM (w : World) : Prop := ∃ m, w.cell? ⟨0, 0, none⟩ = some (.int .i64 m)
theorem heap_pos {w : World} (h : GM w) : 0 < w.heap.size := by
  obtain ⟨m, hm⟩ := h
  rcases Nat.eq_zero_or_pos w.heap.size with h' | h'
  · unfold World.cell? at hm; simp [Array.getElem?_eq_none (show w.heap.size ≤ 0 by omega)] at hm
  · exact h'
theorem GM.kp {c : Nat} {w w' : World} (h : GM w) (hk : Kp c w w') (hc : 0 < c) : GM w' := by
  have h0 := heap_pos h
  obtain ⟨m, hm⟩ := h
  exact ⟨m, by rw [← hm]; exact World.cell?_of_block (hk.block 0 h0 (by intro e; cases e; omega))⟩
theorem GM.below {B : Nat} {w w' : World} (h : GM w) (hb : Below B w w') (hB : 0 < B) : GM w' := by
  obtain ⟨m, hm⟩ := h
  exact ⟨m, by rw [← hm]; exact World.cell?_of_block (hb.block 0 hB)⟩

theorem size_of {s : ByteArray} {l : List UInt8} (h : s.data.toList = l) : s.size = l.length := by rw [← h]; simp

set_option maxHeartbeats 1000000 in
theorem skipLine_c {B c n : Nat} {s r : ByteArray} {v : Value} {ts : List Tok} {w : World} (h : Sc B c s n v ts w) (hn : n ≤ s.size) (hs : s.size ≤ 4096) (hr : r.data.toList = s.data.toList.drop n) :
    Calls Try.prog 34 #[.pointer (some ⟨c, 0, none⟩), .string r] w fun e w' => e = .returned (.tuple #[]) ∧ Sc B c s (n + lineLen (s.data.toList.drop n)) v ts w' ∧ Kp c w w' := by
  have c0 := h.c0
  have c1 := h.c1
  have f1 := h.free 1
  have hh := Lib.hid h
  clear h
  have hz : r.size ≤ 4096 := by rw [size_of hr]; simp; omega
  have hrl := size_of hr
  have ki := fun w => Try.strings_IndexByte r 10 w
  rw [hr] at ki
  have hl := lineLen_le (s.data.toList.drop n)
  have Hr := Lib.hid hr
  clear hr
  rcases index_line (s.data.toList.drop n) with ⟨h1, h2⟩ | ⟨h1, h2⟩
  all_goals
    rw [show (10 : Int).toNat.toUInt8 = 10 from rfl, h1] at ki
    rw [← hrl] at h2 hl
    have H1 := Lib.hid h1
    have Hrl := Lib.hid hrl
    clear h1 hrl
    generalize lineLen (s.data.toList.drop n) = q at *
  · subst h2
    go_enter Try.func34, Try.ntmps34
    go_wp2_with (go_at_call 41; (with_reducible refine (ki _).mono ?_); rintro e w' ⟨rfl, rfl⟩)
    go_end0
    exact ⟨rfl, hh.out.move _ (by omega), (Kp.refl c _).set 1 _⟩
  · go_enter Try.func34, Try.ntmps34
    go_wp2_with (go_at_call 41; (with_reducible refine (ki _).mono ?_); rintro e w' ⟨rfl, rfl⟩)
    go_end0
    exact ⟨rfl, hh.out.move _ (by omega), (Kp.refl c _).set 1 _⟩

set_option maxHeartbeats 1000000 in
theorem skipRemark_none {B c n : Nat} {s r : ByteArray} {v : Value} {ts : List Tok} {w : World} (h : Sc B c s n v ts w) (hg : GM w) (hn : n + 2 ≤ s.size) (hs : s.size ≤ 4096) (hr : r.data.toList = s.data.toList.drop n)
    (hq : cutRem (s.data.toList.drop (n + 2)) = none) :
    Calls Try.prog 36 #[.pointer (some ⟨c, 0, none⟩), .string r] w fun e w' => e = Wrong n 31 ∧ Kp c w w' := by
  have c0 := h.c0
  have c1 := h.c1
  clear h
  obtain ⟨gm, hgm⟩ := hg
  have hz : 2 ≤ r.size ∧ r.size ≤ 4096 := by rw [size_of hr]; simp; omega
  have hr2 : (r.extract 2 r.size).data.toList = s.data.toList.drop (n + 2) := by rw [Lib.extract_to_end, hr, List.drop_drop]
  have hz2 : (r.extract 2 r.size).size < 4294967281 := by rw [size_of hr2]; simp; omega
  have kc := fun w hm => Try.strings_Cut (r.extract 2 r.size) ⟨#[42, 47]⟩ gm w hz2 hm
  rw [hr2] at kc
  rcases cut_rem (s.data.toList.drop (n + 2)) with ⟨h1, _⟩ | ⟨x, _, h1, _⟩
  · rw [show (ByteArray.mk #[42, 47]).data.toList = [42, 47] from rfl, h1] at kc
    clear h1 hr hr2 hz2 hq
    go_enter Try.func36, Try.ntmps36
    go_wp2_with (go_at_call 43; (with_reducible refine (kc _ hgm).mono ?_); rintro e w' ⟨rfl, k, rfl⟩)
    exact ⟨rfl, rfl, Kp.drawn ..⟩
  · rw [hq] at h1; cases h1
set_option maxHeartbeats 1000000 in
theorem skipRemark_some {B c n : Nat} {s r : ByteArray} {v : Value} {ts : List Tok} {w : World} (h : Sc B c s n v ts w) (hg : GM w) (hn : n + 2 ≤ s.size) (hs : s.size ≤ 4096) (hr : r.data.toList = s.data.toList.drop n)
    {q : List UInt8} (hq : cutRem (s.data.toList.drop (n + 2)) = some q) :
    Calls Try.prog 36 #[.pointer (some ⟨c, 0, none⟩), .string r] w fun e w' => e = .returned (.tuple #[]) ∧ Sc B c s (s.size - q.length) v ts w' ∧ Kp c w w' := by
  have c0 := h.c0
  have c1 := h.c1
  have f1 := h.free 1
  have hh := Lib.hid h
  clear h
  obtain ⟨gm, hgm⟩ := hg
  have hz : 2 ≤ r.size ∧ r.size ≤ 4096 := by rw [size_of hr]; simp; omega
  have hr2 : (r.extract 2 r.size).data.toList = s.data.toList.drop (n + 2) := by rw [Lib.extract_to_end, hr, List.drop_drop]
  have hz2 : (r.extract 2 r.size).size < 4294967281 := by rw [size_of hr2]; simp; omega
  have kc := fun w hm => Try.strings_Cut (r.extract 2 r.size) ⟨#[42, 47]⟩ gm w hz2 hm
  rw [hr2] at kc
  rcases cut_rem (s.data.toList.drop (n + 2)) with ⟨_, h1⟩ | ⟨x, ⟨b, h0⟩, h1, h2, _⟩
  · rw [hq] at h1; cases h1
  · rw [hq] at h1; cases h1
    rw [show (ByteArray.mk #[42, 47]).data.toList = [42, 47] from rfl, h0] at kc
    have hql : q.length ≤ s.size := by simp at h2; omega
    have hqs : (ByteArray.mk q.toArray).size = q.length := by simp [ByteArray.size]
    clear h0 h2 hr hr2 hz2 hq
    rw [← hqs] at hql ⊢
    clear hqs
    generalize ByteArray.mk q.toArray = qs at *
    have hql2 : (qs.size : Int) ≤ s.size := by omega
    go_enter Try.func36, Try.ntmps36
    go_wp2_with (go_at_call 43; (with_reducible refine (kc _ hgm).mono ?_); rintro e w' ⟨rfl, k, rfl⟩)
    go_end0
    exact ⟨rfl, (hh.out.drew k).move _ (by omega), (Kp.drawn c w k).set 1 _⟩
end Go.Proofs.Ytdcggedggngpoaa.lx
