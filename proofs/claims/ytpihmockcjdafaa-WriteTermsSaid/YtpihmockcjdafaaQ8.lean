/- The reference: between.; The reference: Tokens: what its walk leans on. -/
import Derived.Test.YtpihmockcjdafaaQ7
import Derived.Test.YtpihmockcjdafaaQ6
import Derived.Deep.WholeRow
set_option linter.unusedVariables false
set_option linter.unusedSimpArgs false
section
/- The reference: between. -/
namespace Go.Proofs.Ytpihmockcjdafaa.lx
open Go.RowKit

def BtwP (s : ByteArray) (n : Nat) (w : World) (e : Ending) (w' : World) : Prop :=
  w = w' ∧ ((∃ m : Nat, e = .returned (.tuple #[.int .i64 (m : Int), .bool true]) ∧ n ≤ m ∧ m ≤ s.size ∧ Stop s m ∧ Same s n m) ∨
    (∃ m : Nat, e = .returned (.tuple #[.int .i64 (m : Int), .bool false]) ∧ ∀ M ts', ans M (s.data.toList.drop n) ts' n .btw = .bad m 31))
/-- within a line's comment that began at m -/
def LineAt (s : ByteArray) (m j : Nat) : Prop := ∀ M ts, ans M (s.data.toList.drop m) ts m .btw = ans M (s.data.toList.drop j) ts j .line
theorem line_first {s : ByteArray} {m : Nat} (h : m < s.size) (hb : bA s m = 37) : LineAt s m (m + 1) := fun M ts => by
  rw [drop_bA h, hb, ans_cons, step, start, if_neg (by decide), if_pos rfl]
theorem line_next {s : ByteArray} {m j : Nat} (h : j < s.size) (hb : bA s j ≠ 10) (hl : LineAt s m j) : LineAt s m (j + 1) := fun M ts => by
  rw [hl M ts, drop_bA h, ans_cons, step, if_neg hb]
theorem line_end {s : ByteArray} {m j : Nat} (h : j < s.size → bA s j = 10) (hl : LineAt s m j) : Same s m j := fun M ts => by
  rw [hl M ts]
  by_cases hlt : j < s.size
  · rw [drop_bA hlt, h hlt, ans_line_end]
  · rw [drop_end (k := j) (by omega)]; rfl

set_option maxHeartbeats 4000000 in
theorem between_c (s : ByteArray) (n : Nat) (hn : n ≤ s.size) (hs : s.size ≤ 4096) (w : World) :
    Calls Try.prog 26 #[.string s, .int .i64 n] w (BtwP s n w) := by
  have hgt := get_bA s
  go_enter Try.func26, Try.ntmps26
  go_wp2
  go_loopg [1] (s.size - n) (fun k i wr => ∃ m : Nat, w = wr ∧ k = s.size - m ∧ i = .int .i64 m ∧ n ≤ m ∧ m ≤ s.size ∧ Hid (Same s n m))
  case atStart => exact ⟨n, rfl, rfl, rfl, by omega, hn, Lib.hid (fun _ _ => rfl)⟩
  case round =>
    obtain ⟨m, rfl, hgk, rfl, hnm, hm, hj⟩ := hrel
    by_cases hlt : m < s.size
    · have hlt2 : (m : Int) < s.size := by omega
      have kb := blank_c (bA s m).toNat (bA_le s _)
      by_cases hb1 : cls (bA s m).toNat = 1
      · have b1 : (cls (bA s m).toNat == 1) = true := by simpa using hb1
        rw [b1] at kb
        have hj' := Lib.hid (show Same s n (m + 1) from fun M ts => by rw [hj.out M ts, drop_bA hlt, ans_blank M _ _ _ _ hb1])
        clear hb1 b1
        go_wp2_with (go_at_call 27; (with_reducible refine (kb _).mono ?_); rintro e w' ⟨rfl, rfl⟩)
        go_roundg (s.size - (m + 1))
        case measure => omega
        case rel => exact ⟨m + 1, rfl, rfl, by go_num, by omega, by omega, hj'⟩
      have b1 : (cls (bA s m).toNat == 1) = false := by simpa using hb1
      have Hb1 := Lib.hid hb1
      rw [b1] at kb
      clear hb1 b1
      by_cases hb2 : bA s m = 37
      · obtain ⟨d1, d2⟩ := ieq_yes (a := (bA s m).toNat) 37 (by rw [hb2]; rfl)
        have Hb2 := Lib.hid hb2
        clear hb2
        go_wp2_with (go_at_call 27; (with_reducible refine (kb _).mono ?_); rintro e w' ⟨rfl, rfl⟩)
        have hgk2 := hgk
        go_loopg [1] (s.size - m) (fun k2 i wr2 => ∃ j : Nat, w = wr2 ∧ k2 = s.size - j ∧ i = .int .i64 j ∧ m ≤ j ∧ j ≤ s.size ∧ Hid (j = m ∨ LineAt s m j))
        case atStart => exact ⟨m, rfl, rfl, rfl, by omega, hm, Lib.hid (.inl rfl)⟩
        case round =>
          obtain ⟨j, rfl, hgj, rfl, hmj, hjs, hL⟩ := hrel
          by_cases hlj : j < s.size
          · have hlj2 : (j : Int) < s.size := by omega
            by_cases hb10 : bA s j = 10
            · obtain ⟨t1, t2⟩ := ieq_yes (a := (bA s j).toNat) 10 (by rw [hb10]; rfl)
              have hLj := Lib.hid (show j ≠ m ∧ Same s m j by
                have hne : j ≠ m := fun e => by rw [e, Hb2.out] at hb10; exact absurd hb10 (by decide)
                exact ⟨hne, line_end (fun _ => hb10) (hL.out.resolve_left hne)⟩)
              clear hb10 hL
              go_wp2
              go_roundg (s.size - j)
              case measure => have := hLj.out.1; omega
              case rel => exact ⟨j, rfl, rfl, rfl, by omega, hjs, Lib.hid (fun M ts => by rw [hj.out M ts, hLj.out.2 M ts])⟩
            · obtain ⟨t1, t2⟩ := ieq_no (a := (bA s j).toNat) 10 (by intro e; exact hb10 (UInt8.toNat_inj.1 (by simp; omega)))
              have hL' := Lib.hid (show j + 1 = m ∨ LineAt s m (j + 1) from .inr (by
                rcases hL.out with e | h
                · rw [e]; exact line_first hlt Hb2.out
                · exact line_next hlj hb10 h))
              clear hb10 hL
              go_wp2
              go_roundg (s.size - (j + 1))
              case measure => omega
              case rel => exact ⟨j + 1, rfl, rfl, by go_num, by omega, by omega, hL'⟩
          · have hlj2 : ¬ ((j : Int) < s.size) := by omega
            have hLj := Lib.hid (show j ≠ m ∧ Same s m j by
              have hne : j ≠ m := by omega
              exact ⟨hne, line_end (fun h => absurd h hlj) (hL.out.resolve_left hne)⟩)
            clear hL
            go_wp2
            go_roundg (s.size - j)
            case measure => omega
            case rel => exact ⟨j, rfl, rfl, rfl, by omega, hjs, Lib.hid (fun M ts => by rw [hj.out M ts, hLj.out.2 M ts])⟩
      have hb37 : (bA s m).toNat ≠ 37 := fun e => hb2 (UInt8.toNat_inj.1 (by rw [e]; rfl))
      obtain ⟨d1, d2⟩ := ieq_no (a := (bA s m).toNat) 37 (by omega)
      have Hb2 := Lib.hid hb2
      clear hb37 hb2
      have kt := two_c s m 47 42 (by omega) (by omega)
      have hpf := prefix_twoB hlt
      cases ht : twoB s m 47 42 <;> rw [ht] at kt hpf
      · have hst := Lib.hid (show Stop s m from fun _ => ⟨Hb1.out, Hb2.out, hpf⟩)
        clear ht hpf
        go_wp2_with (first | (go_at_call 27; (with_reducible refine (kb _).mono ?_); rintro e w' ⟨rfl, rfl⟩) | (go_at_call 50; refine (kt _).mono ?_; rintro e w' ⟨rfl, rfl⟩))
        go_ret2
        exact ⟨rfl, .inl ⟨m, rfl, hnm, hm, hst.out, hj.out⟩⟩
      · obtain ⟨hm2, hr1, hr2⟩ := same_remark hlt hpf
        have Hr1 := Lib.hid hr1
        have Hr2 := Lib.hid hr2
        clear ht hpf hr1 hr2
        go_wp2_with (first | (go_at_call 27; (with_reducible refine (kb _).mono ?_); rintro e w' ⟨rfl, rfl⟩) | (go_at_call 50; refine (kt _).mono ?_; rintro e w' ⟨rfl, rfl⟩))
        clear kt kb
        go_loopg [6] (s.size - (m + 2)) (fun k2 i wr2 => ∃ j : Nat, w = wr2 ∧ k2 = s.size - j ∧ i = .int .i64 j ∧ m + 2 ≤ j ∧ j ≤ s.size ∧ Hid (cutRem (s.data.toList.drop (m + 2)) = cutRem (s.data.toList.drop j)))
        case atStart => exact ⟨m + 2, rfl, rfl, by go_num, by omega, hm2, Lib.hid rfl⟩
        case round =>
          obtain ⟨j, rfl, hgj, rfl, hmj, hjs, hC⟩ := hrel
          by_cases hlj : j < s.size
          · have hlj2 : (j : Int) < s.size := by omega
            have kt := two_c s j 42 47 (by omega) (by omega)
            cases ht : twoB s j 42 47 <;> rw [ht] at kt
            · have hC' := Lib.hid (hC.out.trans (cutRem_step hlj ht))
              clear ht hC
              go_wp2_with (go_at_call 50; refine (kt _).mono ?_; rintro e w' ⟨rfl, rfl⟩)
              go_roundg (s.size - (j + 1))
              case measure => omega
              case rel => exact ⟨j + 1, rfl, rfl, by go_num, by omega, by omega, hC'⟩
            · obtain ⟨hj2, hc2⟩ := cutRem_hit ht
              have hsame := Lib.hid (show Same s m (j + 2) by
                have h := (Hr2.out _ (hC.out.trans hc2)).1
                have hz : s.data.toList.length = s.size := by simp
                rwa [List.length_drop, hz, show s.size - (s.size - (j + 2)) = j + 2 from by omega] at h)
              clear ht hC hc2
              go_wp2_with (go_at_call 50; refine (kt _).mono ?_; rintro e w' ⟨rfl, rfl⟩)
              go_roundg (s.size - (j + 2))
              case measure => omega
              case rel => exact ⟨j + 2, rfl, rfl, by go_num, by omega, hj2, Lib.hid (fun M ts => by rw [hj.out M ts, hsame.out M ts])⟩
          · have hlj2 : ¬ ((j : Int) < s.size) := by omega
            have hbad := Lib.hid (show ∀ M ts', ans M (s.data.toList.drop n) ts' n .btw = .bad m 31 from fun M ts' => by
              rw [hj.out M ts', Hr1.out (hC.out.trans (by rw [drop_end (k := j) (by omega)]; rfl)) M ts'])
            clear hC
            go_wp2
            go_ret2
            exact ⟨rfl, .inr ⟨m, rfl, hbad.out⟩⟩
    · have hlt2 : ¬ ((m : Int) < s.size) := by omega
      go_wp2
      go_ret2
      exact ⟨rfl, .inl ⟨m, rfl, hnm, hm, fun h => absurd h hlt, hj.out⟩⟩
end Go.Proofs.Ytpihmockcjdafaa.lx
end
section
/- The reference: Tokens: what its walk leans on. -/
namespace Go.Proofs.Ytpihmockcjdafaa.lx
open Go.RowKit

theorem tok_text {s : ByteArray} {f : Nat} (y : Nat) (hf : f < s.size) : s.extract f (f + 1 + (wordL s f y).length) = ⟨(bA s f :: wordL s f y).toArray⟩ ∧ f + 1 + (wordL s f y).length ≤ s.size := by
  have hp : wordL s f y <+: s.data.toList.drop (f + 1) := List.takeWhile_prefix _
  have hz : s.data.toList.length = s.size := by simp
  have hl := hp.length_le
  rw [List.length_drop] at hl
  refine ⟨?_, by omega⟩
  rw [Lib.extract_eq, drop_bA hf, show f + 1 + (wordL s f y).length - f = (wordL s f y).length + 1 from by omega, List.take_succ_cons, ← List.prefix_iff_eq_take.1 hp]
theorem ends_word {s : ByteArray} {f : Nat} (h : endsB s f = true) : wordL s f 5 = [] := wordL_none fun b r hbr => by
  have hlt : f + 1 < s.size := by
    rcases Nat.lt_or_ge (f + 1) s.size with h' | h'
    · exact h'
    · rw [drop_end h'] at hbr; cases hbr
  rw [drop_bA hlt] at hbr
  rw [← (List.cons.inj hbr).1, (joinB_name _).2.2.2]
  unfold endsB at h
  rw [show (f + 1 == s.size) = false from by simp; omega] at h
  simp only [Bool.and_eq_true, Bool.false_or, Bool.or_eq_true, beq_iff_eq] at h
  rcases h.2 with h | h
  · rw [h]; decide
  · rw [h]; rfl
/-- append to tokens of one's own -/
theorem wpList_pushTok {ops : Array Oper} {rest : List Oper} {o : Oper} {a : Act} {Q : Exit → Act → World → Prop} (hgd : o.guard = none) (s x : Operand)
    (ho : o.op = .call { callee := .builtin .append, args := #[s, x], argTypes := #[44, 44] })
    (B : Nat) (W : World) (av : Option Addr) (cap : Nat) (ts : List Tok) (T : Tok) (cs : Array Value) (hcs : cs.toList = tcell T) (hs : a.eval s = .slice av ts.length cap) (hown : Tk B W (.slice av ts.length cap) ts)
    (z : Nat) (hz : z = W.heap.size) (hx : a.eval x = .slice (some ⟨z, 0, none⟩) 1 1) (hlen : ts.length ≤ 1000) (hB : B ≤ W.heap.size)
    (h : ∀ av' cap' w', Tk B w' (.slice av' (ts.length + 1) cap') (ts ++ [T]) → W.grownBy w' (Value.slice av ts.length cap).ownBlock → Below B W w' → wpList Try.prog ops Q rest (a.put o.dst (.slice av' (ts.length + 1) cap')) w') :
    wpList Try.prog ops Q (o :: rest) a (W.alloc (.cells cs 48)) := by
  subst hz
  obtain ⟨i0, hi, hz0, hz1, hz2⟩ := info_parts tok_info
  have hb0 : (W.alloc (.cells cs 48)).heap[W.heap.size]? = some (.cells cs 48 (0, 0)) := heap_alloc_new W _
  refine wpList_append_own _ hgd s x 44 ho B 48 i0 _ 4 40 Try.underlying44 hi hz0 hz1 hz2 rfl (by decide) _ ts.length (tcells ts) hs (World.ownsRow.alloc hown _) ⟨W.heap.size, 0, none⟩ 1 1 (tcell T) hx rfl ?_ (news_one T) ?_ ?_ ?_ ?_
  · intro j u hj
    have e : (⟨W.heap.size, 0, none⟩ : Addr).add j = ⟨W.heap.size, j, none⟩ := by
      by_cases h0 : j = 0
      · subst h0; simp [Addr.add]
      · simp [Addr.add, h0]
    rw [e, cell_at hb0, ← Array.getElem?_toList, hcs]; exact hj
  · unfold maxLen; omega
  · omega
  · show B ≤ (W.heap.push _).size; simp; omega
  · intro v' w' hown' hgr _
    have hTk : Tk B w' v' (ts ++ [T]) := by
      unfold Tk; rw [tcells_append, List.length_append]; simpa [tcells] using hown'
    obtain ⟨av', cap', hv⟩ := hTk.shape
    rw [List.length_append, List.length_singleton] at hv
    subst hv
    have hg2 : W.grownBy w' (Value.slice av ts.length cap).ownBlock := by
      have hz : (W.alloc (.cells cs 48)).heap.size = W.heap.size + 1 := by show (W.heap.push _).size = _; simp
      exact ⟨hgr.os, hgr.tape, hgr.output, by have := hgr.size; omega, fun k hk hne => (hgr.block k (by omega) hne).trans (Lib.alloc_old W _ k hk)⟩
    exact h av' cap' w' hTk hg2 ((Below.refl B W).grown hg2 hB (fun k hk => ((World.ownsRow.lt hown) k hk).1))
theorem Tk.empty (B : Nat) (w : World) (hB : B ≤ w.heap.size) : Tk B (w.alloc (.cells #[] 48)) (.slice (some ⟨w.heap.size, 0, none⟩) 0 0) [] :=
  ⟨rfl, .inr ⟨w.heap.size, 0, #[], rfl, hB, heap_alloc_new w _, Nat.le_refl _, by unfold maxLen; omega, rfl, rfl⟩⟩
end Go.Proofs.Ytpihmockcjdafaa.lx
end
