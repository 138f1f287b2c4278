/- The reference: Tokens: what its walk leans on. -/
import Derived.Test.YtdcggedggngpoaaRfQ
import Derived.Test.YtdcggedggngpoaaRfR
import Derived.Test.YtdcggedggngpoaaRfT
import Derived.Test.YtdcggedggngpoaaToks
import Derived.Deep.WholeRow
namespace Go.Proofs.Ytdcggedggngpoaa.lx
open Go.RowKit

theorem tok_text {s : ByteArray} {f : Nat} (y : Nat) (hf : f < s.size) : s.extract f (f + 1 + (wordL s f y).length) = ⟨(bA s f :: wordL s f y).toArray⟩ ∧ f + 1 + (wordL s f y).length ≤ s.size := by
  have hp : wordL s f y <+: s.data.toList.drop (f + 1) := List.takeWhile_prefix _
  have hz : s.data.toList.length = s.size := by simp
  have hl := hp.length_le
  rw [List.length_drop] at hl
  refine ⟨?_, by omega⟩
  rw [Lib.extract_eq, drop_bA hf, show f + 1 + (wordL s f y).length - f = (wordL s f y).length + 1 from by omega, List.take_succ_cons, ← List.prefix_iff_eq_take.1 hp]
theorem ends_word {s : ByteArray} {f : Nat} (h : endsB s f = true) : wordL s f 5 = [] := wordL_none fun b r hbr => by
  have hlt : f + 1 < s.size := by
    rcases Nat.lt_or_ge (f + 1) s.size with h' | h'
    · exact h'
    · rw [drop_end h'] at hbr; cases hbr
  rw [drop_bA hlt] at hbr
  rw [← (List.cons.inj hbr).1, (joinB_name _).2.2.2]
  unfold endsB at h
  rw [show (f + 1 == s.size) = false from by simp; omega] at h
  simp only [Bool.and_eq_true, Bool.false_or, Bool.or_eq_true, beq_iff_eq] at h
  rcases h.2 with h | h
  · rw [h]; decide
  · rw [h]; rfl
/-- append to tokens of one's own -/
theorem wpList_pushTok {ops : Array Oper} {rest : List Oper} {o : Oper} {a : Act} {Q : Exit → Act → World → Prop} (hgd : o.guard = none) (s x : Operand)
    (ho : o.op = .call { callee := .builtin .append, args := #[s, x], argTypes := #[23, 23] })
    (B : Nat) (W : World) (av : Option Addr) (cap : Nat) (ts : List Tok) (T : Tok) (cs : Array Value) (hcs : cs.toList = tcell T) (hs : a.eval s = .slice av ts.length cap) (hown : Tk B W (.slice av ts.length cap) ts)
    (z : Nat) (hz : z = W.heap.size) (hx : a.eval x = .slice (some ⟨z, 0, none⟩) 1 1) (hlen : ts.length ≤ 1000) (hB : B ≤ W.heap.size)
    (h : ∀ av' cap' w', Tk B w' (.slice av' (ts.length + 1) cap') (ts ++ [T]) → W.grownBy w' (Value.slice av ts.length cap).ownBlock → Below B W w' → wpList Try.prog ops Q rest (a.put o.dst (.slice av' (ts.length + 1) cap')) w') :
    wpList Try.prog ops Q (o :: rest) a (W.alloc (.cells cs 29)) := by
  subst hz
  obtain ⟨i0, hi, hz0, hz1, hz2⟩ := info_parts tok_info
  have hb0 : (W.alloc (.cells cs 29)).heap[W.heap.size]? = some (.cells cs 29 (0, 0)) := heap_alloc_new W _
  refine wpList_append_own _ hgd s x 23 ho B 29 i0 _ 4 40 Try.underlying23 hi hz0 hz1 hz2 rfl (by decide) _ ts.length (tcells ts) hs (World.ownsRow.alloc hown _) ⟨W.heap.size, 0, none⟩ 1 1 (tcell T) hx rfl ?_ (news_one T) ?_ ?_ ?_ ?_
  · intro j u hj
    have e : (⟨W.heap.size, 0, none⟩ : Addr).add j = ⟨W.heap.size, j, none⟩ := by
      by_cases h0 : j = 0
      · subst h0; simp [Addr.add]
      · simp [Addr.add, h0]
    rw [e, cell_at hb0, ← Array.getElem?_toList, hcs]; exact hj
  · unfold maxLen; omega
  · omega
  · show B ≤ (W.heap.push _).size; simp; omega
  · intro v' w' hown' hgr _
    have hTk : Tk B w' v' (ts ++ [T]) := by
      unfold Tk; rw [tcells_append, List.length_append]; simpa [tcells] using hown'
    obtain ⟨av', cap', hv⟩ := hTk.shape
    rw [List.length_append, List.length_singleton] at hv
    subst hv
    have hg2 : W.grownBy w' (Value.slice av ts.length cap).ownBlock := by
      have hz : (W.alloc (.cells cs 29)).heap.size = W.heap.size + 1 := by show (W.heap.push _).size = _; simp
      exact ⟨hgr.os, hgr.tape, hgr.output, by have := hgr.size; omega, fun k hk hne => (hgr.block k (by omega) hne).trans (Lib.alloc_old W _ k hk)⟩
    exact h av' cap' w' hTk hg2 ((Below.refl B W).grown hg2 hB (fun k hk => ((World.ownsRow.lt hown) k hk).1))
theorem Tk.empty (B : Nat) (w : World) (hB : B ≤ w.heap.size) : Tk B (w.alloc (.cells #[] 29)) (.slice (some ⟨w.heap.size, 0, none⟩) 0 0) [] :=
  ⟨rfl, .inr ⟨w.heap.size, 0, #[], rfl, hB, heap_alloc_new w _, Nat.le_refl _, by unfold maxLen; omega, rfl, rfl⟩⟩
end Go.Proofs.Ytdcggedggngpoaa.lx
