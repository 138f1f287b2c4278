/- A slice of bytes in a block of the call's own: made, appended to, made a string. -/
import Derived.Test.YtdcggedggngpoaaScanR
import Derived.Lib.UnsafeStr
import Derived.WideShapes
namespace Go.Proofs.Ytdcggedggngpoaa.lx
open Go.RowKit

/-- the slice at block g of room cap holds the bytes l -/
def By (B : Nat) (w : World) (g cap : Nat) (l : List UInt8) : Prop := w.ownsRow B 5 1 (.slice (some ⟨g, 0, none⟩) l.length cap) l.length (Lib.byteCells l)
theorem By.lt {B : Nat} {w : World} {g cap : Nat} {l : List UInt8} (h : By B w g cap l) : B ≤ g ∧ g < w.heap.size := (World.ownsRow.lt h) g rfl
theorem By.drawn {B : Nat} {w : World} {g cap : Nat} {l : List UInt8} (h : By B w g cap l) (k : Nat) : By B (w.drewN k) g cap l := h
theorem By.empty (B : Nat) (w : World) (hB : B ≤ w.heap.size) : By B (w.alloc (.cells #[] 5)) w.heap.size 0 [] :=
  ⟨rfl, .inr ⟨w.heap.size, 0, #[], rfl, hB, heap_alloc_new w _, Nat.le_refl _, by unfold maxLen; omega, rfl, rfl⟩⟩
theorem By.one (B : Nat) (w : World) (hB : B ≤ w.heap.size) (b : UInt8) {e : Int} (he : e = (b.toNat : Nat)) : By B (w.alloc (.cells #[.int .u8 e] 5)) w.heap.size 1 [b] := by
  subst he
  exact ⟨rfl, .inr ⟨w.heap.size, 1, #[.int .u8 (b.toNat : Nat)], rfl, hB, heap_alloc_new w _, Nat.le_refl _, by unfold maxLen; omega, rfl, rfl⟩⟩
theorem wpList_pushN {ops : Array Oper} {rest : List Oper} {o : Oper} {a : Act} {Q : Exit → Act → World → Prop} (hgd : o.guard = none) (s x : Operand)
    (ho : o.op = .call { callee := .builtin .append, args := #[s, x], argTypes := #[22, 22] })
    (B : Nat) (w : World) (g cap : Nat) (l news : List UInt8) (cs : Array Value) (hcs : cs.toList = Lib.byteCells news) (hn0 : 0 < news.length) (hs : a.eval s = .slice (some ⟨g, 0, none⟩) l.length cap) (hown : By B w g cap l)
    (m : Nat) (hm : m = news.length) (hx : a.eval x = .slice (some ⟨w.heap.size, 0, none⟩) m m) (hlen : l.length + news.length ≤ 1000000) (hB : B ≤ w.heap.size)
    (h : ∀ g' cap' w', By B w' g' cap' (l ++ news) → Below B w w' → wpList Try.prog ops Q rest (a.put o.dst (.slice (some ⟨g', 0, none⟩) (l.length + m) cap')) w') :
    wpList Try.prog ops Q (o :: rest) a (w.alloc (.cells cs 5)) := by
  obtain ⟨i0, hi, hz0, hz1, hz2⟩ := info_parts u8_info
  have hbn : (Lib.byteCells news).length = news.length := Lib.byteCells_length news
  have hbl : (Lib.byteCells l).length = l.length := Lib.byteCells_length l
  have hb0 : (w.alloc (.cells cs 5)).heap[w.heap.size]? = some (.cells cs 5 (0, 0)) := heap_alloc_new w _
  refine wpList_append_own _ hgd s x 22 ho B 5 i0 (.int .u8 0) 1 1 Try.underlying22 hi hz0 hz1 hz2 rfl (by decide) _ l.length (Lib.byteCells l) hs (World.ownsRow.alloc hown _) ⟨w.heap.size, 0, none⟩ m m (Lib.byteCells news) hx (by rw [hbn, hm, Nat.mul_one]) ?_ ?_ ?_ ?_ ?_ ?_
  · intro j u hj
    have e : (⟨w.heap.size, 0, none⟩ : Addr).add j = ⟨w.heap.size, j, none⟩ := by
      by_cases h0 : j = 0
      · subst h0; simp [Addr.add]
      · simp [Addr.add, h0]
    rw [e, cell_at hb0, ← Array.getElem?_toList, hcs]; exact hj
  · intro u hu; simp [Lib.byteCells] at hu; obtain ⟨b, _, rfl⟩ := hu; rfl
  · unfold maxLen; omega
  · omega
  · show B ≤ (w.heap.push _).size; simp; omega
  · intro v' w' hown' hgr hnil
    have e1 : Lib.byteCells l ++ Lib.byteCells news = Lib.byteCells (l ++ news) := by simp [Lib.byteCells]
    rw [e1] at hown'
    have hb : Below B w w' := ((Below.refl B w).alloc hB _).grown hgr (by show B ≤ (w.heap.push _).size; simp; omega) (fun k hk => by simp [Value.ownBlock] at hk; have := hown.lt.1; omega)
    rcases hown'.2 with ⟨h1, h2⟩ | ⟨g', cap', cur, h1, h2⟩
    · omega
    · subst h1
      refine h g' cap' w' ?_ hb
      unfold By
      rw [List.length_append, ← hm]; exact hown'
/-- one byte more -/
theorem wpList_push1 {ops : Array Oper} {rest : List Oper} {o : Oper} {a : Act} {Q : Exit → Act → World → Prop} (hgd : o.guard = none) (s x : Operand)
    (ho : o.op = .call { callee := .builtin .append, args := #[s, x], argTypes := #[22, 22] })
    (B : Nat) (w : World) (g cap : Nat) (l : List UInt8) (b : UInt8) (e : Int) (he : e = (b.toNat : Nat)) (hs : a.eval s = .slice (some ⟨g, 0, none⟩) l.length cap) (hown : By B w g cap l)
    (hx : a.eval x = .slice (some ⟨w.heap.size, 0, none⟩) 1 1) (hlen : l.length ≤ 100000) (hB : B ≤ w.heap.size)
    (h : ∀ g' cap' w', By B w' g' cap' (l ++ [b]) → Below B w w' → wpList Try.prog ops Q rest (a.put o.dst (.slice (some ⟨g', 0, none⟩) (l.length + 1) cap')) w') :
    wpList Try.prog ops Q (o :: rest) a (w.alloc (.cells #[.int .u8 e] 5)) :=
  wpList_pushN hgd s x ho B w g cap l [b] _ (by rw [he]; rfl) (by simp) hs hown 1 rfl hx (by simp; omega) hB h
/-- two bytes more -/
theorem wpList_push2 {ops : Array Oper} {rest : List Oper} {o : Oper} {a : Act} {Q : Exit → Act → World → Prop} (hgd : o.guard = none) (s x : Operand)
    (ho : o.op = .call { callee := .builtin .append, args := #[s, x], argTypes := #[22, 22] })
    (B : Nat) (w : World) (g cap : Nat) (l : List UInt8) (b c : UInt8) (e f : Int) (he : e = (b.toNat : Nat)) (hf : f = (c.toNat : Nat)) (hs : a.eval s = .slice (some ⟨g, 0, none⟩) l.length cap) (hown : By B w g cap l)
    (hx : a.eval x = .slice (some ⟨w.heap.size, 0, none⟩) 2 2) (hlen : l.length ≤ 100000) (hB : B ≤ w.heap.size)
    (h : ∀ g' cap' w', By B w' g' cap' (l ++ [b, c]) → Below B w w' → wpList Try.prog ops Q rest (a.put o.dst (.slice (some ⟨g', 0, none⟩) (l.length + 2) cap')) w') :
    wpList Try.prog ops Q (o :: rest) a (w.alloc (.cells #[.int .u8 e, .int .u8 f] 5)) :=
  wpList_pushN hgd s x ho B w g cap l [b, c] _ (by rw [he, hf]; rfl) (by simp) hs hown 2 rfl hx (by simp; omega) hB h
theorem By.conv {B : Nat} {w : World} {g cap : Nat} {l : List UInt8} (h : By B w g cap l) : (convert 22 9 (.slice (some ⟨g, 0, none⟩) l.length cap)).run Try.prog w = .ok (.string ⟨l.toArray⟩) w := by
  have hc := World.ownsRow.cells h (g := g) rfl
  have := run_convert_bytes_arg (P := Try.prog) w 22 5 Try.underlying22 Try.underlying5 g 0 l.length cap (l.map fun c => (c.toNat : Int)) (by simp) (fun i hi => by
    have e : (⟨g, 0, none⟩ : Addr).add i = ⟨g, i, none⟩ := by
      by_cases h0 : i = 0
      · subst h0; simp [Addr.add]
      · simp [Addr.add, h0]
    rw [Nat.zero_add, ← e]
    refine hc i _ ?_
    simp [Lib.byteCells, hi]) 9 Try.underlying9
  rw [this]
  congr 2
  unfold strOfNums
  simp only [List.map_map]
  rw [show ((fun n : Int => UInt8.ofNat n.toNat) ∘ fun c : UInt8 => (c.toNat : Int)) = id from funext fun c => by simp, List.map_id]
end Go.Proofs.Ytdcggedggngpoaa.lx
