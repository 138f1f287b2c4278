/- The program's reader: operand.; The program's reader: term, and the closure that takes a term within it.; The program's reader: term, whole. -/
import Derived.Test.YtjccohcigopdfaaQ7
import Derived.Deep.RegionWith
set_option linter.unusedVariables false
set_option linter.unusedSimpArgs false
section
/- The program's reader: operand. -/
namespace Go.Proofs.Ytjccohcigopdfaa.rd
open Go.RowKit
open Go.Proofs.Ytjccohcigopdfaa.op (bs strC Both Tb progI progP tupI)
open Go.Proofs.Ytjccohcigopdfaa.lx (Tok Tk tcell tcells cell_at ieq_yes ieq_no)
set_option maxRecDepth 20000

theorem operand_eq (x : W) (most : Int) (L : List Tok) (e i : Nat) (nm : List (List UInt8)) : operandP x most ((ab L).drop i, nm) =
    if (tokAt L e i).kind = 1 then namedP x most ((ab L).drop i, nm)
    else if (tokAt L e i).kind = 2 then zeroP (.ok (varP ((ab L).drop i, nm)))
    else if (tokAt L e i).kind = 3 then zeroP (intP [] ((ab L).drop i, nm))
    else if (tokAt L e i).kind = 4 then zeroP (bracketP x [41] ((ab L).drop (i + 1), nm))
    else zeroP (markedP x ((ab L).drop i, nm)) := by
  unfold operandP
  simp only [tail_drop, (nx_tok L e i).1]
  rfl
end Go.Proofs.Ytjccohcigopdfaa.rd
end
section
/- The program's reader: term, and the closure that takes a term within it. -/
namespace Go.Proofs.Ytjccohcigopdfaa.rd
open Go.RowKit
open Go.Proofs.Ytjccohcigopdfaa.op (bs strC Both Tb progI progP tupI)
open Go.Proofs.Ytjccohcigopdfaa.lx (Tok Tk tcell tcells cell_at ieq_yes ieq_no)
set_option maxRecDepth 20000

theorem loop_stop (x : W) (most : Int) (f : Nat) (t : T) (prio : Int) (s : St) (h : (infixK (nx s.1)).2.2.2 = false ∨ most < (infixK (nx s.1)).1 ∨ (infixK (nx s.1)).2.1 < prio) : loopP x most f t prio s = .ok (t, s) := by
  cases f with
  | zero => rfl
  | succ f => rw [loopP]; exact if_pos h
theorem loop_err (x : W) (most : Int) (f : Nat) (t : T) (prio : Int) (s : St) (h : ¬ ((infixK (nx s.1)).2.2.2 = false ∨ most < (infixK (nx s.1)).1 ∨ (infixK (nx s.1)).2.1 < prio)) {k : Nat} (hx : x (infixK (nx s.1)).2.2.1 (s.1.tail, s.2) = .error k) :
    loopP x most (f + 1) t prio s = .error k := by
  rw [loopP, if_neg h, hx]
theorem loop_go (x : W) (most : Int) (f : Nat) (t : T) (prio : Int) (s : St) (h : ¬ ((infixK (nx s.1)).2.2.2 = false ∨ most < (infixK (nx s.1)).1 ∨ (infixK (nx s.1)).2.1 < prio)) {u : T} {s' : St} (hx : x (infixK (nx s.1)).2.2.1 (s.1.tail, s.2) = .ok (u, s')) :
    loopP x most (f + 1) t prio s = loopP x most f (.cmp (nx s.1).text [t, u]) (infixK (nx s.1)).1 s' := by
  rw [loopP, if_neg h, hx]
theorem infix_lt {L : List Tok} {j : Nat} (h : (infixK (nx ((ab L).drop j))).2.2.2 = true) : j < L.length := by
  rcases Nat.lt_or_ge j L.length with h1 | h1
  · exact h1
  · rw [nx_nil L j h1] at h; simp [infixK, K0, isM] at h
theorem infix_bound (k : K) : -10000 ≤ (infixK k).2.2.1 ∧ (infixK k).2.2.1 ≤ 10000 := by
  unfold infixK
  split
  · rcases op.sides k.text with h | ⟨_, h1, h2, h3, h4, h5, h6, _⟩
    · rw [h]; decide
    · omega
  · decide
end Go.Proofs.Ytjccohcigopdfaa.rd
end
section
/- The program's reader: term, whole. -/
namespace Go.Proofs.Ytjccohcigopdfaa.rd
open Go.RowKit
open Go.Proofs.Ytjccohcigopdfaa.op (bs strC Both Tb progI progP tupI)
open Go.Proofs.Ytjccohcigopdfaa.lx (Tok Tk tcell tcells cell_at ieq_yes ieq_no)
set_option maxRecDepth 20000

theorem alloc3 (w : World) (o1 o2 o3 : Obj) : (((w.alloc o1).alloc o2).alloc o3).heap[w.heap.size]? = some o1 ∧ (((w.alloc o1).alloc o2).alloc o3).heap[w.heap.size + 1]? = some o2 ∧ (((w.alloc o1).alloc o2).alloc o3).heap[w.heap.size + 1 + 1]? = some o3 ∧
    (((w.alloc o1).alloc o2).alloc o3).heap.size = w.heap.size + 1 + 1 + 1 ∧ Below w.heap.size w (((w.alloc o1).alloc o2).alloc o3) := by
  have z1 := size_alloc w o1
  have z2 := size_alloc (w.alloc o1) o2
  have h2 := heap_alloc_new (w.alloc o1) o2
  have h3 := heap_alloc_new ((w.alloc o1).alloc o2) o3
  rw [z1] at z2 h2
  rw [z2] at h3
  exact ⟨(Lib.alloc_old _ o3 _ (by omega)).trans ((Lib.alloc_old _ o2 _ (by omega)).trans (heap_alloc_new w o1)), (Lib.alloc_old _ o3 _ (by omega)).trans h2, h3, by rw [size_alloc, z2],
    (((Below.refl w.heap.size w).alloc (Nat.le_refl _) o1).alloc (by omega) o2).alloc (by omega) o3⟩
end Go.Proofs.Ytjccohcigopdfaa.rd
end
