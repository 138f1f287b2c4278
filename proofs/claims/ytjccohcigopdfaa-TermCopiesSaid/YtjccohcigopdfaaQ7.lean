/- The program's reader: marked.; The program's reader: named. -/
import Derived.Test.YtjccohcigopdfaaQ5
import Derived.Laws.ResultCell
import Derived.Deep.RegionHeld3
set_option linter.unusedVariables false
set_option linter.unusedSimpArgs false
section
/- The program's reader: marked. -/
namespace Go.Proofs.Ytjccohcigopdfaa.rd
open Go.RowKit
open Go.Proofs.Ytjccohcigopdfaa.op (bs strC Both Tb progI progP tupI)
open Go.Proofs.Ytjccohcigopdfaa.lx (Tok Tk tcell tcells cell_at ieq_yes ieq_no)
set_option maxRecDepth 20000

end Go.Proofs.Ytjccohcigopdfaa.rd
end
section
/- The program's reader: named. -/
namespace Go.Proofs.Ytjccohcigopdfaa.rd
open Go.RowKit
open Go.Proofs.Ytjccohcigopdfaa.op (bs strC Both Tb progI progP tupI)
open Go.Proofs.Ytjccohcigopdfaa.lx (Tok Tk tcell tcells cell_at ieq_yes ieq_no)
set_option maxRecDepth 20000

theorem ret_pair {fn : Func} {p u : Tmp} (h : fn.results = #[.cell p 25, .tmp u]) (tmps : Array Value) (w : World) {g : Nat} {a b c d : Value} (hp : tmps.getD p undef = .pointer (some ⟨g, 0, none⟩)) (hg : w.heap[g]? = some (.cells #[a, b, c, d] 25 (0, 0))) :
    (results fn tmps).run Try.prog w = .ok (.tuple #[.agg #[a, b, c, d], tmps.getD u undef]) w := by
  rw [results_cell_tmp h, hp]
  simp [asAddr, run_loadVar_row w g 25 25 _ _ _ hg Try.underlying25 rfl term_info, Result.andThen]
/-- a token's cells -/
def TkC (t : Tok) : Obj := .cells #[.int .i64 (t.kind : Nat), .string (bs t.text), .int .i64 (t.frm : Nat), .int .i64 (t.to : Nat)] 73
theorem nx_eta (L : List Tok) (e i : Nat) : nx ((ab L).drop i) = ⟨(tokAt L e i).kind, (tokAt L e i).text, (nx ((ab L).drop i)).near⟩ := by
  rw [← (nx_tok L e i).1, ← (nx_tok L e i).2]
theorem named_eq (x : W) (most : Int) (L : List Tok) (e i : Nat) (nm : List (List UInt8)) (hk : (tokAt L e i).kind = 1) : namedP x most ((ab L).drop i, nm) =
    if (tokAt L e (i + 1)).kind = 4 then
      match rowP x ((ab L).drop (i + 2), nm) with
      | .error k => .error k
      | .ok (l, s2) => if isM (nx s2.1) [41] = true then .ok ((.cmp (tokAt L e i).text l, 0), (s2.1.tail, s2.2)) else .error 50
    else if (tokAt L e i).text = [45] ∧ (tokAt L e (i + 1)).kind = 3 ∧ (tokAt L e (i + 1)).frm = (tokAt L e i).to then zeroP (intP [45] ((ab L).drop (i + 1), nm))
    else if (progP (tokAt L e i).text).2.2 = true ∧ (progP (tokAt L e i).text).1 ≤ most ∧ mayB (nx ((ab L).drop (i + 1))) = true then
      match x (progP (tokAt L e i).text).2.1 ((ab L).drop (i + 1), nm) with
      | .error k => .error k
      | .ok (t, s2) => .ok ((.cmp (tokAt L e i).text [t], (progP (tokAt L e i).text).1), s2)
    else .ok ((.leaf 3 0 (tokAt L e i).text, 0), ((ab L).drop (i + 1), nm)) := by
  have h2 : (nx ((ab L).drop i)).text = (tokAt L e i).text := (nx_tok L e i).2
  have h3 : (nx ((ab L).drop (i + 1))).kind = (tokAt L e (i + 1)).kind := (nx_tok L e (i + 1)).1
  have hn : (tokAt L e (i + 1)).kind = 3 → ((nx ((ab L).drop i)).near = true ↔ (tokAt L e (i + 1)).frm = (tokAt L e i).to) := fun hk3 => by
    rw [nx_near L e i (lt_of_kind (e := e) (by omega))]
    unfold nearB
    simp [hk]
  unfold namedP expectP
  simp only [tail_drop, h2, h3]
  by_cases c1 : (tokAt L e (i + 1)).kind = 4
  · rw [if_pos c1, if_pos c1]
    rcases rowP x ((ab L).drop (i + 2), nm) with k | ⟨l, s2⟩
    · rfl
    · dsimp only
      cases isM (nx s2.1) [41] <;> rfl
  · rw [if_neg c1, if_neg c1]
    by_cases c2 : (tokAt L e i).text = [45] ∧ (tokAt L e (i + 1)).kind = 3 ∧ (tokAt L e (i + 1)).frm = (tokAt L e i).to
    · rw [if_pos c2, if_pos ⟨c2.1, c2.2.1, (hn c2.2.1).2 c2.2.2⟩]
    · rw [if_neg c2, if_neg fun h => c2 ⟨h.1, h.2.1, (hn h.2.1).1 h.2.2⟩]
      rfl

theorem minus_beq (n : List UInt8) : ((bs n).toList == [45]) = decide (n = [45]) := by
  rw [ByteArray.toList_eq]
  show (n == [45]) = _
  by_cases h : n = [45] <;> simp [h]
theorem prefix_bound (n : List UInt8) : -10000 ≤ (progP n).2.1 ∧ (progP n).2.1 ≤ 10000 := by
  by_cases h : n ∈ op.rowsP.map (·.1)
  · exact (by decide +kernel : ∀ n ∈ op.rowsP.map (·.1), -10000 ≤ (progP n).2.1 ∧ (progP n).2.1 ≤ 10000) n h
  · unfold progP; rw [op.find_not h]; decide
theorem set4_other {W : World} {g k : Nat} (h : k ≠ g) (j : Nat) (a b c d : Value) : ((((W.setCell ⟨g, 0, none⟩ a).setCell ⟨g, 1, none⟩ b).setCell ⟨g, 2, none⟩ c).setCell ⟨g, 3, none⟩ d).cell? ⟨k, j, none⟩ = W.cell? ⟨k, j, none⟩ := by
  have e : ∀ (W : World) (m : Nat) (v : Value), (W.setCell ⟨g, m, none⟩ v).heap[k]? = W.heap[k]? := fun W m v => Below.heap_setCell _ _ _ _ (by show k ≠ g; exact h)
  exact World.cell?_of_block (((e _ _ _).trans (e _ _ _)).trans ((e _ _ _).trans (e _ _ _)))
theorem tkcell_alloc {w : World} {k : Nat} {a b c d : Value} {t : TypeId} (h : w.heap[k]? = some (.cells #[a, b, c, d] t (0, 0))) (o : Obj) : (w.alloc o).cell? ⟨k, 1, none⟩ = some b := by
  rw [cell_at ((Lib.alloc_old w o k (lt_of h)).trans h)]; rfl
end Go.Proofs.Ytjccohcigopdfaa.rd
end
