/- The scan's deferred closure: a scanner that gave up, or none. -/
import Derived.Test.YtdcggedggngpoaaNext
import Derived.Defers
import Derived.Recover
import Derived.Lib.Walk
namespace Go.Proofs.Ytdcggedggngpoaa.lx
open Go.RowKit

theorem wpS_rest {P : Program} {fn : Func} {c₀ : Frame} {cs cs' : List Frame} {R : Ending → FrameMode → World → Prop} {u' : FrameMode} {c : Code} {a : Act} {w : World} (hcs : cs' = { c₀ with mode := u' } :: cs)
    (h : c.wp P (bodyPost P fn fun e w' => R e u' w') a w) : c.wpS P (bodyPostS P fn c₀ cs R) a cs' w := by
  refine wpS_of_wp fun b k cs2 => ?_
  obtain ⟨e, a', w', hq, hr⟩ := h b k cs2
  refine ⟨e, a', w', ?_, hr⟩
  cases e with
  | normal => exact ⟨hq.1, u', hcs, hq.2⟩
  | ret => exact ⟨hq.1, u', hcs, hq.2⟩
  | panic ch => exact ⟨hq.1, u', hcs, hq.2⟩
  | outgrown => exact ⟨u', hq⟩
  | exit id => exact hq
  | goto l => exact hq

set_option maxHeartbeats 1000000 in
theorem catch_idle (p q r : Addr) (w : World) :
    CallsD Try.prog 25 #[.pointer (some p), .pointer (some q), .pointer (some r)] .returning w fun e u' w' => e = .returned (.tuple #[]) ∧ u' = .returning ∧ w = w' := by
  refine callsD_of_wpS Try.func25 rfl fun c₀ cs hu => ?_
  apply wpS_seq
  apply wpS_region
  simp [wpOpsS, go_sem, recoverD, hu, Try.ntmps25, Exit.thenS]
  refine wpS_rest (u' := .returning) (by cases c₀; simp_all) ?_
  clear hu
  go_wp2
  go_end0
  exact ⟨rfl, rfl⟩

theorem catch_post (w : World) (a p k : Nat) (x0 : ∀ o, (w.alloc o).cell? ⟨a, 0, none⟩ = some (.slice none 0 0)) (x1 : ∀ o, (w.alloc o).cell? ⟨a + 1, 0, none⟩ = some (.int .i64 0)) (x2 : ∀ o, (w.alloc o).cell? ⟨a + 2, 0, none⟩ = some (.int .i64 0)) (hl : a + 2 < w.heap.size) {o : Obj} :
    Ending.returned (.tuple #[]) = .returned (.tuple #[]) ∧ FrameMode.panicking [{ v := .iface 43 (.agg #[.int .i64 (p : Nat), .int .i64 (k : Nat)]), recovered := true }] = FrameMode.panicking [{ v := .iface 43 (.agg #[.int .i64 (p : Nat), .int .i64 (k : Nat)]), recovered := true }] ∧
      (((((w.alloc o).setCell ⟨a, 0, none⟩ (.slice none 0 0)).setCell ⟨a + 1, 0, none⟩ (.int .i64 (p : Nat))).setCell ⟨a + 2, 0, none⟩ (.int .i64 (k : Nat))).drew).cell? ⟨a, 0, none⟩ = some (.slice none 0 0) ∧
      (((((w.alloc o).setCell ⟨a, 0, none⟩ (.slice none 0 0)).setCell ⟨a + 1, 0, none⟩ (.int .i64 (p : Nat))).setCell ⟨a + 2, 0, none⟩ (.int .i64 (k : Nat))).drew).cell? ⟨a + 1, 0, none⟩ = some (.int .i64 (p : Nat)) ∧
      (((((w.alloc o).setCell ⟨a, 0, none⟩ (.slice none 0 0)).setCell ⟨a + 1, 0, none⟩ (.int .i64 (p : Nat))).setCell ⟨a + 2, 0, none⟩ (.int .i64 (k : Nat))).drew).cell? ⟨a + 2, 0, none⟩ = some (.int .i64 (k : Nat)) ∧
      Below a w ((((w.alloc o).setCell ⟨a, 0, none⟩ (.slice none 0 0)).setCell ⟨a + 1, 0, none⟩ (.int .i64 (p : Nat))).setCell ⟨a + 2, 0, none⟩ (.int .i64 (k : Nat))).drew := by
  have n01 : (⟨a, 0, none⟩ : Addr) ≠ ⟨a + 1, 0, none⟩ := by intro e; cases e
  have n02 : (⟨a, 0, none⟩ : Addr) ≠ ⟨a + 2, 0, none⟩ := by intro e; injection e; omega
  have n12 : (⟨a + 1, 0, none⟩ : Addr) ≠ ⟨a + 2, 0, none⟩ := by intro e; injection e; omega
  have hx0 := x0 o
  have hx1 := x1 o
  have hx2 := x2 o
  refine ⟨rfl, rfl, ?_, ?_, ?_, ((((Below.refl a w).alloc (by omega) o).setCell (p := ⟨a, 0, none⟩) (Nat.le_refl _) _).setCell (p := ⟨a + 1, 0, none⟩) (Nat.le_succ _) _).setCell (p := ⟨a + 2, 0, none⟩) (by show a ≤ a + 2; omega) _ |>.drew⟩
  · show World.cell? (World.setCell _ _ _) _ = _
    rw [World.cell?_setCell_other _ _ _ _ n02.symm, World.cell?_setCell_other _ _ _ _ n01.symm, World.cell?_setCell_same _ _ _ hx0]
  · show World.cell? (World.setCell _ _ _) _ = _
    rw [World.cell?_setCell_other _ _ _ _ n12.symm, World.cell?_setCell_same _ _ _ ((World.cell?_setCell_other _ _ _ _ n01).trans hx1)]
  · show World.cell? (World.setCell _ _ _) _ = _
    rw [World.cell?_setCell_same _ _ _ ((World.cell?_setCell_other _ _ _ _ n12).trans ((World.cell?_setCell_other _ _ _ _ n02).trans hx2))]

set_option maxHeartbeats 1000000 in
theorem catch_wrong (a : Nat) (w : World) (p k : Nat) (h0 : w.cell? ⟨a, 0, none⟩ = some (.slice none 0 0)) (h1 : w.cell? ⟨a + 1, 0, none⟩ = some (.int .i64 0)) (h2 : w.cell? ⟨a + 2, 0, none⟩ = some (.int .i64 0))
    (f0 : w.frozen? ⟨a, 0, none⟩ = false) (f1 : w.frozen? ⟨a + 1, 0, none⟩ = false) (f2 : w.frozen? ⟨a + 2, 0, none⟩ = false) (hl : a + 2 < w.heap.size) :
    CallsD Try.prog 25 #[.pointer (some ⟨a, 0, none⟩), .pointer (some ⟨a + 1, 0, none⟩), .pointer (some ⟨a + 2, 0, none⟩)] (.panicking [{ v := .iface 43 (.agg #[.int .i64 (p : Nat), .int .i64 (k : Nat)]), recovered := false }]) w fun e u' w' =>
      e = .returned (.tuple #[]) ∧ u' = .panicking [{ v := .iface 43 (.agg #[.int .i64 (p : Nat), .int .i64 (k : Nat)]), recovered := true }] ∧
        w'.cell? ⟨a, 0, none⟩ = some (.slice none 0 0) ∧ w'.cell? ⟨a + 1, 0, none⟩ = some (.int .i64 (p : Nat)) ∧ w'.cell? ⟨a + 2, 0, none⟩ = some (.int .i64 (k : Nat)) ∧ Below a w w' := by
  refine callsD_of_wpS Try.func25 rfl fun c₀ cs hu => ?_
  apply wpS_seq
  apply wpS_region
  simp [wpOpsS, go_sem, recoverD, hu, Try.ntmps25, Exit.thenS]
  refine wpS_rest (u' := .panicking [{ v := .iface 43 (.agg #[.int .i64 (p : Nat), .int .i64 (k : Nat)]), recovered := true }]) (by cases c₀; simp_all) ?_
  clear hu
  rw [show (#[.pointer (some ⟨a, 0, none⟩), .pointer (some ⟨a + 1, 0, none⟩), .pointer (some ⟨a + 2, 0, none⟩)] ++ (Array.replicate 13 undef).setIfInBounds 3 (.iface 43 (.agg #[.int .i64 (p : Nat), .int .i64 (k : Nat)])) : Array Value) = #[.pointer (some ⟨a, 0, none⟩), .pointer (some ⟨a + 1, 0, none⟩), .pointer (some ⟨a + 2, 0, none⟩), undef, undef, undef, .iface 43 (.agg #[.int .i64 (p : Nat), .int .i64 (k : Nat)]), undef, undef, undef, undef, undef, undef, undef, undef, undef] from rfl]
  have x0 : ∀ o, (w.alloc o).cell? ⟨a, 0, none⟩ = some (.slice none 0 0) := fun o => (World.cell?_of_block (Lib.alloc_old w o a (by omega))).trans h0
  have x1 : ∀ o, (w.alloc o).cell? ⟨a + 1, 0, none⟩ = some (.int .i64 0) := fun o => (World.cell?_of_block (Lib.alloc_old w o (a + 1) (by omega))).trans h1
  have x2 : ∀ o, (w.alloc o).cell? ⟨a + 2, 0, none⟩ = some (.int .i64 0) := fun o => (World.cell?_of_block (Lib.alloc_old w o (a + 2) (by omega))).trans h2
  have y0 : ∀ o, (w.alloc o).frozen? ⟨a, 0, none⟩ = false := fun o => (World.frozen?_of_block (Lib.alloc_old w o a (by omega))).trans f0
  have y1 : ∀ o, (w.alloc o).frozen? ⟨a + 1, 0, none⟩ = false := fun o => (World.frozen?_of_block (Lib.alloc_old w o (a + 1) (by omega))).trans f1
  have y2 : ∀ o, (w.alloc o).frozen? ⟨a + 2, 0, none⟩ = false := fun o => (World.frozen?_of_block (Lib.alloc_old w o (a + 2) (by omega))).trans f2
  have z0 : ¬ a = w.heap.size := by omega
  have z1 : ¬ a + 1 = w.heap.size := by omega
  have z2 : ¬ a + 2 = w.heap.size := by omega
  have hta : ∀ w, (Instr.typeAssert (.iface 43 (.agg #[.int .i64 (p : Nat), .int .i64 (k : Nat)])) 20 43 true).run Try.prog w = .ok (.tuple #[.agg #[.int .i64 (p : Nat), .int .i64 (k : Nat)], .bool true]) w := fun _ => by kernel_rfl
  go_wp2
  go_region
  all_goals
    go_wp2
    go_end0
    exact ⟨rfl, (catch_post w a p k x0 x1 x2 hl).2.2⟩
end Go.Proofs.Ytdcggedggngpoaa.lx
