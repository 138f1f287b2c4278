/- Sentences in memory; the deferred closure of sentences.; The program's reader: sentences.; Tokens rise, do not overlap, and hold their texts. Plain lists.; Texts one behind the other; quoted names. Plain lists. -/
import Derived.Test.YtcdmmcogegnieaaGreatDoorQ15
import Derived.Deep.RegionLaw
import Derived.Deep.Onto
import Derived.Test.YtcdmmcogegnieaaGreatDoorQ2
set_option linter.unusedVariables false
set_option linter.unusedSimpArgs false
section
/- Sentences in memory; the deferred closure of sentences. -/
namespace Go.Proofs.YtcdmmcogegnieaaGreatDoor.rd
open Go.RowKit
open Go.Proofs.YtcdmmcogegnieaaGreatDoor.op (bs strC Both Tb)
open Go.Proofs.YtcdmmcogegnieaaGreatDoor.lx (Tok Tk tcell tcells cell_at ieq_yes ieq_no wpS_rest)
set_option maxRecDepth 20000

abbrev Sn := T × List (List UInt8)
/-- a sentence's five cells -/
def scell (x : Sn) (z : Value × Value) : List Value := tv x.1 z.1 ++ [z.2]
def scells (l : List (Sn × Value × Value)) : List Value := l.flatMap fun y => scell y.1 y.2
theorem scells_append (a b : List (Sn × Value × Value)) : scells (a ++ b) = scells a ++ scells b := by simp [scells]
theorem scells_len (l : List (Sn × Value × Value)) : (scells l).length = l.length * 5 := by
  induction l with
  | nil => rfl
  | cons t l ih => rw [scells, List.flatMap_cons, List.length_append, List.length_cons]; rw [scells] at ih; rw [ih]; simp [scell, tv]; omega
theorem scells_get (l : List (Sn × Value × Value)) (i j : Nat) (hi : i < l.length) (hj : j < 5) : (scells l)[i * 5 + j]? = (scell l[i].1 l[i].2)[j]? := by
  induction l generalizing i with
  | nil => exact absurd hi (Nat.not_lt_zero _)
  | cons t l ih =>
    rw [scells, List.flatMap_cons]
    cases i with
    | zero => rw [List.getElem?_append_left (by simp [scell, tv]; omega)]; simp
    | succ i =>
      rw [List.getElem?_append_right (by simp [scell, tv]; omega)]
      rw [show (i + 1) * 5 + j - (scell t.1 t.2).length = i * 5 + j from by simp [scell, tv]; omega]
      rw [scells] at ih
      rw [ih i (by simpa using hi)]; rfl
/-- what hangs on one sentence's cells, in blocks from B on -/
def Hg (B : Nat) (w : World) (x : Sn) (z : Value × Value) : Prop := Rp (fun k => B ≤ k) w x.1 z.1 ∧ w.ownsRow B 9 1 z.2 x.2.length (strC (x.2.map bs))
/-- the slice v holds these sentences, all in blocks from B on -/
def Ss (B : Nat) (w : World) (v : Value) (l : List Sn) : Prop :=
  ∃ zs : List (Value × Value), zs.length = l.length ∧ w.ownsRow B 27 5 v l.length (scells (l.zip zs)) ∧ ∀ i (hi : i < l.length) (hz : i < zs.length), Hg B w l[i] zs[i]
theorem Hg.kept {B : Nat} {w w' : World} {x : Sn} {z : Value × Value} (h : Hg B w x z) (h1 : Kt 25 w w') (h2 : Kt 9 w w') : Hg B w' x z := ⟨h.1.kept h1, own_kept h.2 h2⟩
theorem Ss.kept {B : Nat} {w w' : World} {v : Value} {l : List Sn} (h : Ss B w v l) (h1 : Kt 25 w w') (h2 : Kt 9 w w') (h3 : Kt 27 w w') : Ss B w' v l := by
  obtain ⟨zs, a, b, c⟩ := h
  exact ⟨zs, a, own_kept b h3, fun i hi hz => (c i hi hz).kept h1 h2⟩
theorem Ss.stay {B : Nat} {w w' : World} {v : Value} {l : List Sn} (h : Ss B w v l) (hb : Below w.heap.size w w') : Ss B w' v l := h.kept (Kt.below hb) (Kt.below hb) (Kt.below hb)
theorem Ss.mono {B B' : Nat} {w : World} {v : Value} {l : List Sn} (h : Ss B w v l) (hB : B' ≤ B) : Ss B' w v l := by
  obtain ⟨zs, a, b, c⟩ := h
  exact ⟨zs, a, World.ownsRow.mono b hB, fun i hi hz => ⟨(c i hi hz).1.imp fun k _ hk => Nat.le_trans hB hk, World.ownsRow.mono (c i hi hz).2 hB⟩⟩
theorem Ss.nil (B : Nat) (w : World) : Ss B w (.slice none 0 0) [] := ⟨[], rfl, World.ownsRow_nil _ _ _ _, fun _ hi => absurd hi (Nat.not_lt_zero _)⟩
theorem Ss.shape {B : Nat} {w : World} {v : Value} {l : List Sn} (h : Ss B w v l) : ∃ a c, v = .slice a l.length c := by
  obtain ⟨zs, a, b, c⟩ := h
  rcases b.2 with ⟨h1, h2⟩ | ⟨g, cap, cur, h1, _⟩
  · exact ⟨none, 0, by rw [h1, h2]⟩
  · exact ⟨_, _, h1⟩
theorem sent_info3 : (Tryz.prog.info? 27).map (fun i => (i.zero, i.size, i.bytes)) = some (some (.agg #[.int .i64 0, .int .i64 0, .string ⟨#[]⟩, .slice none 0 0, .slice none 0 0]), 5, 80) := by kernel_rfl

set_option maxHeartbeats 1000000 in
theorem catch_idle (p q r : Addr) (w : World) :
    CallsD Tryz.prog 37 #[.pointer (some p), .pointer (some q), .pointer (some r)] .returning w fun e u' w' => e = .returned (.tuple #[]) ∧ u' = .returning ∧ w = w' := by
  refine callsD_of_wpS Tryz.func37 rfl fun c₀ cs hu => ?_
  apply wpS_seq
  apply wpS_region
  simp [wpOpsS, go_sem, recoverD, hu, Tryz.ntmps37, Exit.thenS]
  refine wpS_rest (u' := .returning) (by cases c₀; simp_all) ?_
  clear hu
  go_wp2
  go_end0
  exact ⟨rfl, rfl⟩
theorem catch_post (w : World) (a p k : Nat) {v0 v1 v2 : Value} (x0 : ∀ o, (w.alloc o).cell? ⟨a, 0, none⟩ = some v0) (x1 : ∀ o, (w.alloc o).cell? ⟨a + 1, 0, none⟩ = some v1) (x2 : ∀ o, (w.alloc o).cell? ⟨a + 2, 0, none⟩ = some v2) (hl : a + 2 < w.heap.size) {o : Obj} :
    Ending.returned (.tuple #[]) = .returned (.tuple #[]) ∧ FrameMode.panicking [{ v := .iface 67 (.agg #[.int .i64 (p : Nat), .int .i64 (k : Nat)]), recovered := true }] = FrameMode.panicking [{ v := .iface 67 (.agg #[.int .i64 (p : Nat), .int .i64 (k : Nat)]), recovered := true }] ∧
      (((((w.alloc o).setCell ⟨a, 0, none⟩ (.slice none 0 0)).setCell ⟨a + 1, 0, none⟩ (.int .i64 (p : Nat))).setCell ⟨a + 2, 0, none⟩ (.int .i64 (k : Nat))).drew).cell? ⟨a, 0, none⟩ = some (.slice none 0 0) ∧
      (((((w.alloc o).setCell ⟨a, 0, none⟩ (.slice none 0 0)).setCell ⟨a + 1, 0, none⟩ (.int .i64 (p : Nat))).setCell ⟨a + 2, 0, none⟩ (.int .i64 (k : Nat))).drew).cell? ⟨a + 1, 0, none⟩ = some (.int .i64 (p : Nat)) ∧
      (((((w.alloc o).setCell ⟨a, 0, none⟩ (.slice none 0 0)).setCell ⟨a + 1, 0, none⟩ (.int .i64 (p : Nat))).setCell ⟨a + 2, 0, none⟩ (.int .i64 (k : Nat))).drew).cell? ⟨a + 2, 0, none⟩ = some (.int .i64 (k : Nat)) ∧
      Below a w ((((w.alloc o).setCell ⟨a, 0, none⟩ (.slice none 0 0)).setCell ⟨a + 1, 0, none⟩ (.int .i64 (p : Nat))).setCell ⟨a + 2, 0, none⟩ (.int .i64 (k : Nat))).drew := by
  have n01 : (⟨a, 0, none⟩ : Addr) ≠ ⟨a + 1, 0, none⟩ := by intro e; cases e
  have n02 : (⟨a, 0, none⟩ : Addr) ≠ ⟨a + 2, 0, none⟩ := by intro e; injection e; omega
  have n12 : (⟨a + 1, 0, none⟩ : Addr) ≠ ⟨a + 2, 0, none⟩ := by intro e; injection e; omega
  have hx0 := x0 o
  have hx1 := x1 o
  have hx2 := x2 o
  refine ⟨rfl, rfl, ?_, ?_, ?_, ((((Below.refl a w).alloc (by omega) o).setCell (p := ⟨a, 0, none⟩) (Nat.le_refl _) _).setCell (p := ⟨a + 1, 0, none⟩) (Nat.le_succ _) _).setCell (p := ⟨a + 2, 0, none⟩) (by show a ≤ a + 2; omega) _ |>.drew⟩
  · show World.cell? (World.setCell _ _ _) _ = _
    rw [World.cell?_setCell_other _ _ _ _ n02.symm, World.cell?_setCell_other _ _ _ _ n01.symm, World.cell?_setCell_same _ _ _ hx0]
  · show World.cell? (World.setCell _ _ _) _ = _
    rw [World.cell?_setCell_other _ _ _ _ n12.symm, World.cell?_setCell_same _ _ _ ((World.cell?_setCell_other _ _ _ _ n01).trans hx1)]
  · show World.cell? (World.setCell _ _ _) _ = _
    rw [World.cell?_setCell_same _ _ _ ((World.cell?_setCell_other _ _ _ _ n12).trans ((World.cell?_setCell_other _ _ _ _ n02).trans hx2))]

set_option maxHeartbeats 1000000 in
theorem catch_wrong (a : Nat) (w : World) (p k : Nat) {v1 v2 : Int} {sa : Option Addr} {sn sc : Nat} (h0 : w.cell? ⟨a, 0, none⟩ = some (.slice sa sn sc)) (h1 : w.cell? ⟨a + 1, 0, none⟩ = some (.int .i64 v1)) (h2 : w.cell? ⟨a + 2, 0, none⟩ = some (.int .i64 v2))
    (f0 : w.frozen? ⟨a, 0, none⟩ = false) (f1 : w.frozen? ⟨a + 1, 0, none⟩ = false) (f2 : w.frozen? ⟨a + 2, 0, none⟩ = false) (hl : a + 2 < w.heap.size) :
    CallsD Tryz.prog 37 #[.pointer (some ⟨a, 0, none⟩), .pointer (some ⟨a + 1, 0, none⟩), .pointer (some ⟨a + 2, 0, none⟩)] (.panicking [{ v := .iface 67 (.agg #[.int .i64 (p : Nat), .int .i64 (k : Nat)]), recovered := false }]) w fun e u' w' =>
      e = .returned (.tuple #[]) ∧ u' = .panicking [{ v := .iface 67 (.agg #[.int .i64 (p : Nat), .int .i64 (k : Nat)]), recovered := true }] ∧
        w'.cell? ⟨a, 0, none⟩ = some (.slice none 0 0) ∧ w'.cell? ⟨a + 1, 0, none⟩ = some (.int .i64 (p : Nat)) ∧ w'.cell? ⟨a + 2, 0, none⟩ = some (.int .i64 (k : Nat)) ∧ Below a w w' := by
  refine callsD_of_wpS Tryz.func37 rfl fun c₀ cs hu => ?_
  apply wpS_seq
  apply wpS_region
  simp [wpOpsS, go_sem, recoverD, hu, Tryz.ntmps37, Exit.thenS]
  refine wpS_rest (u' := .panicking [{ v := .iface 67 (.agg #[.int .i64 (p : Nat), .int .i64 (k : Nat)]), recovered := true }]) (by cases c₀; simp_all) ?_
  clear hu
  rw [show (#[.pointer (some ⟨a, 0, none⟩), .pointer (some ⟨a + 1, 0, none⟩), .pointer (some ⟨a + 2, 0, none⟩)] ++ (Array.replicate 13 undef).setIfInBounds 3 (.iface 67 (.agg #[.int .i64 (p : Nat), .int .i64 (k : Nat)])) : Array Value) = #[.pointer (some ⟨a, 0, none⟩), .pointer (some ⟨a + 1, 0, none⟩), .pointer (some ⟨a + 2, 0, none⟩), undef, undef, undef, .iface 67 (.agg #[.int .i64 (p : Nat), .int .i64 (k : Nat)]), undef, undef, undef, undef, undef, undef, undef, undef, undef] from rfl]
  have x0 : ∀ o, (w.alloc o).cell? ⟨a, 0, none⟩ = some (.slice sa sn sc) := fun o => (World.cell?_of_block (Lib.alloc_old w o a (by omega))).trans h0
  have x1 : ∀ o, (w.alloc o).cell? ⟨a + 1, 0, none⟩ = some (.int .i64 v1) := fun o => (World.cell?_of_block (Lib.alloc_old w o (a + 1) (by omega))).trans h1
  have x2 : ∀ o, (w.alloc o).cell? ⟨a + 2, 0, none⟩ = some (.int .i64 v2) := fun o => (World.cell?_of_block (Lib.alloc_old w o (a + 2) (by omega))).trans h2
  have y0 : ∀ o, (w.alloc o).frozen? ⟨a, 0, none⟩ = false := fun o => (World.frozen?_of_block (Lib.alloc_old w o a (by omega))).trans f0
  have y1 : ∀ o, (w.alloc o).frozen? ⟨a + 1, 0, none⟩ = false := fun o => (World.frozen?_of_block (Lib.alloc_old w o (a + 1) (by omega))).trans f1
  have y2 : ∀ o, (w.alloc o).frozen? ⟨a + 2, 0, none⟩ = false := fun o => (World.frozen?_of_block (Lib.alloc_old w o (a + 2) (by omega))).trans f2
  have z0 : ¬ a = w.heap.size := by omega
  have z1 : ¬ a + 1 = w.heap.size := by omega
  have z2 : ¬ a + 2 = w.heap.size := by omega
  have hta : ∀ w, (Instr.typeAssert (.iface 67 (.agg #[.int .i64 (p : Nat), .int .i64 (k : Nat)])) 20 67 true).run Tryz.prog w = .ok (.tuple #[.agg #[.int .i64 (p : Nat), .int .i64 (k : Nat)], .bool true]) w := fun _ => by kernel_rfl
  go_wp2
  go_region
  all_goals
    go_wp2
    go_end0
    exact ⟨rfl, (catch_post w a p k x0 x1 x2 hl).2.2⟩
end Go.Proofs.YtcdmmcogegnieaaGreatDoor.rd
end
section
/- The program's reader: sentences. -/
namespace Go.Proofs.YtcdmmcogegnieaaGreatDoor.rd
open Go.RowKit
open Go.Proofs.YtcdmmcogegnieaaGreatDoor.op (bs strC Both Tb)
open Go.Proofs.YtcdmmcogegnieaaGreatDoor.lx (Tok Tk tcell tcells cell_at ieq_yes ieq_no)
set_option maxRecDepth 20000

def appE (l : List Sn) (x : Except Nat (List Sn)) : Except Nat (List Sn) := match x with | .error k => .error k | .ok t => .ok (l ++ t)
theorem sents_nil (f : Nat) (l : List Sn) : appE l (sentsP f []) = .ok l := by
  cases f <;> simp [sentsP, appE]
theorem sents_err (f : Nat) (l : List Sn) {M : List K} (h : M ≠ []) {k : Nat} (hs : sentP M = .error k) : appE l (sentsP (f + 1) M) = .error k := by
  rw [sentsP, if_neg h, hs]; rfl
theorem sents_go (f : Nat) (l : List Sn) {M r : List K} (h : M ≠ []) {t : Sn} (hs : sentP M = .ok (t, r)) : appE l (sentsP (f + 1) M) = appE (l ++ [t]) (sentsP f r) := by
  rw [sentsP, if_neg h, hs]
  dsimp only
  cases sentsP f r <;> simp [appE]
/-- what sentences gives -/
def NQ (w : World) (x : Except Nat (List Sn)) (en : Ending) (w' : World) : Prop :=
  match x with
  | .ok l => ∃ v, en = .returned (.tuple #[v, .int .i64 0, .int .i64 0]) ∧ Ss w.heap.size w' v l ∧ Below w.heap.size w w'
  | .error k => ∃ p : Nat, en = .returned (.tuple #[.slice none 0 0, .int .i64 (p : Nat), .int .i64 (k : Nat)]) ∧ Below w.heap.size w w'
theorem alloc4 (w : World) (o1 o2 o3 o4 : Obj) : ((((w.alloc o1).alloc o2).alloc o3).alloc o4).heap[w.heap.size]? = some o1 ∧ ((((w.alloc o1).alloc o2).alloc o3).alloc o4).heap[w.heap.size + 1]? = some o2 ∧ ((((w.alloc o1).alloc o2).alloc o3).alloc o4).heap[w.heap.size + 1 + 1]? = some o3 ∧
    ((((w.alloc o1).alloc o2).alloc o3).alloc o4).heap[w.heap.size + 1 + 1 + 1]? = some o4 ∧ ((((w.alloc o1).alloc o2).alloc o3).alloc o4).heap.size = w.heap.size + 1 + 1 + 1 + 1 ∧ Below w.heap.size w ((((w.alloc o1).alloc o2).alloc o3).alloc o4) := by
  obtain ⟨h1, h2, h3, h4, h5⟩ := alloc3 w o1 o2 o3
  have h6 := heap_alloc_new (((w.alloc o1).alloc o2).alloc o3) o4
  rw [h4] at h6
  exact ⟨(Lib.alloc_old _ o4 _ (by omega)).trans h1, (Lib.alloc_old _ o4 _ (by omega)).trans h2, (Lib.alloc_old _ o4 _ (by omega)).trans h3, h6, by rw [size_alloc, h4], h5.alloc (by omega) o4⟩
/-- how the loop stands -/
structure Sl (a : Nat) (tk : Value) (L : List Tok) (e j : Nat) (v : Value) (l : List Sn) (w wr : World) : Prop where
  rd : ∃ b nv nm, Rd (a + 1 + 1 + 1) b tk L e j nv nm wr
  c0 : wr.heap[a]? = some (.cells #[v] 39 (0, 0))
  c1 : wr.heap[a + 1]? = some (.cells #[.int .i64 0] 3 (0, 0))
  c2 : wr.heap[a + 1 + 1]? = some (.cells #[.int .i64 0] 28 (0, 0))
  ss : Ss a wr v l
  bl : Below a w wr
  len : l.length ≤ j

theorem sents_done {a e j : Nat} {tk v : Value} {L : List Tok} {l : List Sn} {w wr : World} (h : Sl a tk L e j v l w wr) (ha : w.heap.size = a) {X : Except Nat (List Sn)} (hX : X = .ok l) :
    NQ w X (.returned (.tuple #[v, .int .i64 0, .int .i64 0])) (((wr.setCell ⟨a, 0, none⟩ v).setCell ⟨a + 1, 0, none⟩ (.int .i64 0)).setCell ⟨a + 1 + 1, 0, none⟩ (.int .i64 0)) := by
  subst hX
  have p1 : (wr.setCell ⟨a, 0, none⟩ v).heap[a + 1]? = _ := (Below.heap_setCell wr ⟨a, 0, none⟩ v (a + 1) (by show a + 1 ≠ a; omega)).trans h.c1
  have p2 : ((wr.setCell ⟨a, 0, none⟩ v).setCell ⟨a + 1, 0, none⟩ (.int .i64 0)).heap[a + 1 + 1]? = _ := (Below.heap_setCell _ ⟨a + 1, 0, none⟩ _ (a + 1 + 1) (by show a + 1 + 1 ≠ a + 1; omega)).trans ((Below.heap_setCell wr ⟨a, 0, none⟩ v (a + 1 + 1) (by show a + 1 + 1 ≠ a; omega)).trans h.c2)
  have kt : ∀ (ty : TypeId), ty ≠ 39 → ty ≠ 3 → ty ≠ 28 → Kt ty wr (((wr.setCell ⟨a, 0, none⟩ v).setCell ⟨a + 1, 0, none⟩ (.int .i64 0)).setCell ⟨a + 1 + 1, 0, none⟩ (.int .i64 0)) := fun ty h1 h2 h3 =>
    ((kt_set (p := ⟨a, 0, none⟩) h.c0 h1).trans (kt_set (p := ⟨a + 1, 0, none⟩) p1 h2)).trans (kt_set (p := ⟨a + 1 + 1, 0, none⟩) p2 h3)
  have hbl : Below a w (((wr.setCell ⟨a, 0, none⟩ v).setCell ⟨a + 1, 0, none⟩ (.int .i64 0)).setCell ⟨a + 1 + 1, 0, none⟩ (.int .i64 0)) :=
    ((h.bl.setCell (p := ⟨a, 0, none⟩) (Nat.le_refl _) _).setCell (p := ⟨a + 1, 0, none⟩) (Nat.le_succ _) _).setCell (p := ⟨a + 1 + 1, 0, none⟩) (by show a ≤ a + 1 + 1; omega) _
  generalize World.setCell _ _ _ = W at *
  refine ⟨v, rfl, ?_, by rw [ha]; exact hbl⟩
  rw [ha]
  exact h.ss.kept (kt _ (by decide) (by decide) (by decide)) (kt _ (by decide) (by decide) (by decide)) (kt _ (by decide) (by decide) (by decide))
theorem catch3 {a e j q : Nat} {tk : Value} {va : Option Addr} {vn vc : Nat} {L : List Tok} {l : List Sn} {w wr w6 : World} (h : Sl a tk L e j (.slice va vn vc) l w wr) (hb : Below (a + 1 + 1 + 1) (wr.drewN q) w6) (p k : Nat) :
    CallsD Tryz.prog 37 #[.pointer (some ⟨a, 0, none⟩), .pointer (some ⟨a + 1, 0, none⟩), .pointer (some ⟨a + 1 + 1, 0, none⟩)] (.panicking [{ v := .iface 67 (.agg #[.int .i64 (p : Nat), .int .i64 (k : Nat)]), recovered := false }]) w6 fun e u' w' =>
      e = .returned (.tuple #[]) ∧ u' = .panicking [{ v := .iface 67 (.agg #[.int .i64 (p : Nat), .int .i64 (k : Nat)]), recovered := true }] ∧
        w'.cell? ⟨a, 0, none⟩ = some (.slice none 0 0) ∧ w'.cell? ⟨a + 1, 0, none⟩ = some (.int .i64 (p : Nat)) ∧ w'.cell? ⟨a + 1 + 1, 0, none⟩ = some (.int .i64 (k : Nat)) ∧ Below a w w' := by
  have e0 := (hb.block a (by omega)).trans h.c0
  have e1 := (hb.block (a + 1) (by omega)).trans h.c1
  have e2 := (hb.block (a + 1 + 1) (by omega)).trans h.c2
  refine (catch_wrong a w6 p k (by rw [cell_at e0]; rfl) (by rw [cell_at e1]; rfl) (by rw [show a + 2 = a + 1 + 1 from rfl, cell_at e2]; rfl) (by simp [World.frozen?, e0]) (by simp [World.frozen?, e1]) (by simp [World.frozen?, e2]) (lt_of e2)).mono ?_
  rintro en u' w'' ⟨h1, h2, h3, h4, h5, h6⟩
  exact ⟨h1, h2, h3, h4, h5, (h.bl.trans ((below_drawn a wr q).trans (hb.mono (by omega)))).trans h6⟩
theorem grown_ktv {B z n : Nat} {w w4 : World} {o : Obj} {v : Value} {xs : List Value} {t u : TypeId} (hown : w.ownsRow B u z v n xs) (h : (w.alloc o).grownBy w4 v.ownBlock) (hn : t ≠ u) : Kt t w w4 := fun k ds fr hk => by
  rw [h.block k (by have := lt_of hk; simp; omega) (fun e => by
    rcases hown.2 with ⟨h1, _⟩ | ⟨g, cap, cur, h1, _, h3, _⟩
    · rw [h1] at e; cases e
    · rw [h1] at e; cases e; rw [h3] at hk; cases hk; exact hn rfl), Lib.alloc_old w _ k (lt_of hk)]; exact hk
theorem grown_belowv {B z n : Nat} {w w4 : World} {o : Obj} {v : Value} {xs : List Value} {u : TypeId} (hown : w.ownsRow B u z v n xs) (h : (w.alloc o).grownBy w4 v.ownBlock) (hw : B ≤ w.heap.size) : Below B w w4 :=
  ⟨h.os, h.tape, h.output, Nat.le_trans (by simp) h.size, fun k hk => by rw [h.block k (by simp; omega) (fun e => by have := (World.ownsRow.lt hown k e.symm).1; omega), Lib.alloc_old w _ k (by omega)]⟩
theorem scells_zip (l : List Sn) (zs : List (Value × Value)) (t : Sn) (z : Value × Value) (h : zs.length = l.length) : scells (l.zip zs) ++ scell t z = scells ((l ++ [t]).zip (zs ++ [z])) := by
  rw [zip_snoc _ _ _ _ h, scells_append]; simp [scells]
/-- one sentence more -/
theorem Sl.push {a e j : Nat} {tk v v' : Value} {L : List Tok} {l : List Sn} {w w6 w7 : World} {o : Obj} {t : Sn} {z : Value × Value} {zs : List (Value × Value)} (h : Sl a tk L e j v l w w6) (hzs : zs.length = l.length) (hown : w6.ownsRow a 27 5 v l.length (scells (l.zip zs)))
    (hall : ∀ i (hi : i < l.length) (hz : i < zs.length), Hg a w6 l[i] zs[i]) (ht : Hg a w6 t z) (hgr : (w6.alloc o).grownBy w7 v.ownBlock) (hn : w7.ownsRow a 27 5 v' (l.length + 1) (scells (l.zip zs) ++ scell t z)) (hl : l.length + 1 ≤ j) (ha : 2 ≤ a) :
    Sl a tk L e j v' (l ++ [t]) w (w7.setCell ⟨a, 0, none⟩ v') := by
  have hk := fun ty (hty : ty ≠ 27) => grown_ktv (t := ty) hown hgr hty
  have hbl := grown_belowv hown hgr (by have := lt_of h.c0; omega)
  have c0 := hk _ (by decide) _ _ _ h.c0
  have kk : ∀ ty, ty ≠ 27 → ty ≠ 39 → Kt ty w6 (w7.setCell ⟨a, 0, none⟩ v') := fun ty h1 h2 => (hk ty h1).trans (kt_set (p := ⟨a, 0, none⟩) c0 h2)
  have ks : Kt 27 w7 (w7.setCell ⟨a, 0, none⟩ v') := kt_set (p := ⟨a, 0, none⟩) c0 (by decide)
  obtain ⟨b, nv, nm, hR⟩ := h.rd
  have hb2 : Below a w6 (w7.setCell ⟨a, 0, none⟩ v') := hbl.setCell (p := ⟨a, 0, none⟩) (Nat.le_refl _) _
  refine ⟨⟨b, nv, nm, ?_⟩, by rw [heap_set_at c0]; rfl, kk _ (by decide) (by decide) _ _ _ h.c1, kk _ (by decide) (by decide) _ _ _ h.c2, ?_, h.bl.trans hb2, by rw [List.length_append, List.length_singleton]; omega⟩
  · have hlo := hR.tb
    exact ⟨kk _ (by decide) (by decide) _ _ _ hR.blk, own_kept hR.toks (kk _ (by decide) (by decide)), own_kept hR.names (kk _ (by decide) (by decide)), hR.le, hR.nml, both_low hR.tb (hb2.mono ha), hR.lo, hR.rb, Nat.le_trans hR.bz hb2.size, hR.good, hR.en⟩
  · refine ⟨zs ++ [z], by rw [List.length_append, List.length_append, hzs]; rfl, ?_, fun i hi hz => ?_⟩
    · rw [List.length_append, List.length_singleton, ← scells_zip _ _ _ _ hzs]; exact own_kept hn ks
    · have hg : Hg a w6 (l ++ [t])[i] (zs ++ [z])[i] := by
        by_cases hil : i < l.length
        · rw [List.getElem_append_left hil, List.getElem_append_left (by omega)]; exact hall i hil (by omega)
        · have hie : i = l.length := by rw [List.length_append, List.length_singleton] at hi; omega
          subst hie
          simp [hzs]
          exact ht
      exact hg.kept (kk _ (by decide) (by decide)) (kk _ (by decide) (by decide))
theorem own_shape {w : World} {B z n : Nat} {u : TypeId} {v : Value} {xs : List Value} (h : w.ownsRow B u z v n xs) : ∃ a m c, v = .slice a m c := by
  rcases h.2 with ⟨h1, _⟩ | ⟨g', cap, cur, h1, _⟩ <;> exact ⟨_, _, _, h1⟩
theorem snews (W : World) (t : Sn) (z : Value × Value) : ∀ j u, (scell t z)[j]? = some u → (W.alloc (.cells (scell t z).toArray 27)).cell? ((⟨W.heap.size, 0, none⟩ : Addr).add j) = some u := by
  intro j u hj
  rw [op.addr_add, cell_at (heap_alloc_new W _)]
  simpa using hj
theorem snews_one (t : Sn) (z : Value × Value) (h1 : z.1.oneCell' = true) (h2 : z.2.oneCell' = true) : ∀ u ∈ scell t z, u.oneCell' = true := by
  intro u hu; simp [scell, tv] at hu; rcases hu with rfl | rfl | rfl | rfl | rfl <;> first | rfl | exact h1 | exact h2
/-- a sentence has come -/
theorem sent_got {a e j i6 b6 q : Nat} {tk : Value} {va : Option Addr} {vc : Nat} {L : List Tok} {l : List Sn} {w wr w6 : World} {t : Sn} {av nvs : Value} {zs : List (Value × Value)} (h : Sl a tk L e j (.slice va l.length vc) l w wr) (hi : j < i6) (hR : Rd (a + 1 + 1 + 1) b6 tk L e i6 nvs t.2 w6) (hF : Fr (a + 1 + 1 + 1) (wr.drewN q).heap.size (wr.drewN q) w6)
    (hown : wr.ownsRow a 27 5 (.slice va l.length vc) l.length (scells (l.zip zs))) (hall : ∀ i (hi : i < l.length) (hz : i < zs.length), Hg a wr l[i] zs[i])
    (hT : Rp (fun k => (wr.drewN q).heap.size ≤ k) w6 t.1 av) (hN : w6.ownsRow (wr.drewN q).heap.size 9 1 nvs t.2.length (strC (t.2.map bs))) :
    Hid (Sl a tk L e i6 (.slice va l.length vc) l w w6) ∧ Hid (w6.ownsRow a 27 5 (.slice va l.length vc) l.length (scells (l.zip zs))) ∧ Hid (∀ i (hi : i < l.length) (hz : i < zs.length), Hg a w6 l[i] zs[i]) ∧ Hid (Hg a w6 t (av, nvs)) ∧
      w6.cell? ⟨a, 0, none⟩ = some (.slice va l.length vc) ∧ ∀ o, (w6.alloc o).cell? ⟨a, 0, none⟩ = some (.slice va l.length vc) := by
  have hl0 := lt_of h.c0
  obtain ⟨b0, nv0, nm0, hR0⟩ := h.rd
  have hk : ∀ ty, ty ≠ 70 → Kt ty wr w6 := fun ty hty k cs fr hk => by
    rw [hF.block k (lt_of hk) (fun e => by subst e; rw [hR0.blk] at hk; cases hk; exact hty rfl) (.inl (lt_of hk))]; exact hk
  have hz : a ≤ (wr.drewN q).heap.size := Nat.le_of_lt hl0
  have hb : Below a wr w6 := ⟨hF.os, hF.tape, hF.output, hF.size, fun k hk => hF.block k (Nat.lt_trans hk hl0) (by omega) (.inl (Nat.lt_trans hk hl0))⟩
  have c0 := hk _ (by decide) _ _ _ h.c0
  exact ⟨Lib.hid ⟨⟨_, _, _, hR⟩, c0, hk _ (by decide) _ _ _ h.c1, hk _ (by decide) _ _ _ h.c2, h.ss.kept (hk _ (by decide)) (hk _ (by decide)) (hk _ (by decide)), h.bl.trans hb, by have := h.len; omega⟩, Lib.hid (own_kept hown (hk _ (by decide))),
    Lib.hid (fun i hi hz => (hall i hi hz).kept (hk _ (by decide)) (hk _ (by decide))), Lib.hid ⟨hT.imp fun k _ hk => Nat.le_trans hz hk, World.ownsRow.mono hN hz⟩, by rw [cell_at c0]; rfl, fun o => by rw [cell_at ((Lib.alloc_old w6 o a (lt_of c0)).trans c0)]; rfl⟩
set_option maxHeartbeats 4000000 in
theorem sentences_c {e : Nat} {tk : Value} {L : List Tok} {w : World} (hT : Tk 0 w tk L) (hg : Good L) (hb : Both w) (hz : 2 ≤ w.heap.size) (he : e ≤ 4096) :
    Calls Tryz.prog 22 #[tk, .int .i64 (e : Nat)] w (NQ w (sentsP L.length (ab L))) := by
  have hmf : ∀ (fn : Fn) (first cap : Array Value) (w : World), (Instr.makeFunc fn first cap).run Tryz.prog w = .ok (.func fn first cap) w := fun _ _ _ _ => rfl
  obtain ⟨ta, tc, rfl⟩ := hT.shape
  obtain ⟨b0, b1, b2, b3, hzW, hBW⟩ := alloc4 w (.cells #[.slice none 0 0] 39) (.cells #[.int .i64 0] 3) (.cells #[.int .i64 0] 28) (.cells #[.slice ta L.length tc, .int .i64 (e : Nat), .int .i64 0, .slice none 0 0] 70)
  have hl := hg.len
  generalize hW : World.alloc (World.alloc (World.alloc (World.alloc w _) _) _) _ = W at b0 b1 b2 b3 hzW hBW
  have hR : Rd (w.heap.size + 1 + 1 + 1) W.heap.size (.slice ta L.length tc) L e 0 (.slice none 0 0) [] W :=
    ⟨b3, own_kept hT (Kt.below hBW), World.ownsRow_nil _ _ _ _, Nat.zero_le _, Nat.le_refl _, hb.kept hBW, by omega, by omega, Nat.le_refl _, hg, he⟩
  have HS := Lib.hid (show Sl w.heap.size (.slice ta L.length tc) L e 0 (.slice none 0 0) [] w W from ⟨⟨_, _, _, hR⟩, b0, b1, b2, Ss.nil _ _, hBW, Nat.le_refl _⟩)
  have hX0 : sentsP L.length (ab L) = appE [] (sentsP L.length ((ab L).drop 0)) := by rw [List.drop_zero]; cases sentsP L.length (ab L) <;> rfl
  generalize sentsP L.length (ab L) = X at hX0 ⊢
  have HX := Lib.hid hX0
  clear hR b0 b1 b2 b3 hT hb hBW hX0
  generalize hae : w.heap.size = a at *
  go_enter_defers Tryz.func22, Tryz.ntmps22
  go_wp2_with fail
  clear hW
  go_loopg [] (L.length) (fun k wr => ∃ (j : Nat) (v : Value) (l : List Sn) (f : Nat), k = L.length - j ∧ L.length - j ≤ f ∧ Hid (Sl a (.slice ta L.length tc) L e j v l w wr) ∧ Hid (X = appE l (sentsP f ((ab L).drop j))))
  case atStart => exact ⟨0, _, [], L.length, by omega, by omega, HS, HX⟩
  case round =>
    clear HS HX
    obtain ⟨j, v, l, f, hgk, hf, HS, HX⟩ := hrel
    obtain ⟨b, nv, nm, hR⟩ := HS.out.rd
    obtain ⟨va, vc, rfl⟩ := HS.out.ss.shape
    have hjl := hR.le
    have d2 : wr.cell? ⟨a + 1 + 1 + 1, 2, none⟩ = some (.int .i64 (j : Nat)) := by rw [hR.cell]; rfl
    have d0 : wr.cell? ⟨a, 0, none⟩ = some (.slice va l.length vc) := by rw [cell_at HS.out.c0]; rfl
    have d1 : wr.cell? ⟨a + 1, 0, none⟩ = some (.int .i64 0) := by rw [cell_at HS.out.c1]; rfl
    have d3 : wr.cell? ⟨a + 1 + 1, 0, none⟩ = some (.int .i64 0) := by rw [cell_at HS.out.c2]; rfl
    have f0 : wr.frozen? ⟨a, 0, none⟩ = false := by simp [World.frozen?, HS.out.c0]
    have f1 : wr.frozen? ⟨a + 1, 0, none⟩ = false := by simp [World.frozen?, HS.out.c1]
    have f2 : wr.frozen? ⟨a + 1 + 1, 0, none⟩ = false := by simp [World.frozen?, HS.out.c2]
    have HR := Lib.hid hR
    clear hR
    by_cases hlt : j < L.length
    · have hlt2 : (j : Int) < L.length := by omega
      have kx : ∀ q, Calls Tryz.prog 38 #[.pointer (some ⟨a + 1 + 1 + 1, 0, none⟩)] (wr.drewN q) (SQ (a + 1 + 1 + 1) (.slice ta L.length tc) L e j (wr.drewN q) (sentP ((ab L).drop j))) := fun q => sentence_c (HR.out.drew q)
      have hne : (ab L).drop j ≠ [] := by
        intro h
        have := congrArg List.length h
        rw [List.length_drop, ab_len] at this
        simp at this; omega
      obtain ⟨f, rfl⟩ : ∃ f', f = f' + 1 := ⟨f - 1, by omega⟩
      rcases hx : sentP ((ab L).drop j) with k | ⟨t, rest⟩
      · rw [hx] at kx
        have hX2 := Lib.hid (HX.out.trans (sents_err f l hne hx))
        clear HX hne hx
        go_wp2_with fail
        refine wp_region_any (by kernel_rfl) ?_
        change wpAny _ _ _ _ _ _ _ (World.drew _)
        refine wpAny_ready (rs := [0, 1]) (by kernel_rfl) (by simp) ?_
        refine AllReady.cons rfl (fun K hK => ?_) (AllReady.cons rfl (fun K hK => ?_) AllReady.nil)
        · go_simp
          refine hK _ _ ?_; clear hK K
          refine wpAny_ready (rs := [1]) (by kernel_rfl) (by simp) ?_
          refine AllReady.cons rfl (fun K hK => ?_) AllReady.nil
          go_simp
          refine hK _ _ ?_; clear hK K
          refine wpAny_ready (rs := [2]) (by kernel_rfl) (by simp) ?_
          refine AllReady.cons rfl (fun K hK => ?_) AllReady.nil
          go_simp
          refine (kx 1).mono ?_
          rintro en w6 ⟨p6, rfl, hb⟩
          unfold Wr
          refine leaves_cons (f := 37) (args := #[.pointer (some ⟨a, 0, none⟩), .pointer (some ⟨a + 1, 0, none⟩), .pointer (some ⟨a + 1 + 1, 0, none⟩)]) (by simp) (by simp [go_sem]) ?_
          refine (catch3 HS.out hb p6 k).mono ?_
          rintro en u' w'' ⟨rfl, rfl, g0, g1, g2, gb⟩
          simp [Leaves, settle, results, Tryz.results22, go_sem, g0, g1, g2]
          rw [hX2.out]
          exact ⟨p6, rfl, by rw [hae]; exact gb⟩
        · go_simp
          refine hK _ _ ?_; clear hK K
          refine wpAny_ready (rs := [0, 2]) (by kernel_rfl) (by simp) ?_
          refine AllReady.cons rfl (fun K hK => ?_) (AllReady.cons rfl (fun K hK => ?_) AllReady.nil)
          · go_simp
            refine hK _ _ ?_; clear hK K
            refine wpAny_ready (rs := [2]) (by kernel_rfl) (by simp) ?_
            refine AllReady.cons rfl (fun K hK => ?_) AllReady.nil
            go_simp
            refine (kx 1).mono ?_
            rintro en w6 ⟨p6, rfl, hb⟩
            unfold Wr
            refine leaves_cons (f := 37) (args := #[.pointer (some ⟨a, 0, none⟩), .pointer (some ⟨a + 1, 0, none⟩), .pointer (some ⟨a + 1 + 1, 0, none⟩)]) (by simp) (by simp [go_sem]) ?_
            refine (catch3 HS.out hb p6 k).mono ?_
            rintro en u' w'' ⟨rfl, rfl, g0, g1, g2, gb⟩
            simp [Leaves, settle, results, Tryz.results22, go_sem, g0, g1, g2]
            rw [hX2.out]
            exact ⟨p6, rfl, by rw [hae]; exact gb⟩
          · go_simp
            refine (kx 1).mono ?_
            rintro en w6 ⟨p6, rfl, hb⟩
            unfold Wr
            refine leaves_cons (f := 37) (args := #[.pointer (some ⟨a, 0, none⟩), .pointer (some ⟨a + 1, 0, none⟩), .pointer (some ⟨a + 1 + 1, 0, none⟩)]) (by simp) (by simp [go_sem]) ?_
            refine (catch3 HS.out hb p6 k).mono ?_
            rintro en u' w'' ⟨rfl, rfl, g0, g1, g2, gb⟩
            simp [Leaves, settle, results, Tryz.results22, go_sem, g0, g1, g2]
            rw [hX2.out]
            exact ⟨p6, rfl, by rw [hae]; exact gb⟩
      · rw [hx] at kx
        have hX2 := Lib.hid (HX.out.trans (sents_go f l hne hx))
        obtain ⟨zs, hzl, hown, hall⟩ := HS.out.ss
        obtain ⟨i0, hi, hz0, hz1, hz2⟩ := info_parts sent_info3
        have Hown := Lib.hid hown
        have Hall := Lib.hid hall
        have hlj := HS.out.len
        clear HX hne hx hown hall
        go_wp2_with fail
        refine wp_region_noPanic ?_
        go_region_law (first
          | (refine step_append_lies _ rfl (.tmp 20) (.tmp 23) 39 rfl a 27 i0 _ 5 80 Tryz.underlying39 hi hz0 hz1 hz2 rfl (by decide) (.slice va l.length vc) l.length (scells (l.zip zs)) (by simp [Act.eval]) (World.ownsRow.alloc HO6.out _) ⟨w6.heap.size, 0, none⟩ 1 1 (scell t (.slice ap an ac, .slice na nn nc)) (by simp [Act.eval]) rfl (snews w6 _ _) (snews_one _ _ rfl rfl) (by omega) (by unfold maxLen; omega) (by omega) (by have := lt_of HS6.out.c0; simp; omega) _ rfl ?_; intro g7 cap7 w7 hn7 hgr7 hat7 hlt7; have HP7 := Lib.hid (HS6.out.push hzl HO6.out HA6.out HH6.out hgr7 hn7 (by omega) hz); have x0 : w7.cell? ⟨a, 0, none⟩ = some (.slice va l.length vc) := (by rw [cell_at (grown_ktv (t := 39) HO6.out hgr7 (by decide) _ _ _ HS6.out.c0)]; rfl); have xf : w7.frozen? ⟨a, 0, none⟩ = false := (by simp [World.frozen?, grown_ktv (t := 39) HO6.out hgr7 (by decide) _ _ _ HS6.out.c0]); clear hn7 hgr7 hat7)
          | (go_simp; (refine (kx 1).mono ?_); rintro en w6 ⟨av, nvs, i6, b6, rfl, hT6, hN6, hr6, hi6, hR6, hF6⟩; obtain ⟨ap, an, ac, rfl⟩ := hT6.shape; obtain ⟨na, nn, nc, rfl⟩ := own_shape hN6; obtain ⟨HS6, HO6, HA6, HH6, y0, ya⟩ := sent_got HS.out hi6 hR6 hF6 Hown.out Hall.out hT6 hN6; have Hr6 := Lib.hid hr6; clear hT6 hN6 hr6 hR6 hF6))
        all_goals
          obtain ⟨b7, nv7, nm7, hR7⟩ := HP7.out.rd
          have hle7 := hR7.le
          clear kx hR7
          refine NoPanic.normal ?_
          go_wp2
          go_roundg (L.length - i6)
          case measure => omega
          case rel => exact ⟨i6, _, l ++ [t], f, rfl, by omega, HP7, Lib.hid (by rw [hX2.out, Hr6.out])⟩
    · have hlt2 : ¬ ((j : Int) < L.length) := by omega
      have hX2 := Lib.hid (show X = .ok l by rw [HX.out, List.drop_eq_nil_of_le (by rw [ab_len]; omega)]; exact sents_nil f l)
      have n1 : ¬ a = a + 1 := by omega
      have n2 : ¬ a = a + 1 + 1 := by omega
      go_wp2
      refine leaves_cons (f := 37) (args := #[.pointer (some ⟨a, 0, none⟩), .pointer (some ⟨a + 1, 0, none⟩), .pointer (some ⟨a + 1 + 1, 0, none⟩)]) (by simp) (by simp [go_sem]) ?_
      refine (catch_idle _ _ _ _).mono ?_
      rintro en u' w'' ⟨rfl, rfl, rfl⟩
      simp [Leaves, settle, results, Tryz.results22, go_sem, d0, d1, d3]
      exact sents_done HS.out hae hX2.out
end Go.Proofs.YtcdmmcogegnieaaGreatDoor.rd
end
section
/- Tokens rise, do not overlap, and hold their texts. Plain lists. -/
namespace Go.Proofs.YtcdmmcogegnieaaGreatDoor.lx

/-- where the last token ends -/
def lastTo (ts : List Tok) : Nat := match ts.getLast? with
  | some t => t.to
  | none => 0
theorem lastTo_snoc (ts : List Tok) (t : Tok) : lastTo (ts ++ [t]) = t.to := by simp [lastTo]
/-- a token in its place: behind e, its text there, or two bytes less within quotes -/
def PlOk (l : List UInt8) (e : Nat) (t : Tok) : Prop :=
  e ≤ t.frm ∧ t.frm < t.to ∧ t.to ≤ l.length ∧ (l.getD t.frm 0 ≠ 39 → (l.take t.to).drop t.frm = t.text) ∧ (l.getD t.frm 0 = 39 → t.text.length + 2 ≤ t.to - t.frm)
def PlAll (l : List UInt8) (ts : List Tok) : Prop := ∀ i (h : i < ts.length), PlOk l (lastTo (ts.take i)) ts[i]
theorem plAll_nil (l : List UInt8) : PlAll l [] := fun _ h => absurd h (Nat.not_lt_zero _)
theorem plAll_snoc {l : List UInt8} {ts : List Tok} {t : Tok} (h : PlAll l ts) (ht : PlOk l (lastTo ts) t) : PlAll l (ts ++ [t]) := by
  intro i hi
  rw [List.length_append, List.length_singleton] at hi
  by_cases hl : i < ts.length
  · rw [List.getElem_append_left hl, List.take_append_of_le_length (by omega)]; exact h i hl
  · obtain rfl : i = ts.length := by omega
    rw [List.getElem_append_right (Nat.le_refl _)]
    simp only [Nat.sub_self, List.getElem_cons_zero]
    rw [List.take_left]; exact ht
theorem plAll_last {l : List UInt8} {ts : List Tok} (h : PlAll l ts) : lastTo ts ≤ l.length := by
  rcases ts.eq_nil_or_concat with rfl | ⟨r, t, rfl⟩
  · exact Nat.zero_le _
  · rw [List.concat_eq_append] at h ⊢
    rw [lastTo_snoc]
    have := h r.length (by simp)
    rw [List.getElem_append_right (Nat.le_refl _)] at this
    simp only [Nat.sub_self, List.getElem_cons_zero] at this
    exact this.2.2.1

/-- what holds of the machine at the place n of the text l -/
def Inv (l : List UInt8) (ts : List Tok) (n : Nat) : Mode → Prop
  | .btw => lastTo ts ≤ n
  | .line => lastTo ts < n
  | .slash f => lastTo ts ≤ f ∧ f + 1 = n ∧ l.getD f 0 = 47
  | .dot f => lastTo ts ≤ f ∧ f + 1 = n ∧ l.getD f 0 = 46
  | .rem _ => lastTo ts ≤ n
  | .star _ => lastTo ts ≤ n
  | .word _ f acc => lastTo ts ≤ f ∧ f < n ∧ l.getD f 0 ≠ 39 ∧ (l.take n).drop f = acc
  | .quo f acc => lastTo ts ≤ f ∧ l.getD f 0 = 39 ∧ f + acc.length + 1 ≤ n
  | .quoq f acc => lastTo ts ≤ f ∧ l.getD f 0 = 39 ∧ f + acc.length + 2 ≤ n
  | .esc f acc => lastTo ts ≤ f ∧ l.getD f 0 = 39 ∧ f + acc.length + 2 ≤ n
theorem slice_one {l : List UInt8} {n : Nat} {b : UInt8} (h : l[n]? = some b) : (l.take (n + 1)).drop n = [b] := by
  obtain ⟨hl, rfl⟩ := List.getElem?_eq_some_iff.1 h
  rw [List.take_succ_eq_append_getElem hl, List.drop_append_of_le_length (by simp; omega), List.drop_take]; simp
theorem slice_more {l : List UInt8} {f n : Nat} {b : UInt8} (hf : f ≤ n) (h : l[n]? = some b) : (l.take (n + 1)).drop f = (l.take n).drop f ++ [b] := by
  obtain ⟨hl, rfl⟩ := List.getElem?_eq_some_iff.1 h
  rw [List.take_succ_eq_append_getElem hl, List.drop_append_of_le_length (by simp; omega)]
theorem getD_of {l : List UInt8} {n : Nat} {b : UInt8} (h : l[n]? = some b) : l.getD n 0 = b := by rw [List.getD_eq_getElem?_getD, h]; rfl
theorem getD_lt {l : List UInt8} {n : Nat} {b : UInt8} (h : l[n]? = some b) : n < l.length := (List.getElem?_eq_some_iff.1 h).1
/-- a whole token is put behind the others -/
theorem ends_tok {l : List UInt8} {ts : List Tok} {n : Nat} (hP : PlAll l ts) (hn : n ≤ l.length) {k f : Nat} {acc : List UInt8} (h1 : lastTo ts ≤ f) (h2 : f < n) (h3 : l.getD f 0 ≠ 39) (h4 : (l.take n).drop f = acc) :
    PlAll l (ts ++ [⟨k, acc, f, n⟩]) ∧ lastTo (ts ++ [⟨k, acc, f, n⟩]) = n :=
  ⟨plAll_snoc hP ⟨h1, h2, hn, fun _ => h4, fun h => absurd h h3⟩, lastTo_snoc _ _⟩
theorem ends_quo {l : List UInt8} {ts : List Tok} {n : Nat} (hP : PlAll l ts) (hn : n ≤ l.length) {k f : Nat} {acc : List UInt8} (h1 : lastTo ts ≤ f) (h3 : l.getD f 0 = 39) (h4 : f + acc.length + 2 ≤ n) :
    PlAll l (ts ++ [⟨k, acc, f, n⟩]) ∧ lastTo (ts ++ [⟨k, acc, f, n⟩]) = n :=
  ⟨plAll_snoc hP ⟨h1, by show f < n; omega, hn, fun h => absurd h3 h, fun _ => by show acc.length + 2 ≤ n - f; omega⟩, lastTo_snoc _ _⟩
theorem inv_start {M : Nat} {l : List UInt8} {ts ts' : List Tok} {n : Nat} {b : UInt8} {m' : Mode} (hP : PlAll l ts) (h : lastTo ts ≤ n) (hb : l[n]? = some b) (hs : start M ts n b = .go ts' m') : PlAll l ts' ∧ Inv l ts' (n + 1) m' := by
  have hlt := getD_lt hb
  have hd := getD_of hb
  have h1 := slice_one hb
  unfold start at hs
  split at hs
  · cases hs; exact ⟨hP, by show lastTo ts ≤ n + 1; omega⟩
  split at hs
  · cases hs; exact ⟨hP, by show lastTo ts < n + 1; omega⟩
  split at hs
  · cases hs; exact ⟨hP, h, rfl, by rw [hd]; assumption⟩
  split at hs
  · cases hs
  split at hs
  · cases hs
  have n39 : cl b ≠ 6 → b ≠ 39 := fun h e => h (by rw [e]; decide)
  unfold opening at hs
  by_cases h6 : cl b = 6
  · rw [if_pos h6] at hs; cases hs
    refine ⟨hP, h, ?_, by show n + 0 + 1 ≤ n + 1; omega⟩
    rw [hd]
    have := b.toNat_lt
    have e : b.toNat = 39 := by
      revert h6; unfold cl cls; repeat' split
      all_goals omega
    exact UInt8.toNat_inj.1 (by rw [e]; rfl)
  rw [if_neg h6] at hs
  by_cases h7 : cl b = 7
  · rw [if_pos h7] at hs; cases hs
    obtain ⟨p1, p2⟩ := ends_tok (k := 1) hP (n := n + 1) (by omega) h (by omega) (by rw [hd]; exact n39 h6) h1
    exact ⟨p1, by show lastTo _ ≤ n + 1; omega⟩
  rw [if_neg h7] at hs
  by_cases h8 : cl b = 8
  · rw [if_pos h8] at hs; cases hs
    obtain ⟨p1, p2⟩ := ends_tok (k := if b = 40 ∧ opens ts n = true then 4 else 5) hP (n := n + 1) (by omega) h (by omega) (by rw [hd]; exact n39 h6) h1
    exact ⟨p1, by show lastTo _ ≤ n + 1; omega⟩
  rw [if_neg h8] at hs
  by_cases h46 : b = 46
  · rw [if_pos h46] at hs; cases hs
    exact ⟨hP, h, rfl, by rw [hd, h46]⟩
  rw [if_neg h46] at hs; cases hs
  exact ⟨hP, h, by omega, by rw [hd]; exact n39 h6, h1⟩
theorem inv_step {M : Nat} {l : List UInt8} {ts ts' : List Tok} {n : Nat} {b : UInt8} {m m' : Mode} (hP : PlAll l ts) (h : Inv l ts n m) (hb : l[n]? = some b) (hs : step M ts n b m = .go ts' m') : PlAll l ts' ∧ Inv l ts' (n + 1) m' := by
  have hlt := getD_lt hb
  have hd := getD_of hb
  have go : ∀ {k f : Nat} {acc : List UInt8}, PlAll l (ts ++ [⟨k, acc, f, n⟩]) ∧ lastTo (ts ++ [⟨k, acc, f, n⟩]) = n → start M (ts ++ [⟨k, acc, f, n⟩]) n b = .go ts' m' → PlAll l ts' ∧ Inv l ts' (n + 1) m' :=
    fun hk hs => inv_start hk.1 (by omega) hb hs
  cases m with
  | btw => exact inv_start hP h hb hs
  | line =>
    have h' : lastTo ts < n := h
    simp only [step] at hs
    split at hs <;> cases hs
    · exact ⟨hP, by show lastTo ts ≤ n + 1; omega⟩
    · exact ⟨hP, by show lastTo ts < n + 1; omega⟩
  | slash f =>
    obtain ⟨h1, h2, h3⟩ := h
    simp only [step] at hs
    have hsl : (l.take n).drop f = [47] := by
      have hf : l[f]? = some 47 := by
        rw [List.getD_eq_getElem?_getD] at h3
        cases hx : l[f]? with
        | none => rw [hx] at h3; exact absurd h3 (by decide)
        | some x => rw [hx] at h3; rw [← h3]; rfl
      rw [← h2]; exact slice_one hf
    split at hs
    · cases hs; exact ⟨hP, by show lastTo ts ≤ n + 1; omega⟩
    split at hs
    · cases hs
    split at hs
    · cases hs
      exact ⟨hP, h1, by omega, by rw [h3]; decide, by rw [slice_more (by omega) hb, hsl]; rfl⟩
    · exact go (ends_tok hP (by omega) h1 (by omega) (by rw [h3]; decide) hsl) hs
  | dot f =>
    obtain ⟨h1, h2, h3⟩ := h
    simp only [step] at hs
    have hsl : (l.take n).drop f = [46] := by
      have hf : l[f]? = some 46 := by
        rw [List.getD_eq_getElem?_getD] at h3
        cases hx : l[f]? with
        | none => rw [hx] at h3; exact absurd h3 (by decide)
        | some x => rw [hx] at h3; rw [← h3]; rfl
      rw [← h2]; exact slice_one hf
    split at hs
    · cases hs
      exact ⟨hP, h1, by omega, by rw [h3]; decide, by rw [slice_more (by omega) hb, hsl]; rfl⟩
    · exact go (ends_tok hP (by omega) h1 (by omega) (by rw [h3]; decide) hsl) hs
  | rem f =>
    have h' : lastTo ts ≤ n := h
    simp only [step] at hs
    split at hs <;> cases hs
    · exact ⟨hP, by show lastTo ts ≤ n + 1; omega⟩
    · exact ⟨hP, by show lastTo ts ≤ n + 1; omega⟩
  | star f =>
    have h' : lastTo ts ≤ n := h
    simp only [step] at hs
    split at hs
    · cases hs; exact ⟨hP, by show lastTo ts ≤ n + 1; omega⟩
    split at hs <;> cases hs
    · exact ⟨hP, by show lastTo ts ≤ n + 1; omega⟩
    · exact ⟨hP, by show lastTo ts ≤ n + 1; omega⟩
  | word c f acc =>
    obtain ⟨h1, h2, h3, h4⟩ := h
    simp only [step] at hs
    split at hs
    · cases hs
      exact ⟨hP, h1, by omega, h3, by rw [slice_more (by omega) hb, h4]⟩
    · exact go (ends_tok hP (by omega) h1 h2 h3 h4) hs
  | quo f acc =>
    obtain ⟨h1, h2, h3⟩ := h
    simp only [step] at hs
    split at hs
    · cases hs; exact ⟨hP, h1, h2, by omega⟩
    split at hs
    · cases hs; exact ⟨hP, h1, h2, by omega⟩
    split at hs <;> cases hs
    exact ⟨hP, h1, h2, by rw [List.length_append, List.length_singleton]; omega⟩
  | quoq f acc =>
    obtain ⟨h1, h2, h3⟩ := h
    simp only [step] at hs
    split at hs
    · cases hs; exact ⟨hP, h1, h2, by rw [List.length_append, List.length_singleton]; omega⟩
    · exact go (ends_quo hP (by omega) h1 h2 h3) hs
  | esc f acc =>
    obtain ⟨h1, h2, h3⟩ := h
    simp only [step] at hs
    split at hs
    · cases hs; exact ⟨hP, h1, h2, by rw [List.length_append, List.length_singleton]; omega⟩
    split at hs
    · cases hs; exact ⟨hP, h1, h2, by rw [List.length_append, List.length_singleton]; omega⟩
    split at hs <;> cases hs
    exact ⟨hP, h1, h2, by rw [List.length_append, List.length_singleton]; omega⟩
theorem inv_fin {M : Nat} {l : List UInt8} {ts out : List Tok} {m : Mode} (hP : PlAll l ts) (h : Inv l ts l.length m) (hs : fin M ts l.length m = .ok out) : PlAll l out := by
  cases m with
  | btw => cases hs; exact hP
  | line => cases hs; exact hP
  | slash f =>
    obtain ⟨h1, h2, h3⟩ := h
    simp only [fin] at hs
    split at hs <;> cases hs
    have hf : l[f]? = some 47 := by
      rw [List.getD_eq_getElem?_getD] at h3
      cases hx : l[f]? with
      | none => rw [hx] at h3; exact absurd h3 (by decide)
      | some x => rw [hx] at h3; rw [← h3]; rfl
    exact (ends_tok hP (Nat.le_refl _) h1 (by omega) (by rw [h3]; decide) (by rw [← h2]; exact slice_one hf)).1
  | dot f =>
    obtain ⟨h1, h2, h3⟩ := h
    cases hs
    have hf : l[f]? = some 46 := by
      rw [List.getD_eq_getElem?_getD] at h3
      cases hx : l[f]? with
      | none => rw [hx] at h3; exact absurd h3 (by decide)
      | some x => rw [hx] at h3; rw [← h3]; rfl
    exact (ends_tok hP (Nat.le_refl _) h1 (by omega) (by rw [h3]; decide) (by rw [← h2]; exact slice_one hf)).1
  | rem f => cases hs
  | star f => cases hs
  | word c f acc =>
    obtain ⟨h1, h2, h3, h4⟩ := h
    cases hs
    exact (ends_tok hP (Nat.le_refl _) h1 h2 h3 h4).1
  | quo f acc => cases hs
  | quoq f acc =>
    obtain ⟨h1, h2, h3⟩ := h
    cases hs
    exact (ends_quo hP (Nat.le_refl _) h1 h2 h3).1
  | esc f acc => cases hs
/-- the state behind k bytes -/
theorem inv_run {M : Nat} {l : List UInt8} : ∀ (k : List UInt8) (ts : List Tok) (n : Nat) (m : Mode) (ts' : List Tok) (m' : Mode), k <+: l.drop n → PlAll l ts → Inv l ts n m → run M k ts n m = .go ts' m' → PlAll l ts' ∧ Inv l ts' (n + k.length) m' := by
  intro k
  induction k with
  | nil => intro ts n m ts' m' _ hP hI hr; cases hr; exact ⟨hP, hI⟩
  | cons b k ih =>
    intro ts n m ts' m' hk hP hI hr
    have hb : l[n]? = some b := by
      obtain ⟨r, hr'⟩ := hk
      have : (l.drop n)[0]? = some b := by rw [← hr']; rfl
      rwa [List.getElem?_drop, Nat.add_zero] at this
    rw [run] at hr
    cases hs : step M ts n b m with
    | bad p e => rw [hs] at hr; cases hr
    | go ts1 m1 =>
      rw [hs] at hr
      obtain ⟨p1, p2⟩ := inv_step hP hI hb hs
      have hk' : k <+: l.drop (n + 1) := by
        obtain ⟨r, hr⟩ := hk
        have hlt := getD_lt hb
        rw [List.drop_eq_getElem_cons hlt, List.cons_append] at hr
        exact ⟨r, (List.cons.inj hr).2⟩
      have := ih ts1 (n + 1) m1 ts' m' hk' p1 p2 hr
      rw [List.length_cons, show n + (k.length + 1) = n + 1 + k.length from by omega]
      exact this
theorem places {M : Nat} {l : List UInt8} {out : List Tok} (h : ans M l [] 0 .btw = .ok out) : PlAll l out := by
  rw [ans_run] at h
  cases hr : run M l [] 0 .btw with
  | bad p e => rw [hr] at h; cases h
  | go ts m =>
    rw [hr] at h
    obtain ⟨p1, p2⟩ := inv_run l [] 0 .btw ts m (by simp) (plAll_nil l) (Nat.zero_le _) hr
    rw [Nat.zero_add] at p2 h
    exact inv_fin p1 p2 h
end Go.Proofs.YtcdmmcogegnieaaGreatDoor.lx
end
section
/- Texts one behind the other; quoted names. Plain lists. -/
namespace Go.Proofs.YtcdmmcogegnieaaGreatDoor.lx

/-! ### one text behind another -/
/-- the state behind a text that is tokens: a line feed comes next -/
theorem fin_feed {M : Nat} {ts a : List Tok} {n : Nat} {m : Mode} (h : fin M ts n m = .ok a) : step M ts n 10 m = .go a .btw := by
  have hst : ∀ (T : List Tok), start M T n 10 = .go T .btw := fun T => by unfold start; rw [if_pos (by decide)]
  cases m <;> simp only [fin] at h <;> simp only [step]
  case btw => cases h; exact hst _
  case line => cases h; rfl
  case slash f =>
    split at h
    · cases h
    · rename_i hl; cases h; rw [if_neg (by decide), if_neg hl, if_neg (by decide)]; exact hst _
  case dot f => cases h; rw [if_neg (by decide), if_pos (.inl (by decide))]; exact hst _
  case word c f acc =>
    cases h
    rw [if_neg, hst]
    have : joinB c (cl 10) = false := by
      unfold joinB
      repeat' split
      · decide
      · rename_i hc; rcases hc with rfl | rfl <;> decide
      · rfl
    rw [this]; decide
  case quoq f acc => cases h; rw [if_neg (by decide)]; exact hst _
  all_goals cases h
/-- .. a blank that is no line feed -/
theorem fin_blank {M : Nat} {ts a : List Tok} {n : Nat} {m : Mode} (h : fin M ts n m = .ok a) (hm : m ≠ .line) : step M ts n 32 m = .go a .btw := by
  have hst : ∀ (T : List Tok), start M T n 32 = .go T .btw := fun T => by unfold start; rw [if_pos (by decide)]
  cases m <;> simp only [fin] at h <;> simp only [step]
  case btw => cases h; exact hst _
  case line => exact absurd rfl hm
  case slash f =>
    split at h
    · cases h
    · rename_i hl; cases h; rw [if_neg (by decide), if_neg hl, if_neg (by decide)]; exact hst _
  case dot f => cases h; rw [if_neg (by decide), if_pos (.inl (by decide))]; exact hst _
  case word c f acc =>
    cases h
    rw [if_neg, hst]
    have : joinB c (cl 32) = false := by
      unfold joinB
      repeat' split
      · decide
      · rename_i hc; rcases hc with rfl | rfl <;> decide
      · rfl
    rw [this]; decide
  case quoq f acc => cases h; rw [if_neg (by decide)]; exact hst _
  all_goals cases h
theorem run_of {M : Nat} {l : List UInt8} {a : List Tok} (h : ans M l [] 0 .btw = .ok a) : ∃ ts m, run M l [] 0 .btw = .go ts m ∧ fin M ts l.length m = .ok a := by
  rw [ans_run] at h
  cases hr : run M l [] 0 .btw with
  | bad p e => rw [hr] at h; cases h
  | go ts m => rw [hr] at h; rw [Nat.zero_add] at h; exact ⟨ts, m, rfl, h⟩
theorem ahead_of {l : List UInt8} {a : List Tok} {d : Nat} (h : PlAll l a) (hd : l.length < d) : Ahead a d := by
  intro t ht
  have := plAll_last h
  unfold lastTo at this
  rw [ht] at this
  simp only at this
  omega
/-- from between two tokens on, behind others, a text is what it is alone -/
theorem ans_behind {T b : List Tok} {d : Nat} {l : List UInt8} (h : Ahead T d) (hl : toks l = .ok b) (hn : T.length + b.length ≤ 1000) : ans 1000 l T d .btw = .ok (T ++ b.map (shT d)) := by
  have h1 := (ans_less (M' := 1000 - T.length) l [] 0 .btw hl).2 (by omega)
  have h2 := ans_shift h (M := 1000) (by omega) l [] 0 .btw trivial
  rw [h1, List.map_nil, List.append_nil, Nat.zero_add] at h2
  exact h2
/-- P3.1: two texts with a line feed between -/
theorem between_feed {s t : List UInt8} {a b : List Tok} (hs : toks s = .ok a) (ht : toks t = .ok b) (hn : a.length + b.length ≤ 1000) : toks (s ++ 10 :: t) = .ok (a ++ b.map (shT (s.length + 1))) := by
  obtain ⟨ts, m, hr, hf⟩ := run_of hs
  unfold toks
  rw [ans_append, hr]
  simp only
  rw [Nat.zero_add, ans_cons, fin_feed hf]
  exact ans_behind (ahead_of (places hs) (by omega)) ht hn

/-! ### notes -/
theorem ans_line_all (M : Nat) (k l : List UInt8) (ts : List Tok) (n : Nat) (h : ∀ b ∈ k, b ≠ 10) : ans M (k ++ 10 :: l) ts n .line = ans M l ts (n + k.length + 1) .btw := by
  rw [ans_line M k _ ts n h, ans_cons, step, if_pos rfl]
theorem ans_space (M : Nat) (l : List UInt8) (ts : List Tok) (n : Nat) : ans M (32 :: l) ts n .btw = ans M l ts (n + 1) .btw := by
  rw [ans_cons, step, start, if_pos (by decide)]
theorem ans_rem_plain (M f : Nat) (k l : List UInt8) (ts : List Tok) (n : Nat) (h : ∀ b ∈ k, b ≠ 42) : ans M (k ++ 42 :: 47 :: l) ts n (.rem f) = ans M l ts (n + k.length + 2) .btw := by
  induction k generalizing n with
  | nil => rw [List.nil_append, ans_cons, step, if_pos rfl]; simp only; rw [ans_cons, step, if_pos rfl]; rfl
  | cons b k ih =>
    rw [List.cons_append, ans_cons, step, if_neg (h b (by simp))]
    simp only [ih (n + 1) (fun c hc => h c (by simp [hc]))]
    rw [List.length_cons, show n + (k.length + 1) + 2 = n + 1 + k.length + 2 from by omega]
theorem ans_remark2 (M : Nat) (l : List UInt8) (ts : List Tok) (n : Nat) : ans M (47 :: 42 :: l) ts n .btw = ans M l ts (n + 2) (.rem n) := by
  rw [ans_cons, step, start, if_neg (by decide), if_neg (by decide), if_pos rfl]
  simp only
  rw [ans_cons, step, if_pos rfl]
theorem ans_pct (M : Nat) (l : List UInt8) (ts : List Tok) (n : Nat) : ans M (37 :: l) ts n .btw = ans M l ts (n + 1) .line := by
  rw [ans_cons, step, start, if_neg (by decide), if_pos rfl]
theorem notes_plain {s : List UInt8} {a : List Tok} (hs : toks s = .ok a) (t : List UInt8) : toks (s ++ 32 :: 10 :: 32 :: t) = ans 1000 t a (s.length + 3) .btw := by
  obtain ⟨ts, m, hr, hf⟩ := run_of hs
  unfold toks
  rw [ans_append, hr]
  simp only
  rw [Nat.zero_add]
  by_cases hm : m = .line
  · subst hm
    cases hf
    rw [ans_cons, step, if_neg (by decide)]; simp only
    rw [ans_cons, step, if_pos rfl]; simp only
    rw [ans_space]
  · rw [ans_cons, fin_blank hf hm]; simp only
    rw [ans_cons, step, start, if_pos (by decide)]; simp only
    rw [ans_space]
theorem notes_full {s k : List UInt8} {a : List Tok} (hs : toks s = .ok a) (h10 : ∀ b ∈ k, b ≠ 10) (h42 : ∀ b ∈ k, b ≠ 42) (t : List UInt8) :
    toks (s ++ (32 :: 47 :: 42 :: (k ++ (42 :: 47 :: 32 :: 37 :: (k ++ (10 :: 32 :: t)))))) = ans 1000 t a (s.length + (2 * k.length + 9)) .btw := by
  obtain ⟨ts, m, hr, hf⟩ := run_of hs
  unfold toks
  rw [ans_append, hr]
  simp only
  rw [Nat.zero_add]
  by_cases hm : m = .line
  · subst hm
    cases hf
    have e : (32 :: 47 :: 42 :: (k ++ (42 :: 47 :: 32 :: 37 :: (k ++ (10 :: 32 :: t)))) : List UInt8) = (32 :: 47 :: 42 :: (k ++ (42 :: 47 :: 32 :: 37 :: k))) ++ 10 :: 32 :: t := by simp
    rw [e, ans_line_all _ _ _ _ _ (by
      intro b hb
      simp only [List.mem_cons, List.mem_append] at hb
      rcases hb with rfl | rfl | rfl | hb | rfl | rfl | rfl | rfl | hb
      all_goals first | decide | exact h10 b hb), ans_space]
    congr 1
    simp; omega
  · rw [ans_cons, fin_blank hf hm]; simp only
    rw [ans_remark2, ans_rem_plain _ _ _ _ _ _ h42, ans_space, ans_pct, ans_line_all _ _ _ _ _ h10, ans_space]
    congr 1
    omega
end Go.Proofs.YtcdmmcogegnieaaGreatDoor.lx
end
