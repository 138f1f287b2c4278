/- slices.Backward over a row of terms: what its closure yields, from the last one to the first.; A term in a cell of the function's own beside its result's cell: what a loop of the reader's carries.; What the rounds over a row of terms carry, where each puts one more ahead of the rest.; The program's reader: list. -/
import Derived.Test.YtcdmmcogegnieaaGreatDoorQ6
import Derived.RangeFuncNested
import Derived.RangeFuncBound
import Derived.RangeFuncCalls
import Derived.RangeFuncLeaves
import Derived.Shelf.Abstract
import Derived.OwnWalkIn
import Derived.TacticsInMore
import Derived.LoopNIn
import Derived.LoopIn
set_option linter.unusedVariables false
section
/- slices.Backward over a row of terms: what its closure yields, from the last one to the first. -/
namespace Go.Proofs.YtcdmmcogegnieaaGreatDoor.rd
open Go.RowKit Go.Shelf
open Go.Proofs.YtcdmmcogegnieaaGreatDoor.op (bs)
open Go.Proofs.YtcdmmcogegnieaaGreatDoor.lx (cell_at)
set_option maxRecDepth 20000
attribute [local go_sem] Oper.semAt_some

/-- an element's place -/
abbrev Ix (N : Nat) := { i : Nat // i < N }
/-- the last k places, the last one first -/
def dn (N k : Nat) (h : k ≤ N) : List (Ix N) := (List.range k).attach.map fun j => ⟨N - 1 - j.1, by have := List.mem_range.1 j.2; omega⟩
theorem dn_len (N k : Nat) (h : k ≤ N) : (dn N k h).length = k := by simp [dn]
theorem dn_succ (N k : Nat) (h : k + 1 ≤ N) : dn N (k + 1) h = dn N k (by omega) ++ [⟨N - 1 - k, by omega⟩] := by
  apply List.ext_getElem
  · simp [dn]
  · intro i h1 h2
    rw [dn_len] at h1
    rcases Nat.lt_or_ge i k with h3 | h3
    · rw [List.getElem_append_left (by rw [dn_len]; exact h3)]; simp [dn]
    · obtain rfl : i = k := by omega
      rw [List.getElem_append_right (by rw [dn_len]; exact Nat.le_refl _)]; simp [dn]
/-- what is yielded at a place -/
def encT (l : List T) (az : List Value) (i : Nat) : Array Value := #[.int .i64 (i : Nat), .agg #[.int .i64 ((l.getD i (.leaf 0 0 [])).k : Nat), .int .i64 (l.getD i (.leaf 0 0 [])).n, .string (bs (l.getD i (.leaf 0 0 [])).s), az.getD i undef]]
/-- the cells of a row of terms -/
def RowC (W : World) (g : Nat) (l : List T) (az : List Value) : Prop := ∀ i, i < l.length → W.cell? ⟨g, i * 4, none⟩ = some (.int .i64 ((l.getD i (.leaf 0 0 [])).k : Nat)) ∧ W.cell? ⟨g, i * 4 + 1, none⟩ = some (.int .i64 (l.getD i (.leaf 0 0 [])).n) ∧
  W.cell? ⟨g, i * 4 + 2, none⟩ = some (.string (bs (l.getD i (.leaf 0 0 [])).s)) ∧ W.cell? ⟨g, i * 4 + 3, none⟩ = some (az.getD i undef)
/-- the row's block and the box of the slice lie as they lay -/
def Kb (g Bs : Nat) (A B : World) : Prop := B.heap[g]? = A.heap[g]? ∧ B.heap[Bs]? = A.heap[Bs]?
theorem Kb.refl (g Bs : Nat) (A : World) : Kb g Bs A A := ⟨rfl, rfl⟩
theorem Kb.trans {g Bs : Nat} {A B C : World} (h : Kb g Bs A B) (k : Kb g Bs B C) : Kb g Bs A C := ⟨k.1.trans h.1, k.2.trans h.2⟩
theorem RowC.kb {g Bs : Nat} {A B : World} {l : List T} {az : List Value} (h : RowC A g l az) (hb : Kb g Bs A B) : RowC B g l az := fun i hi => by
  have e : ∀ j, B.cell? ⟨g, j, none⟩ = A.cell? ⟨g, j, none⟩ := fun j => World.cell?_of_block hb.1
  rw [e, e, e, e]; exact h i hi
set_option maxHeartbeats 4000000 in
theorem back1_in (F : Fence) (n : Nat) (h8 : F.fn 126) (hro : F.round = none) (hn : 1 ≤ n) (q Bs g cap : Nat) (l : List T) (az : List Value) (hN : l.length ≤ 100000) (J Jx : List (Ix l.length) → World → Prop)
    (hY : ∀ pre x W, J pre W → pre.length < l.length → YieldAt F (n - 1) Tryz.prog q (encT l az x.1) W fun e W' =>
      (e = .returned (.bool true) ∧ J (pre ++ [x]) W' ∧ Kb g Bs W W') ∨ (e = .returned (.bool false) ∧ Jx (pre ++ [x]) W'))
    (W : World) (hBs : W.cell? ⟨Bs, 0, none⟩ = some (.slice (some ⟨g, 0, none⟩) l.length cap)) (hc : RowC W g l az) (hz : ∀ i, i < l.length → ∃ a m c, az.getD i undef = .slice a m c) (h0 : J [] W) :
    CallsIn F n Tryz.prog 126 #[.func (.yield q) #[] #[], .pointer (some ⟨Bs, 0, none⟩)] W fun e W' => (∃ v, e = .returned v) ∧
      ((∃ ys, ys = dn l.length l.length (Nat.le_refl _) ∧ J ys W') ∨ (∃ pre, (∃ k h, pre = dn l.length k h) ∧ Jx pre W')) := by
  refine callsIn_of_wp Tryz.func126 rfl h8 ?_ hro
  simp only [Tryz.ntmps126, List.size_toArray, List.length_cons, List.length_nil, Nat.reduceAdd, Nat.reduceSub, Array.replicate_succ, Array.replicate_zero, List.push_toArray, List.append_toArray, List.nil_append, List.cons_append]
  have i1 : IntKind.i64.wrap ((l.length : Int) - 1) = (l.length : Int) - 1 := IntWalk.i64_in _ (by omega)
  gi_wp2
  gi_loopw [3] (fun i wr => ∃ m : Nat, ∃ h : m ≤ l.length, i = .int .i64 ((m : Int) - 1) ∧ J (dn l.length (l.length - m) (by omega)) wr ∧ Kb g Bs W wr)
    (fun i _ => (intOf i + 1).toNat)
  case atStart =>
    refine ⟨l.length, Nat.le_refl _, rfl, ?_, Kb.refl _ _ _⟩
    have : ∀ j (h : j ≤ l.length), j = 0 → J (dn l.length j h) W := fun j h hj => by subst hj; exact h0
    exact this _ _ (by omega)
  case round =>
    obtain ⟨m, hm, rfl, hJs, hnx⟩ := hrel
    rcases m with _ | p
    · have hz1 : ¬ ((0 : Int) ≤ ((0 : Nat) : Int) - 1) := by omega
      gi_wp2
      go_end0
      have : ∀ j (h : j ≤ l.length), j = l.length → J (dn l.length j h) wr → J (dn l.length l.length (Nat.le_refl _)) wr := fun j h hj hh => by subst hj; exact hh
      exact ⟨⟨_, rfl⟩, .inl (this _ _ (by omega) hJs)⟩
    · rw [show ((p + 1 : Nat) : Int) - 1 = (p : Int) by omega]
      obtain ⟨fn, tmps, assign, body, hy, hR⟩ := hY _ ⟨p, by omega⟩ wr hJs (by rw [dn_len]; omega)
      have hcx := (hc.kb hnx) p (by omega)
      obtain ⟨ea, em, ec, he⟩ := hz p (by omega)
      unfold encT at hy
      dsimp only at hy
      rw [he] at hy hcx
      obtain ⟨d0, d1, d2, d3⟩ := hcx
      have hbx : wr.cell? ⟨Bs, 0, none⟩ = some (.slice (some ⟨g, 0, none⟩) l.length cap) := (World.cell?_of_block hnx.2).trans hBs
      have p1 : (0 : Int) ≤ (p : Int) := by omega
      have p2 : (p : Int) < (l.length : Int) := by omega
      have p3 : p < l.length := by omega
      have p4 : IntKind.i64.wrap ((p : Int) - 1) = (p : Int) - 1 := IntWalk.i64_in _ (by omega)
      have hdn : dn l.length (l.length - (p + 1)) (by omega) ++ [⟨p, p3⟩] = dn l.length (l.length - p) (by omega) := by
        have h1 := dn_succ l.length (l.length - (p + 1)) (by omega)
        have h2 : ∀ j (h : j ≤ l.length), j = l.length - (p + 1) + 1 → dn l.length j h = dn l.length (l.length - (p + 1) + 1) (by omega) := fun j h hj => by subst hj; rfl
        rw [h2 (l.length - p) (by omega) (by omega), h1]
        congr 2
        apply Subtype.ext
        show p = l.length - 1 - (l.length - (p + 1))
        omega
      have Hdn := Lib.hid hdn
      clear hdn he hc hY
      generalize l.getD p (T.leaf 0 0 []) = tp at *
      gi_wp2
      refine hR.mono ?_
      rintro e W3 (⟨rfl, hJ3, hk3⟩ | ⟨rfl, hJx3⟩)
      · gi_wp2
        go_roundw
        case rel => exact ⟨p, by omega, rfl, by rw [← Hdn.out]; exact hJ3, hnx.trans hk3⟩
        case measure => simp [intOf]
      · gi_wp2
        refine bodyPost_ret (results_none rfl _ _ _) rfl ?_
        exact ⟨⟨_, rfl⟩, .inr ⟨_, ⟨_, _, Hdn.out⟩, hJx3⟩⟩

/-- the slice is boxed; the function value has caught the box -/
theorem back_c (a : Option Addr) (len cap : Nat) (w : World) :
    Calls Tryz.prog 114 #[.slice a len cap] w fun e w' => e = .returned (.func (.func 126) #[] #[.pointer (some ⟨w.heap.size, 0, none⟩)]) ∧ w' = w.alloc (.cells #[.slice a len cap] 23) := by
  have hmf : ∀ (fn : Fn) (first cap : Array Value) (w : World), (Instr.makeFunc fn first cap).run Tryz.prog w = .ok (.func fn first cap) w := fun _ _ _ _ => rfl
  go_enter Tryz.func114, Tryz.ntmps114
  go_wp2
  go_ret
  exact ⟨rfl, rfl⟩
/-- all places come, from the last one to the first -/
theorem back_stops (F : Fence) (n : Nat) (h8 : F.fn 126) (hro : F.round = none) (hn : 1 ≤ n) (Bs g cap : Nat) (l : List T) (az : List Value) (hN : l.length ≤ 100000) (w : World) (hgs : g < w.heap.size) (hbs : Bs < w.heap.size)
    (hBs : w.cell? ⟨Bs, 0, none⟩ = some (.slice (some ⟨g, 0, none⟩) l.length cap)) (hc : RowC w g l az) (hz : ∀ i, i < l.length → ∃ a m c, az.getD i undef = .slice a m c) :
    SeqStopsK F n Tryz.prog 126 #[.pointer (some ⟨Bs, 0, none⟩)] (fun x : Ix l.length => encT l az x.1) (Kb g Bs) (fun ys => ys = dn l.length l.length (Nat.le_refl _)) (fun pre => ∃ k h, pre = dn l.length k h) l.length w := fun q J Jx W hW _ _ hY h0 => by
  have hk : Kb g Bs w W := ⟨hW.block g hgs, hW.block Bs hbs⟩
  exact back1_in F n h8 hro hn q Bs g cap l az hN J Jx hY W ((World.cell?_of_block hk.2).trans hBs) (hc.kb hk) hz h0
end Go.Proofs.YtcdmmcogegnieaaGreatDoor.rd
end
section
/- A term in a cell of the function's own beside its result's cell: what a loop of the reader's carries. -/
namespace Go.Proofs.YtcdmmcogegnieaaGreatDoor.rd
open Go.RowKit
open Go.Proofs.YtcdmmcogegnieaaGreatDoor.op (bs)
open Go.Proofs.YtcdmmcogegnieaaGreatDoor.lx (Tok cell_at)
set_option maxRecDepth 20000

/-- what a round of the loop begins with -/
structure Lp (r b B3 B5 B6 B8 z depth : Nat) (tk : Value) (L : List Tok) (e j : Nat) (nv : Value) (nm : List (List UInt8)) (t : T) (a : Value) (w wr : World) : Prop where
  rd : Rd r b tk L e j nv nm wr
  fr : Fr r b w wr
  cl : Cl r B3 depth B5 wr
  res : wr.heap[B6]? = some (.cells #[.int .i64 0, .int .i64 0, .string ⟨#[]⟩, .slice none 0 0] 25 (0, 0))
  loc : wr.heap[B8]? = some (.cells #[.int .i64 (t.k : Nat), .int .i64 t.n, .string (bs t.s), a] 25 (0, 0))
  tm : Rp (fun k => z ≤ k ∧ k ≠ B6 ∧ k ≠ B8) wr t a
theorem Lp.fr' {r b B3 B5 B6 B8 z depth e j j' : Nat} {tk nv nv' : Value} {L : List Tok} {nm nm' : List (List UInt8)} {t : T} {a : Value} {w wr w2 : World} (h : Lp r b B3 B5 B6 B8 z depth tk L e j nv nm t a w wr) (hF : Fr r b wr w2) (hR : Rd r b tk L e j' nv' nm' w2) : Lp r b B3 B5 B6 B8 z depth tk L e j' nv' nm' t a w w2 :=
  ⟨hR, h.fr.trans hF, h.cl.fr h.rd hF, hF.keep h.rd (by decide) (by decide) _ _ _ h.res, hF.keep h.rd (by decide) (by decide) _ _ _ h.loc, h.tm.kept (hF.keep h.rd (by decide) (by decide))⟩
theorem Lp.stay {r b B3 B5 B6 B8 z depth e j : Nat} {tk nv : Value} {L : List Tok} {nm : List (List UInt8)} {t : T} {a : Value} {w wr w2 : World} (h : Lp r b B3 B5 B6 B8 z depth tk L e j nv nm t a w wr) (hb : Below wr.heap.size wr w2) : Lp r b B3 B5 B6 B8 z depth tk L e j nv nm t a w w2 :=
  h.fr' (Fr.of_below hb) (h.rd.stay hb)
theorem Lp.step {r b B3 B5 B6 B8 z depth e j : Nat} {tk nv : Value} {L : List Tok} {nm : List (List UInt8)} {t : T} {a : Value} {w wr : World} (h : Lp r b B3 B5 B6 B8 z depth tk L e j nv nm t a w wr) (hj : j < L.length) : Lp r b B3 B5 B6 B8 z depth tk L e (j + 1) nv nm t a w (wr.setCell ⟨r, 2, none⟩ (.int .i64 ((j : Int) + 1))) :=
  h.fr' ((Fr.refl r b wr).set (p := ⟨r, 2, none⟩) (.inl rfl) _) (h.rd.step hj)
/-- the term at hand is stored -/
theorem Lp.store {r b B3 B5 B6 B8 depth e j : Nat} {tk nv : Value} {L : List Tok} {nm : List (List UInt8)} {t t2 : T} {a a2 : Value} {w wr : World} (h : Lp r b B3 B5 B6 B8 w.heap.size depth tk L e j nv nm t a w wr) (hT : Rp (fun k => w.heap.size ≤ k ∧ k ≠ B6 ∧ k ≠ B8) wr t2 a2) (hr : r < w.heap.size) (h8 : w.heap.size ≤ B8) (h68 : B6 ≠ B8) :
    Lp r b B3 B5 B6 B8 w.heap.size depth tk L e j nv nm t2 a2 w ((((wr.setCell ⟨B8, 0, none⟩ (.int .i64 (t2.k : Nat))).setCell ⟨B8, 1, none⟩ (.int .i64 t2.n)).setCell ⟨B8, 2, none⟩ (.string (bs t2.s))).setCell ⟨B8, 3, none⟩ a2) := by
  have hn : ¬ (w.heap.size ≤ B8 ∧ B8 ≠ B6 ∧ B8 ≠ B8) := fun h => h.2.2 rfl
  have p1 := heap_set_at (j := 0) (v := .int .i64 (t2.k : Nat)) h.loc
  have p2 := heap_set_at (j := 1) (v := .int .i64 t2.n) p1
  have p3 := heap_set_at (j := 2) (v := .string (bs t2.s)) p2
  have kt : ∀ (ty : TypeId), ty ≠ 25 → Kt ty wr ((((wr.setCell ⟨B8, 0, none⟩ (.int .i64 (t2.k : Nat))).setCell ⟨B8, 1, none⟩ (.int .i64 t2.n)).setCell ⟨B8, 2, none⟩ (.string (bs t2.s))).setCell ⟨B8, 3, none⟩ a2) := fun ty hty =>
    (((kt_set (p := ⟨B8, 0, none⟩) h.loc hty).trans (kt_set (p := ⟨B8, 1, none⟩) p1 hty)).trans (kt_set (p := ⟨B8, 2, none⟩) p2 hty)).trans (kt_set (p := ⟨B8, 3, none⟩) p3 hty)
  refine ⟨h.rd.set4 h.loc (by omega) (by decide) (by decide) _ _ _ _, (((h.fr.set (p := ⟨B8, 0, none⟩) (.inr h8) _).set (p := ⟨B8, 1, none⟩) (.inr h8) _).set (p := ⟨B8, 2, none⟩) (.inr h8) _).set (p := ⟨B8, 3, none⟩) (.inr h8) _,
    h.cl.kept (kt _ (by decide)) (kt _ (by decide)), ?_, set4 h.loc _ _ _ _, (((hT.set (p := ⟨B8, 0, none⟩) hn _).set (p := ⟨B8, 1, none⟩) hn _).set (p := ⟨B8, 2, none⟩) hn _).set (p := ⟨B8, 3, none⟩) hn _⟩
  have e : ∀ (W : World) (m : Nat) (v : Value), (W.setCell ⟨B8, m, none⟩ v).heap[B6]? = W.heap[B6]? := fun W m v => Below.heap_setCell _ _ _ _ h68
  exact ((e _ _ _).trans ((e _ _ _).trans ((e _ _ _).trans (e _ _ _)))).trans h.res
end Go.Proofs.YtcdmmcogegnieaaGreatDoor.rd
end
section
/- What the rounds over a row of terms carry, where each puts one more ahead of the rest. -/
namespace Go.Proofs.YtcdmmcogegnieaaGreatDoor.rd
open Go.RowKit Go.Shelf
open Go.Proofs.YtcdmmcogegnieaaGreatDoor.op (bs)
open Go.Proofs.YtcdmmcogegnieaaGreatDoor.lx (Tok cell_at)
set_option maxRecDepth 20000

abbrev dfT : T := .leaf 0 0 []
/-- the rest, the terms at these places put ahead of it -/
def Rf (l : List T) (rt : T) (pre : List (Ix l.length)) : T := pre.foldl (fun r x => .cmp [46] [l.getD x.1 dfT, r]) rt
theorem Rf_snoc (l : List T) (rt : T) (pre : List (Ix l.length)) (x : Ix l.length) : Rf l rt (pre ++ [x]) = .cmp [46] [l.getD x.1 dfT, Rf l rt pre] := by simp [Rf]
theorem Rf_dn (l : List T) (rt : T) : ∀ k (h : k ≤ l.length), Rf l rt (dn l.length k h) = consAll (l.drop (l.length - k)) rt
  | 0, h => by rw [Nat.sub_zero, List.drop_length]; rfl
  | k + 1, h => by
    rw [dn_succ, Rf_snoc, Rf_dn l rt k (by omega)]
    have h1 : l.drop (l.length - (k + 1)) = l[l.length - 1 - k]'(by omega) :: l.drop (l.length - k) := by
      rw [show l.length - (k + 1) = l.length - 1 - k by omega, List.drop_eq_getElem_cons (by omega), show l.length - 1 - k + 1 = l.length - k by omega]
    rw [h1]
    simp only [consAll, List.foldr_cons]
    congr 2
    simp [show l.length - 1 - k < l.length by omega]
theorem Rf_all (l : List T) (rt : T) : Rf l rt (dn l.length l.length (Nat.le_refl _)) = consAll l rt := by rw [Rf_dn]; simp
structure Li (r b cb cd B0 B5 g Bs d : Nat) (tk : Value) (L : List Tok) (e j : Nat) (nv : Value) (nm : List (List UInt8)) (l : List T) (az : List Value) (w W0 : World) (t : T) (a : Value) (W : World) : Prop where
  lp : Lp r b cb cd B0 B5 w.heap.size d tk L e j nv nm t a w W
  el : ∀ i, i < l.length → Rp (fun k => w.heap.size ≤ k ∧ k ≠ B0 ∧ k ≠ B5) W (l.getD i dfT) (az.getD i undef)
  kb : Kb g Bs W0 W
  sz : W0.heap.size ≤ W.heap.size
section
variable {r b cb cd B0 B5 g Bs d e j : Nat} {tk nv : Value} {L : List Tok} {nm : List (List UInt8)} {l : List T} {az : List Value} {w W0 W W' : World} {t : T} {a : Value}
theorem Li.stay (h : Li r b cb cd B0 B5 g Bs d tk L e j nv nm l az w W0 t a W) (hb : Below W.heap.size W W') (hg : g < W0.heap.size) (hs : Bs < W0.heap.size) : Li r b cb cd B0 B5 g Bs d tk L e j nv nm l az w W0 t a W' :=
  ⟨h.lp.stay hb, fun i hi => (h.el i hi).kept (Kt.below hb), h.kb.trans ⟨hb.block g (by have := h.sz; omega), hb.block Bs (by have := h.sz; omega)⟩, Nat.le_trans h.sz hb.size⟩
/-- the turn of a block that is no cells -/
theorem Li.turn (h : Li r b cb cd B0 B5 g Bs d tk L e j nv nm l az w W0 t a W) {row : Option Nat} (hg : W.grownBy W' row) (hr : ∀ k, row = some k → W0.heap.size ≤ k ∧ ∃ o : Obj, W.heap[k]? = some o ∧ o.isCells = false) (hw : w.heap.size ≤ W0.heap.size) (hg0 : g < W0.heap.size) (hs : Bs < W0.heap.size) (hrw : r < w.heap.size) :
    Li r b cb cd B0 B5 g Bs d tk L e j nv nm l az w W0 t a W' := by
  have hk : ∀ ty, Kt ty W W' := fun ty k cs fr hk => by
    rw [hg.block k (lt_of hk) (fun e => by obtain ⟨_, o, h1, h2⟩ := hr k e.symm; rw [hk] at h1; cases h1; cases h2)]; exact hk
  have hz := h.sz
  have hb : Below w.heap.size W W' := ⟨hg.os, hg.tape, hg.output, hg.size, fun k hk => hg.block k (by omega) (fun e => by have := (hr k e.symm).1; omega)⟩
  exact ⟨⟨h.lp.rd.kept (hb.block r hrw) (hk _) (hk _) (hb.mono (by omega)), h.lp.fr.own hb (Nat.le_refl _), h.lp.cl.kept (hk _) (hk _), hk _ _ _ _ h.lp.res, hk _ _ _ _ h.lp.loc, h.lp.tm.kept (hk _)⟩, fun i hi => (h.el i hi).kept (hk _),
    h.kb.trans ⟨hg.block g (by omega) (fun e => by have := (hr g e.symm).1; omega), hg.block Bs (by omega) (fun e => by have := (hr Bs e.symm).1; omega)⟩, Nat.le_trans h.sz hg.size⟩
theorem keeps_below (hb : Below W.heap.size W W') : KeepsOthers W W' :=
  KeepsOthers.of_grownBy (row := none) ⟨hb.os, hb.tape, hb.output, hb.size, fun k hk _ => hb.block k hk⟩ (fun j o e => by cases e)
/-- one term more ahead of the rest -/
theorem Li.cons (h : Li r b cb cd B0 B5 g Bs d tk L e j nv nm l az w W0 t a W) {i : Nat} (hi : i < l.length) (hb : Below (W.alloc (.cells (tv (l.getD i dfT) (az.getD i undef) ++ tv t a).toArray 25)).heap.size (W.alloc (.cells (tv (l.getD i dfT) (az.getD i undef) ++ tv t a).toArray 25)) W')
    (_hw : w.heap.size ≤ W0.heap.size) (hg0 : g < W0.heap.size) (hs : Bs < W0.heap.size) (hrw : r < w.heap.size) (h5 : w.heap.size ≤ B5) (h05 : B0 ≠ B5) (hg5 : g ≠ B5) (hs5 : Bs ≠ B5) (h0 : B0 < W0.heap.size) (h55 : B5 < W0.heap.size) :
    Li r b cb cd B0 B5 g Bs d tk L e j nv nm l az w W0 (.cmp [46] [l.getD i dfT, t]) (.slice (some ⟨W.heap.size, 0, none⟩) 2 2) ((((W'.setCell ⟨B5, 0, none⟩ (.int .i64 4)).setCell ⟨B5, 1, none⟩ (.int .i64 0)).setCell ⟨B5, 2, none⟩ (.string (bs [46]))).setCell ⟨B5, 3, none⟩ (.slice (some ⟨W.heap.size, 0, none⟩) 2 2)) ∧
    KeepsOthers W ((((W'.setCell ⟨B5, 0, none⟩ (.int .i64 4)).setCell ⟨B5, 1, none⟩ (.int .i64 0)).setCell ⟨B5, 2, none⟩ (.string (bs [46]))).setCell ⟨B5, 3, none⟩ (.slice (some ⟨W.heap.size, 0, none⟩) 2 2)) ∧
    Kb g Bs W ((((W'.setCell ⟨B5, 0, none⟩ (.int .i64 4)).setCell ⟨B5, 1, none⟩ (.int .i64 0)).setCell ⟨B5, 2, none⟩ (.string (bs [46]))).setCell ⟨B5, 3, none⟩ (.slice (some ⟨W.heap.size, 0, none⟩) 2 2)) := by
  have hz := h.sz
  have hba : Below W.heap.size W (W.alloc (.cells (tv (l.getD i dfT) (az.getD i undef) ++ tv t a).toArray 25)) := (Below.refl _ _).alloc (Nat.le_refl _) _
  have hbw : Below W.heap.size W W' := hba.trans (hb.mono hba.size)
  have h1 := h.stay hbw hg0 hs
  have hT := ((Rw.two (h.el i hi) h.lp.tm (by omega)).kept (Kt.below hb)).cmp [46]
  have hst := h1.lp.store hT hrw h5 h05
  have eo : ∀ (W : World) (m : Nat) (v : Value) (k : Nat), k ≠ B5 → (W.setCell ⟨B5, m, none⟩ v).heap[k]? = W.heap[k]? := fun W m v k hk => Below.heap_setCell _ _ _ _ hk
  have e4 : ∀ (x0 x1 x2 x3 : Value) (k : Nat), k ≠ B5 → ((((W'.setCell ⟨B5, 0, none⟩ x0).setCell ⟨B5, 1, none⟩ x1).setCell ⟨B5, 2, none⟩ x2).setCell ⟨B5, 3, none⟩ x3).heap[k]? = W'.heap[k]? := fun x0 x1 x2 x3 k hk =>
    (eo _ _ _ k hk).trans ((eo _ _ _ k hk).trans ((eo _ _ _ k hk).trans (eo _ _ _ k hk)))
  have kb5 : Kb g Bs W ((((W'.setCell ⟨B5, 0, none⟩ (.int .i64 4)).setCell ⟨B5, 1, none⟩ (.int .i64 0)).setCell ⟨B5, 2, none⟩ (.string (bs [46]))).setCell ⟨B5, 3, none⟩ (.slice (some ⟨W.heap.size, 0, none⟩) 2 2)) :=
    ⟨(e4 _ _ _ _ g hg5).trans (hbw.block g (by omega)), (e4 _ _ _ _ Bs hs5).trans (hbw.block Bs (by omega))⟩
  have hn : ¬ (w.heap.size ≤ B5 ∧ B5 ≠ B0 ∧ B5 ≠ B5) := fun h => h.2.2 rfl
  refine ⟨⟨hst, fun k hk => ((((h1.el k hk).set (p := ⟨B5, 0, none⟩) hn _).set (p := ⟨B5, 1, none⟩) hn _).set (p := ⟨B5, 2, none⟩) hn _).set (p := ⟨B5, 3, none⟩) hn _, h.kb.trans kb5, Nat.le_trans h1.sz (by simp [World.setCell])⟩, ?_, kb5⟩
  exact ((((keeps_below hbw).trans (KeepsOthers.setCell _ _ _)).trans (KeepsOthers.setCell _ _ _)).trans (KeepsOthers.setCell _ _ _)).trans (KeepsOthers.setCell _ _ _)
end
/-- the cells of a row of terms -/
theorem Rw.cellsC {D : Nat → Prop} {w : World} {g cap : Nat} {l : List T} (h : Rw D w g cap l) : ∃ az : List Value, RowC w g l az ∧ (∀ i, i < l.length → Rp (fun k => D k ∧ k ≠ g) w (l.getD i dfT) (az.getD i undef)) ∧ D g ∧ g < w.heap.size := by
  have hlt := h.lt
  obtain ⟨az, h1, h2, h3⟩ := h
  have hl := h3.len
  have hc := World.ownsRow.cells h1 (g := g) rfl
  refine ⟨az, fun i hi => ?_, fun i hi => ?_, h2, hlt⟩
  · have key : ∀ m u, m < 4 → (tv l[i] (az[i]'(by omega)))[m]? = some u → w.cell? ⟨g, i * 4 + m, none⟩ = some u := fun m u hm hu => by
      have h4 := tvs_get (l.zip az) i m (by simp; omega) hm
      rw [List.getElem_zip] at h4
      have := hc (i * 4 + m) u (by rw [h4]; exact hu)
      rwa [op.addr_add] at this
    have e1 : l.getD i dfT = l[i] := by simp [hi]
    have e2 : az.getD i undef = az[i]'(by omega) := by simp [show i < az.length by omega]
    rw [show (T.leaf 0 0 []) = dfT from rfl, e1, e2]
    exact ⟨key 0 _ (by omega) rfl, key 1 _ (by omega) rfl, key 2 _ (by omega) rfl, key 3 _ (by omega) rfl⟩
  · have := h3.get i hi (by omega)
    have e1 : l.getD i dfT = l[i] := by simp [hi]
    have e2 : az.getD i undef = az[i]'(by omega) := by simp [show i < az.length by omega]
    rw [e1, e2]; exact this
end Go.Proofs.YtcdmmcogegnieaaGreatDoor.rd
end
section
/- The program's reader: list. -/
namespace Go.Proofs.YtcdmmcogegnieaaGreatDoor.rd
open Go.RowKit Go.Shelf
open Go.Proofs.YtcdmmcogegnieaaGreatDoor.op (bs strC Both Tb)
open Go.Proofs.YtcdmmcogegnieaaGreatDoor.lx (cell_at)
set_option maxRecDepth 20000
attribute [local go_sem] Oper.semAt_some

/-- a function whose body holds a range over a function: its body may be walked as any other, but for the post -/
theorem calls_marks {P : Program} {f : FuncId} {fn : Func} {c : Code} {args : Array Value} {w : World} {R : Ending → World → Prop} (hf : P.funcs[f]? = some fn) (hb : fn.body = some c)
    (h : c.wp P (bodyPostM Fence.wide 3 P fn R) { tmps := args ++ Array.replicate (fn.ntmps - args.size) undef, defers := [] } w) : Calls P f args w R :=
  callsIn_wide.1 (callsIn_of_wp_marks hf hb trivial (wpIn_wide.2 h) rfl)
theorem postM {P : Program} {fn : Func} {R : Ending → World → Prop} {tmps : Array Value} {w : World} {e : Exit} (h : bodyPost P fn R e { tmps := tmps, defers := [] } w) : bodyPostM Fence.wide 3 P fn R e { tmps := tmps, defers := [] } w := by
  cases e with
  | normal => exact h.2
  | ret => exact h.2
  | panic c => exact h.2
  | outgrown => exact h
  | exit id => exact h
  | goto l => exact h
theorem Rw.keptD {D : Nat → Prop} {w w' : World} {g cap : Nat} {l : List T} (h : Rw D w g cap l) (hk : Kd D 25 w w') : Rw D w' g cap l := by
  obtain ⟨az, h1, h2, h3⟩ := h
  exact ⟨az, own_keptD h1 (fun g' e => by cases e; exact h2) hk, h2, h3.keptD fun k cs fr hd hk' => hk k cs fr hd.1 hk'⟩
theorem fin_leaves {F : Fence} {n : Nat} {fn : Func} {p : Tmp} (hf : fn.results = #[.cell p 25]) {r b e i i' B D0 : Nat} {tk nv' : Value} {L : List lx.Tok} {nm' : List (List UInt8)} {w W : World} {tmps : Array Value} {a0 a1 a2 a3 : Value} {D : Nat → Prop}
    (hp : tmps.getD p undef = .pointer (some ⟨B, 0, none⟩)) (hR : Rd r b tk L e i' nv' nm' W) (hF : Fr r b w W) (hB : W.heap[B]? = some (.cells #[a0, a1, a2, a3] 25 (0, 0))) (hlo : w.heap.size ≤ B) (hr : r < w.heap.size)
    {t : T} {a : Value} (hT : Rp D W t a) (hD : ∀ k, D k → w.heap.size ≤ k ∧ k ≠ B) {X : Res T} (hX : X = .ok (t, ((ab L).drop i', nm'))) (hi : i ≤ i') (hd : W.heap[D0]? = some (.deferred (some []))) (hl : w.heap.size ≤ D0) :
    bodyPostM F n Tryz.prog fn (TQ r b tk L e i w X) .ret { tmps := tmps, defers := [{ target := .collected D0, args := #[] }] } ((((W.setCell ⟨B, 0, none⟩ (.int .i64 (t.k : Nat))).setCell ⟨B, 1, none⟩ (.int .i64 t.n)).setCell ⟨B, 2, none⟩ (.string (bs t.s))).setCell ⟨B, 3, none⟩ a) := by
  have hne : D0 ≠ B := fun e => by subst e; rw [hB] at hd; cases hd
  have h4 := Go.Proofs.YtcdmmcogegnieaaGreatDoor.rd.set4 hB (.int .i64 (t.k : Nat)) (.int .i64 t.n) (.string (bs t.s)) a
  have hfin := (fin_term (i := i) hf hp hR hF hB hlo hr hT hD hX hi).2
  have e4 : ((((W.setCell ⟨B, 0, none⟩ (.int .i64 (t.k : Nat))).setCell ⟨B, 1, none⟩ (.int .i64 t.n)).setCell ⟨B, 2, none⟩ (.string (bs t.s))).setCell ⟨B, 3, none⟩ a).heap[D0]? = some (.deferred (some [])) :=
    ((Below.heap_setCell _ _ _ _ hne).trans ((Below.heap_setCell _ _ _ _ hne).trans ((Below.heap_setCell _ _ _ _ hne).trans (Below.heap_setCell _ _ _ _ hne)))).trans hd
  have hrr := hR.blk
  generalize ((((W.setCell ⟨B, 0, none⟩ (.int .i64 (t.k : Nat))).setCell ⟨B, 1, none⟩ (.int .i64 t.n)).setCell ⟨B, 2, none⟩ (.string (bs t.s))).setCell ⟨B, 3, none⟩ a) = W1 at *
  have kt : ∀ ty, Kt ty W1 (W1.putObj D0 (.deferred none)) := fun ty k cs fr hk => (World.putObj_heap_other (fun e => by subst e; rw [e4] at hk; cases hk)).trans hk
  have hb : Below w.heap.size W1 (W1.putObj D0 (.deferred none)) := ⟨rfl, rfl, rfl, by simp [World.putObj], fun k hk => World.putObj_heap_other (by omega)⟩
  refine ⟨by simp, .inl ⟨_, _, rfl, run_takeDeferred e4, _, ret_term hf _ _ hp (kt _ _ _ _ h4), ?_⟩⟩
  obtain ⟨v, hv, hq⟩ := hfin
  subst hX
  obtain ⟨a2, i2, nv2, e1, h1, h2, h3, hR2, hF2⟩ := hq
  rw [ret_term hf _ _ hp h4] at hv
  cases hv
  cases e1
  exact ⟨_, i2, nv2, rfl, h1.kept (kt _), h2, h3, hR2.kept (hb.block r hr) (kt _) (kt _) (hb.mono (Nat.le_of_lt hr)), hF2.own hb (Nat.le_refl _)⟩
theorem listP_eq (x : W) (L : List lx.Tok) (i : Nat) (nm : List (List UInt8)) : listP x ((ab L).drop i, nm) =
    if isM (nx ((ab L).drop i)) [93] = true then .ok (nilT, ((ab L).drop (i + 1), nm)) else
      match rowP x ((ab L).drop i, nm) with
      | .error k => .error k
      | .ok (l, s1) =>
        match (if isM (nx s1.1) [124] = true then x 999 (s1.1.tail, s1.2) else .ok (nilT, s1) : Res T) with
        | .error k => .error k
        | .ok (r, s2) => if isM (nx s2.1) [93] = true then .ok (consAll l r, (s2.1.tail, s2.2)) else .error 50 := by
  unfold listP
  simp only [tail_drop]
  split
  · rfl
  · rcases rowP x ((ab L).drop i, nm) with k | ⟨l, s1⟩
    · rfl
    · dsimp only
      rcases (if isM (nx s1.1) [124] = true then x 999 (s1.1.tail, s1.2) else .ok (nilT, s1) : Res T) with k | ⟨r, s2⟩
      · rfl
      · dsimp only
        unfold expectP
        cases isM (nx s2.1) [93] <;> rfl
set_option maxHeartbeats 4000000 in
theorem list_c {r b e i cb cd d : Nat} {tk nv : Value} {L : List lx.Tok} {nm : List (List UInt8)} {w : World} {x : W} (h : Rd r b tk L e i nv nm w) (hw : WOk r b cb cd d tk L e x) (hC : Cl r cb d cd w) :
    Calls Tryz.prog 103 #[.pointer (some ⟨r, 0, none⟩), clV cb cd] w (TQ r b tk L e i w (listP x ((ab L).drop i, nm))) := by
  have H := Lib.hid h
  have HW := Lib.hid hw
  have hlt := h.lt
  have HX := Lib.hid (listP_eq x L i nm)
  have hrb0 := Lib.hid (heap_alloc_new w (.cells #[.int .i64 0, .int .i64 0, .string ⟨#[]⟩, .slice none 0 0] 25))
  have HR0 := Lib.hid (h.alloc (.cells #[.int .i64 0, .int .i64 0, .string ⟨#[]⟩, .slice none 0 0] 25))
  have C0 := Lib.hid (hC.stay ((Below.refl _ _).alloc (Nat.le_refl _) (.cells #[.int .i64 0, .int .i64 0, .string ⟨#[]⟩, .slice none 0 0] 25)))
  have HF0 := Lib.hid (Fr.of_below (r := r) (b := b) ((Below.refl w.heap.size w).alloc (Nat.le_refl _) (.cells #[.int .i64 0, .int .i64 0, .string ⟨#[]⟩, .slice none 0 0] 25)))
  have hws := Lib.hid (size_alloc w (.cells #[.int .i64 0, .int .i64 0, .string ⟨#[]⟩, .slice none 0 0] 25))
  clear h hw hC
  generalize listP x ((ab L).drop i, nm) = X at *
  unfold clV
  refine calls_marks Tryz.func103 rfl ?_
  simp only [Tryz.ntmps103, List.size_toArray, List.length_cons, List.length_nil, Nat.reduceAdd, Nat.reduceSub, Array.replicate_succ, Array.replicate_zero, List.push_toArray, List.append_toArray, List.nil_append, List.cons_append]
  go_wp2_with fail
  refine (atom_c _ _).mono ?_
  rintro en w1 ⟨rfl, hb⟩
  have hz1 := hb.size
  rw [hws.out] at hz1
  have hL1 : Lp r b cb cd w.heap.size w1.heap.size w.heap.size d tk L e i nv nm nilT (.slice none 0 0) w (w1.alloc (.cells #[.int .i64 3, .int .i64 0, .string ⟨#[91, 93]⟩, .slice none 0 0] 25)) :=
    ⟨(HR0.out.stay hb).alloc _, (HF0.out.trans (Fr.of_below hb)).alloc _, (C0.out.stay hb).stay ((Below.refl _ _).alloc (Nat.le_refl _) _), (Lib.alloc_old w1 _ _ (by omega)).trans ((hb.block w.heap.size (by rw [hws.out]; omega)).trans hrb0.out), heap_alloc_new w1 _, by rw [nilT, Rp]⟩
  have HL1 := Lib.hid hL1
  have kp := passes_c hL1.rd [93]
  rw [show bs [93] = ⟨#[93]⟩ from rfl] at kp
  have hW1 := Lib.hid (size_alloc w1 (.cells #[.int .i64 3, .int .i64 0, .string ⟨#[91, 93]⟩, .slice none 0 0] 25))
  clear hb hL1 hrb0 HR0 HF0 C0
  generalize hB5 : w1.heap.size = B5 at *
  have n1 : ¬ w.heap.size = B5 := by omega
  have n2 : ¬ B5 = w.heap.size := by omega
  rcases hq : isM (nx ((ab L).drop i)) [93] with _ | _
  · rw [hq] at kp
    have hX1 := Lib.hid (HX.out.trans (if_neg (by rw [hq]; decide)))
    clear hq HX
    go_wp2_with fail
    refine kp.mono ?_
    rintro en w2 ⟨rfl, hF2, hR2⟩
    have HL2 := Lib.hid (HL1.out.fr' hF2 hR2)
    simp only [Bool.false_eq_true, if_false] at HL2
    have hz2 := hF2.size
    rw [hW1.out] at hz2
    have kr := row_c HL2.out.rd HW.out HL2.out.cl
    unfold clV at kr
    clear hF2 hR2 kp HL1
    rcases hy : rowP x ((ab L).drop i, nm) with k | ⟨l, s1⟩
    · rw [hy] at kr
      have hX2 := Lib.hid (show X = .error k from hX1.out.trans (by rw [hy]))
      clear hy hX1
      go_wp2_with fail
      refine kr.mono ?_
      rintro en w9 ⟨p, rfl, hb⟩
      have HB := Lib.hid ((HL2.out.fr.below H.out).trans hb)
      clear hb kr
      unfold Wr
      go_wp2
      exact postM ⟨rfl, by rw [hX2.out]; exact ⟨p, rfl, HB.out⟩⟩
    · rw [hy] at kr
      have hX2 := Lib.hid (show X = _ from hX1.out.trans (by rw [hy]))
      clear hy hX1
      go_wp2_with fail
      refine kr.mono ?_
      rintro en w3 ⟨g, cap, i3, nv3, rfl, hRw3, hs3, hi3, hR3, hF3, hl3, hl0⟩
      have HL3 := Lib.hid (HL2.out.fr' hF3 hR3)
      have HRw3 := Lib.hid (hRw3.imp (D' := fun k => B5 + 1 ≤ k) fun k _ hk => by omega)
      have hX3 := Lib.hid hX2.out
      have hz3 := hF3.size
      have kp3 := passes_c hR3 [124]
      rw [show bs [124] = ⟨#[124]⟩ from rfl] at kp3
      have hll := hR3.good.len
      have hle3 := hR3.le
      obtain ⟨r1, n1'⟩ := s1
      simp only at hs3
      subst hs3
      clear hF3 hR3 hRw3 kr HL2 hX2
      rcases hq : isM (nx ((ab L).drop i3)) [124] with _ | _
      · rw [hq] at kp3
        have HXt := Lib.hid (show X = if isM (nx ((ab L).drop i3)) [93] = true then .ok (consAll l nilT, ((ab L).drop (i3 + 1), n1')) else .error 50 from hX3.out.trans (by rw [if_neg (by rw [hq]; decide)]; simp only [tail_drop]))
        clear hq hX3
        go_wp2_with fail
        refine kp3.mono ?_
        rintro en w4 ⟨rfl, hF4, hR4⟩
        have HL := HL3.out.fr' hF4 hR4
        simp only [Bool.false_eq_true, if_false] at HL
        have HL := Lib.hid HL
        have HRw := Lib.hid (HRw3.out.kept (hF4.keep HL3.out.rd (by decide) (by decide)))
        clear hF4 hR4 kp3 HL3 HRw3
        have ke := expect_c HL.out.rd [93]
        rw [show bs [93] = ⟨#[93]⟩ from rfl] at ke
        go_wp2_with fail
        refine ke.mono ?_
        rintro en w7 (⟨hm, rfl, hR7, hF7⟩ | ⟨hm, p, rfl, hb⟩)
        · have hXe := Lib.hid (HXt.out.trans (if_pos hm))
          have HL7 := Lib.hid (HL.out.fr' hF7 hR7)
          have HRw7 := Lib.hid (HRw.out.kept (hF7.keep HL.out.rd (by decide) (by decide)))
          clear hm hR7 hF7 ke HRw HL HXt
          go_wp2_with fail
          refine (back_c _ _ _ _).mono ?_
          rintro en w8 ⟨rfl, hw8⟩
          go_wp2_with fail
          refine (wpIn_wide (n := 3)).1 ?_
          obtain ⟨az, hcR, hel, hgD, hgl⟩ := HRw7.out.cellsC
          have hz0 := size_alloc w7 (.cells #[.slice (some ⟨g, 0, none⟩) l.length cap] 23)
          have hbs0 := heap_alloc_new w7 (.cells #[.slice (some ⟨g, 0, none⟩) l.length cap] 23)
          have hgo := Lib.alloc_old w7 (.cells #[.slice (some ⟨g, 0, none⟩) l.length cap] 23) g hgl
          have hb0 := (Below.refl w7.heap.size w7).alloc (Nat.le_refl _) (.cells #[.slice (some ⟨g, 0, none⟩) l.length cap] 23)
          have hl5 := lt_of HL7.out.loc
          have hl6 := lt_of HL7.out.res
          have hshape : ∀ i, i < l.length → ∃ a m c, az.getD i undef = .slice a m c := fun i hi => (hel i hi).shape
          have hN : l.length ≤ 100000 := by omega
          have hLi : Li r b cb cd w.heap.size B5 g w7.heap.size d tk L e (i3 + 1) nv3 n1' l az w (w7.alloc (.cells #[.slice (some ⟨g, 0, none⟩) l.length cap] 23)) nilT (.slice none 0 0) (w7.alloc (.cells #[.slice (some ⟨g, 0, none⟩) l.length cap] 23)) :=
            ⟨HL7.out.stay hb0, fun i hi => ((hel i hi).imp (D' := fun k => w.heap.size ≤ k ∧ k ≠ w.heap.size ∧ k ≠ B5) fun k _ hk => by omega).kept (Kt.below hb0), Kb.refl _ _ _, Nat.le_refl _⟩
          have hcR0 : RowC (w7.alloc (.cells #[.slice (some ⟨g, 0, none⟩) l.length cap] 23)) g l az := hcR.kb (Bs := g) ⟨hgo, hgo⟩
          have hg5 : g ≠ B5 := by omega
          clear hw8 hcR hel hgo hb0 HRw7
          generalize hw7 : w7.heap.size = Bs at *
          generalize hW0 : World.alloc w7 _ = W0 at *
          have hbs1 : W0.cell? ⟨Bs, 0, none⟩ = some (.slice (some ⟨g, 0, none⟩) l.length cap) := by rw [cell_at hbs0]; rfl
          have hst := back_stops Fence.wide 2 trivial rfl (by omega) Bs g cap l az hN W0 (by omega) (by omega) hbs1 hcR0 hshape
          have HLi := Lib.hid hLi
          have Hsh := Lib.hid hshape
          clear hLi hshape hcR0 hbs0 hbs1 HL7 hW0
          refine wpIn_rangeFunc_ownH (F := Fence.wide) rfl (by decide) (gf := 126) (lb := #[.pointer (some ⟨Bs, 0, none⟩)]) rfl trivial (enters_of Tryz.func126 (by kernel_rfl) rfl) hst (fun h k => h.trans k)
            (fun W q o o' hl h _ _ => ⟨World.putObj_heap_other (by omega), World.putObj_heap_other (by omega)⟩) (Below.refl _ _) (fun _ => rfl)
            (fun pre W => ∃ a, Li r b cb cd w.heap.size B5 g Bs d tk L e (i3 + 1) nv3 n1' l az w W0 (Rf l nilT pre) a W) (fun _ _ _ => False)
            (fun s A B row hs hg hr => by obtain ⟨a, hs⟩ := hs; exact ⟨a, hs.turn hg hr (by omega) (by omega) (by omega) hlt⟩) (fun _ _ _ _ _ hs _ _ => hs) ⟨_, HLi.out⟩
            (fun x a' W => ∃ Bx, W.heap[Bx]? = some (.cells #[.int .i64 ((l.getD x.1 dfT).k : Nat), .int .i64 (l.getD x.1 dfT).n, .string (bs (l.getD x.1 dfT).s), az.getD x.1 undef] 25 (0, 0)) ∧
              a' = { tmps := #[.pointer (some ⟨r, 0, none⟩), .func (.func 66) #[] #[.pointer (some ⟨cb, 0, none⟩), .pointer (some ⟨cd, 0, none⟩)], undef, undef, .pointer (some ⟨w.heap.size, 0, none⟩), .pointer (some ⟨B5, 0, none⟩), .slice (some ⟨g, 0, none⟩) l.length cap, undef, .pointer (some ⟨Bx, 0, none⟩),
                .agg #[.int .i64 3, .int .i64 0, .string ⟨#[91, 93]⟩, .slice none 0 0], .pointer (some ⟨r, 0, none⟩), .bool false, undef, .pointer (some ⟨r, 0, none⟩), .func (.func 66) #[] #[.pointer (some ⟨cb, 0, none⟩), .pointer (some ⟨cd, 0, none⟩)], .slice (some ⟨g, 0, none⟩) l.length cap, .pointer (some ⟨r, 0, none⟩),
                .bool false, undef, undef, .pointer (some ⟨r, 0, none⟩), .tuple #[], .slice (some ⟨g, 0, none⟩) l.length cap, .func (.func 126) #[] #[.pointer (some ⟨Bs, 0, none⟩)], .int .i64 (x.1 : Nat), .agg #[.int .i64 ((l.getD x.1 dfT).k : Nat), .int .i64 (l.getD x.1 dfT).n, .string (bs (l.getD x.1 dfT).s), az.getD x.1 undef], undef, undef, undef, undef, undef], defers := [] })
            (fun x a' s A B row hs hg hr => by obtain ⟨Bx, h1, h2⟩ := hs; exact ⟨Bx, (hg.block Bx (lt_of h1) (fun e => by obtain ⟨_, o, h3, h4⟩ := hr Bx e.symm; rw [h1] at h3; cases h3; cases h4)).trans h1, h2⟩) ?assign ?body ?done ?stop
          case assign =>
            intro q pre x W K hI hK
            obtain ⟨a, hI⟩ := hI
            obtain ⟨xa, xm, xc, hxe⟩ := Hsh.out x.1 x.2
            have hsz := hI.sz
            have hI2 := hI.stay ((Below.refl W.heap.size W).alloc (Nat.le_refl _) (.cells #[.int .i64 ((l.getD x.1 dfT).k : Nat), .int .i64 (l.getD x.1 dfT).n, .string (bs (l.getD x.1 dfT).s), az.getD x.1 undef] 25)) (by omega) (by omega)
            have hx2 := heap_alloc_new W (.cells #[.int .i64 ((l.getD x.1 dfT).k : Nat), .int .i64 (l.getD x.1 dfT).n, .string (bs (l.getD x.1 dfT).s), az.getD x.1 undef] 25)
            have hk2 : Kb g Bs W (W.alloc (.cells #[.int .i64 ((l.getD x.1 dfT).k : Nat), .int .i64 (l.getD x.1 dfT).n, .string (bs (l.getD x.1 dfT).s), az.getD x.1 undef] 25)) := ⟨Lib.alloc_old W _ g (by omega), Lib.alloc_old W _ Bs (by omega)⟩
            have HK := Lib.hid hK
            have HI2 := Lib.hid hI2
            have HX2 := Lib.hid hx2
            have HK2 := Lib.hid hk2
            clear hK hI hI2 hx2 hk2
            unfold encT
            rw [show (T.leaf 0 0 []) = dfT from rfl]
            have HK3 := Lib.hid (fun a' h => HK.out a' _ ((KeepsOthers.alloc _ _).from _) HK2.out ⟨a, HI2.out⟩ h)
            clear HK HI2 HK2
            rw [hxe] at HX2 HK3 ⊢
            generalize l.getD x.1 dfT = tx at *
            gi_wp2
            exact HK3.out _ ⟨W.heap.size, HX2.out, rfl⟩
          case body =>
            rintro q pre x a' W hl ⟨rec, hrec⟩ ⟨a, hI⟩ ⟨Bx, hx, rfl⟩ hlt'
            obtain ⟨xa, xm, xc, hxe⟩ := Hsh.out x.1 x.2
            obtain ⟨ra, rm, rc, rfl⟩ := hI.lp.tm.shape
            have hsz := hI.sz
            have HI := Lib.hid hI
            have Hfin := Lib.hid (fun w9 hb => hI.cons (W' := w9) x.2 hb (by omega) (by omega) (by omega) hlt (by omega) (by omega) hg5 (by omega) (by omega) (by omega))
            rw [hxe] at hx Hfin ⊢
            obtain ⟨q0, q1, q2, q3, _⟩ := cells4 hx
            obtain ⟨t0, t1, t2, t3, tf⟩ := cells4 hI.lp.loc
            have hRf := Lib.hid (Rf_snoc l nilT pre x)
            generalize hRn : Rf l nilT (pre ++ [x]) = Rn at *
            generalize Rf l nilT pre = Rp0 at *
            generalize l.getD x.1 dfT = tx at *
            clear hI
            gi_wp2_with (refine ⟨trivial, ?_⟩; gi_at_call 69; refine (CallsIn.inRound q (callsIn_wide.2 (compound_c _ _ _ _ _))).mono ?_; rintro e w9 ⟨rfl, hb⟩; obtain ⟨u0, u1, u2, u3, uf⟩ := cells4 (((hb.block B5 (by rw [size_alloc]; omega)).trans (Lib.alloc_old W _ B5 (by omega))).trans HI.out.lp.loc); have HF := Lib.hid (Hfin.out w9 hb); clear hb)
            obtain ⟨o1, o2, o3⟩ := HF.out
            refine ⟨(o2).from _, o3, ⟨.slice (some ⟨W.heap.size, 0, none⟩) 2 2, ?_⟩⟩
            rw [hRn, hRf.out]
            exact o1
          case done =>
            rintro D ys W hD rfl ⟨a, hI⟩ hK
            rw [Rf_all] at hI
            obtain ⟨t0, t1, t2, t3, _⟩ := cells4 hI.lp.loc
            obtain ⟨r0, r1, r2, r3, rf⟩ := cells4 hI.lp.res
            obtain ⟨ra, rm, rc, rfl⟩ := hI.lp.tm.shape
            have HI := Lib.hid hI
            clear hI
            simp only [Exit.inBlock, Exit.then]
            go_wp2
            exact fin_leaves (t := consAll l nilT) rfl rfl HI.out.lp.rd HI.out.lp.fr HI.out.lp.res (Nat.le_refl _) hlt HI.out.lp.tm (fun k hk => ⟨hk.1, hk.2.1⟩) hXe.out (by omega) hK (by omega)
          case stop =>
            intro D c pre W _ _ h
            exact h.elim
        · have hXe := Lib.hid (HXt.out.trans (if_neg (by rw [hm]; decide)))
          have HB := Lib.hid ((HL.out.fr.below H.out).trans hb)
          clear hm hb ke HRw HL HXt
          unfold Wr
          go_wp2
          exact postM ⟨rfl, by rw [hXe.out]; exact ⟨p, rfl, HB.out⟩⟩
      · rw [hq] at kp3
        have hil3 := isM_lt hq
        have HX4 := Lib.hid (show X = (match x 999 ((ab L).drop (i3 + 1), n1') with
          | .error k => .error k
          | .ok (r, s2) => if isM (nx s2.1) [93] = true then .ok (consAll l r, (s2.1.tail, s2.2)) else .error 50) from hX3.out.trans (by rw [if_pos hq]; simp only [tail_drop]))
        clear hq hX3
        go_wp2_with fail
        refine kp3.mono ?_
        rintro en w4 ⟨rfl, hF4, hR4⟩
        have HL4 := HL3.out.fr' hF4 hR4
        simp only [if_true] at HL4
        have HRw4 := HRw3.out.kept (hF4.keep HL3.out.rd (by decide) (by decide))
        have hz4 := hF4.size
        have kx := HW.out 999 (i3 + 1) nv3 n1' w4 (by decide) (by decide) HL4.cl HL4.rd
        clear hF4 hR4 kp3 HL3 HRw3
        rcases hx : x 999 ((ab L).drop (i3 + 1), n1') with k | ⟨rt, s4⟩
        · rw [hx] at kx
          have hXe := Lib.hid (show X = .error k from HX4.out.trans (by rw [hx]))
          clear hx HX4
          have HL := Lib.hid HL4
          clear HL4 HRw4
          go_wp2_with fail
          refine kx.mono ?_
          rintro en w5 ⟨p, rfl, hb⟩
          have HB := Lib.hid ((HL.out.fr.below H.out).trans hb)
          clear hb kx HL
          unfold Wr
          go_wp2
          exact postM ⟨rfl, by rw [hXe.out]; exact ⟨p, rfl, HB.out⟩⟩
        · rw [hx] at kx
          have HX5 := Lib.hid (show X = (if isM (nx s4.1) [93] = true then .ok (consAll l rt, (s4.1.tail, s4.2)) else .error 50) from HX4.out.trans (by rw [hx]))
          clear hx HX4
          have HL := Lib.hid HL4
          have HRw := Lib.hid HRw4
          clear HL4 HRw4
          go_wp2_with fail
          refine kx.mono ?_
          rintro en w5 ⟨a4, i4, nv4, rfl, hT4, hs4, hi4, hR5, hF5⟩
          obtain ⟨ra4, rm4, rc4, rfl⟩ := hT4.shape
          have hz5 := hF5.size
          have HL5 := HL.out.fr' hF5 hR5
          have HRw5 := HRw.out.kept (hF5.keep HL.out.rd (by decide) (by decide))
          have HT4 := hT4.imp (D' := fun k => w.heap.size ≤ k ∧ k ≠ w.heap.size ∧ k ≠ B5) fun k _ hk => by omega
          have hLs := HL5.store HT4 hlt (by omega) (by omega)
          obtain ⟨q4, n4⟩ := s4
          simp only at hs4
          subst hs4
          obtain ⟨v0, v1, v2, v3, vf⟩ := cells4 HL5.loc
          have hn5 : ¬ B5 + 1 ≤ B5 := by omega
          have HRw6 := (((HRw5.keptD (kd_set (p := ⟨B5, 0, none⟩) hn5 (.int .i64 (rt.k : Nat)))).keptD (kd_set (p := ⟨B5, 1, none⟩) hn5 (.int .i64 rt.n))).keptD (kd_set (p := ⟨B5, 2, none⟩) hn5 (.string (bs rt.s)))).keptD (kd_set (p := ⟨B5, 3, none⟩) hn5 (.slice ra4 rm4 rc4))
          have HXt := Lib.hid (show X = if isM (nx ((ab L).drop i4)) [93] = true then .ok (consAll l rt, ((ab L).drop (i4 + 1), n4)) else .error 50 from HX5.out.trans (by simp only [tail_drop]))
          clear HL HRw HX5 hT4 hR5 hF5 HRw5 HT4 kx HL5
          have HL := Lib.hid hLs
          have HRw := Lib.hid HRw6
          clear hLs HRw6
          have ke := expect_c HL.out.rd [93]
          rw [show bs [93] = ⟨#[93]⟩ from rfl] at ke
          go_wp2_with fail
          refine ke.mono ?_
          rintro en w7 (⟨hm, rfl, hR7, hF7⟩ | ⟨hm, p, rfl, hb⟩)
          · have hXe := Lib.hid (HXt.out.trans (if_pos hm))
            have HL7 := Lib.hid (HL.out.fr' hF7 hR7)
            have HRw7 := Lib.hid (HRw.out.kept (hF7.keep HL.out.rd (by decide) (by decide)))
            clear hm hR7 hF7 ke HRw HL HXt
            go_wp2_with fail
            refine (back_c _ _ _ _).mono ?_
            rintro en w8 ⟨rfl, hw8⟩
            go_wp2_with fail
            refine (wpIn_wide (n := 3)).1 ?_
            obtain ⟨az, hcR, hel, hgD, hgl⟩ := HRw7.out.cellsC
            have hz0 := size_alloc w7 (.cells #[.slice (some ⟨g, 0, none⟩) l.length cap] 23)
            have hbs0 := heap_alloc_new w7 (.cells #[.slice (some ⟨g, 0, none⟩) l.length cap] 23)
            have hgo := Lib.alloc_old w7 (.cells #[.slice (some ⟨g, 0, none⟩) l.length cap] 23) g hgl
            have hb0 := (Below.refl w7.heap.size w7).alloc (Nat.le_refl _) (.cells #[.slice (some ⟨g, 0, none⟩) l.length cap] 23)
            have hl5 := lt_of HL7.out.loc
            have hl6 := lt_of HL7.out.res
            have hshape : ∀ i, i < l.length → ∃ a m c, az.getD i undef = .slice a m c := fun i hi => (hel i hi).shape
            have hN : l.length ≤ 100000 := by omega
            have hLi : Li r b cb cd w.heap.size B5 g w7.heap.size d tk L e (i4 + 1) nv4 n4 l az w (w7.alloc (.cells #[.slice (some ⟨g, 0, none⟩) l.length cap] 23)) rt (.slice ra4 rm4 rc4) (w7.alloc (.cells #[.slice (some ⟨g, 0, none⟩) l.length cap] 23)) :=
              ⟨HL7.out.stay hb0, fun i hi => ((hel i hi).imp (D' := fun k => w.heap.size ≤ k ∧ k ≠ w.heap.size ∧ k ≠ B5) fun k _ hk => by omega).kept (Kt.below hb0), Kb.refl _ _ _, Nat.le_refl _⟩
            have hcR0 : RowC (w7.alloc (.cells #[.slice (some ⟨g, 0, none⟩) l.length cap] 23)) g l az := hcR.kb (Bs := g) ⟨hgo, hgo⟩
            have hg5 : g ≠ B5 := by omega
            clear hw8 hcR hel hgo hb0 HRw7
            generalize hw7 : w7.heap.size = Bs at *
            generalize hW0 : World.alloc w7 _ = W0 at *
            have hbs1 : W0.cell? ⟨Bs, 0, none⟩ = some (.slice (some ⟨g, 0, none⟩) l.length cap) := by rw [cell_at hbs0]; rfl
            have hst := back_stops Fence.wide 2 trivial rfl (by omega) Bs g cap l az hN W0 (by omega) (by omega) hbs1 hcR0 hshape
            have HLi := Lib.hid hLi
            have Hsh := Lib.hid hshape
            clear hLi hshape hcR0 hbs0 hbs1 HL7 hW0
            refine wpIn_rangeFunc_ownH (F := Fence.wide) rfl (by decide) (gf := 126) (lb := #[.pointer (some ⟨Bs, 0, none⟩)]) rfl trivial (enters_of Tryz.func126 (by kernel_rfl) rfl) hst (fun h k => h.trans k)
              (fun W q o o' hl h _ _ => ⟨World.putObj_heap_other (by omega), World.putObj_heap_other (by omega)⟩) (Below.refl _ _) (fun _ => rfl)
              (fun pre W => ∃ a, Li r b cb cd w.heap.size B5 g Bs d tk L e (i4 + 1) nv4 n4 l az w W0 (Rf l rt pre) a W) (fun _ _ _ => False)
              (fun s A B row hs hg hr => by obtain ⟨a, hs⟩ := hs; exact ⟨a, hs.turn hg hr (by omega) (by omega) (by omega) hlt⟩) (fun _ _ _ _ _ hs _ _ => hs) ⟨_, HLi.out⟩
              (fun x a' W => ∃ Bx, W.heap[Bx]? = some (.cells #[.int .i64 ((l.getD x.1 dfT).k : Nat), .int .i64 (l.getD x.1 dfT).n, .string (bs (l.getD x.1 dfT).s), az.getD x.1 undef] 25 (0, 0)) ∧
                a' = { tmps := #[.pointer (some ⟨r, 0, none⟩), .func (.func 66) #[] #[.pointer (some ⟨cb, 0, none⟩), .pointer (some ⟨cd, 0, none⟩)], undef, undef, .pointer (some ⟨w.heap.size, 0, none⟩), .pointer (some ⟨B5, 0, none⟩), .slice (some ⟨g, 0, none⟩) l.length cap, undef, .pointer (some ⟨Bx, 0, none⟩),
                  .agg #[.int .i64 3, .int .i64 0, .string ⟨#[91, 93]⟩, .slice none 0 0], .pointer (some ⟨r, 0, none⟩), .bool false, undef, .pointer (some ⟨r, 0, none⟩), .func (.func 66) #[] #[.pointer (some ⟨cb, 0, none⟩), .pointer (some ⟨cd, 0, none⟩)], .slice (some ⟨g, 0, none⟩) l.length cap, .pointer (some ⟨r, 0, none⟩),
                  .bool true, .func (.func 66) #[] #[.pointer (some ⟨cb, 0, none⟩), .pointer (some ⟨cd, 0, none⟩)], .agg #[.int .i64 (rt.k : Nat), .int .i64 rt.n, .string (bs rt.s), .slice ra4 rm4 rc4], .pointer (some ⟨r, 0, none⟩), .tuple #[], .slice (some ⟨g, 0, none⟩) l.length cap, .func (.func 126) #[] #[.pointer (some ⟨Bs, 0, none⟩)], .int .i64 (x.1 : Nat), .agg #[.int .i64 ((l.getD x.1 dfT).k : Nat), .int .i64 (l.getD x.1 dfT).n, .string (bs (l.getD x.1 dfT).s), az.getD x.1 undef], undef, undef, undef, undef, undef], defers := [] })
              (fun x a' s A B row hs hg hr => by obtain ⟨Bx, h1, h2⟩ := hs; exact ⟨Bx, (hg.block Bx (lt_of h1) (fun e => by obtain ⟨_, o, h3, h4⟩ := hr Bx e.symm; rw [h1] at h3; cases h3; cases h4)).trans h1, h2⟩) ?assign ?body ?done ?stop
            case assign =>
              intro q pre x W K hI hK
              obtain ⟨a, hI⟩ := hI
              obtain ⟨xa, xm, xc, hxe⟩ := Hsh.out x.1 x.2
              have hsz := hI.sz
              have hI2 := hI.stay ((Below.refl W.heap.size W).alloc (Nat.le_refl _) (.cells #[.int .i64 ((l.getD x.1 dfT).k : Nat), .int .i64 (l.getD x.1 dfT).n, .string (bs (l.getD x.1 dfT).s), az.getD x.1 undef] 25)) (by omega) (by omega)
              have hx2 := heap_alloc_new W (.cells #[.int .i64 ((l.getD x.1 dfT).k : Nat), .int .i64 (l.getD x.1 dfT).n, .string (bs (l.getD x.1 dfT).s), az.getD x.1 undef] 25)
              have hk2 : Kb g Bs W (W.alloc (.cells #[.int .i64 ((l.getD x.1 dfT).k : Nat), .int .i64 (l.getD x.1 dfT).n, .string (bs (l.getD x.1 dfT).s), az.getD x.1 undef] 25)) := ⟨Lib.alloc_old W _ g (by omega), Lib.alloc_old W _ Bs (by omega)⟩
              have HK := Lib.hid hK
              have HI2 := Lib.hid hI2
              have HX2 := Lib.hid hx2
              have HK2 := Lib.hid hk2
              clear hK hI hI2 hx2 hk2
              unfold encT
              rw [show (T.leaf 0 0 []) = dfT from rfl]
              have HK3 := Lib.hid (fun a' h => HK.out a' _ ((KeepsOthers.alloc _ _).from _) HK2.out ⟨a, HI2.out⟩ h)
              clear HK HI2 HK2
              rw [hxe] at HX2 HK3 ⊢
              generalize l.getD x.1 dfT = tx at *
              gi_wp2
              exact HK3.out _ ⟨W.heap.size, HX2.out, rfl⟩
            case body =>
              rintro q pre x a' W hl ⟨rec, hrec⟩ ⟨a, hI⟩ ⟨Bx, hx, rfl⟩ hlt'
              obtain ⟨xa, xm, xc, hxe⟩ := Hsh.out x.1 x.2
              obtain ⟨ra, rm, rc, rfl⟩ := hI.lp.tm.shape
              have hsz := hI.sz
              have HI := Lib.hid hI
              have Hfin := Lib.hid (fun w9 hb => hI.cons (W' := w9) x.2 hb (by omega) (by omega) (by omega) hlt (by omega) (by omega) hg5 (by omega) (by omega) (by omega))
              rw [hxe] at hx Hfin ⊢
              obtain ⟨q0, q1, q2, q3, _⟩ := cells4 hx
              obtain ⟨t0, t1, t2, t3, tf⟩ := cells4 hI.lp.loc
              have hRf := Lib.hid (Rf_snoc l rt pre x)
              generalize hRn : Rf l rt (pre ++ [x]) = Rn at *
              generalize Rf l rt pre = Rp0 at *
              generalize l.getD x.1 dfT = tx at *
              clear hI
              gi_wp2_with (refine ⟨trivial, ?_⟩; gi_at_call 69; refine (CallsIn.inRound q (callsIn_wide.2 (compound_c _ _ _ _ _))).mono ?_; rintro e w9 ⟨rfl, hb⟩; obtain ⟨u0, u1, u2, u3, uf⟩ := cells4 (((hb.block B5 (by rw [size_alloc]; omega)).trans (Lib.alloc_old W _ B5 (by omega))).trans HI.out.lp.loc); have HF := Lib.hid (Hfin.out w9 hb); clear hb)
              obtain ⟨o1, o2, o3⟩ := HF.out
              refine ⟨(o2).from _, o3, ⟨.slice (some ⟨W.heap.size, 0, none⟩) 2 2, ?_⟩⟩
              rw [hRn, hRf.out]
              exact o1
            case done =>
              rintro D ys W hD rfl ⟨a, hI⟩ hK
              rw [Rf_all] at hI
              obtain ⟨t0, t1, t2, t3, _⟩ := cells4 hI.lp.loc
              obtain ⟨r0, r1, r2, r3, rf⟩ := cells4 hI.lp.res
              obtain ⟨ra, rm, rc, rfl⟩ := hI.lp.tm.shape
              have HI := Lib.hid hI
              clear hI
              simp only [Exit.inBlock, Exit.then]
              go_wp2
              exact fin_leaves (t := consAll l rt) rfl rfl HI.out.lp.rd HI.out.lp.fr HI.out.lp.res (Nat.le_refl _) hlt HI.out.lp.tm (fun k hk => ⟨hk.1, hk.2.1⟩) hXe.out (by omega) hK (by omega)
            case stop =>
              intro D c pre W _ _ h
              exact h.elim
          · have hXe := Lib.hid (HXt.out.trans (if_neg (by rw [hm]; decide)))
            have HB := Lib.hid ((HL.out.fr.below H.out).trans hb)
            clear hm hb ke HRw HL HXt
            unfold Wr
            go_wp2
            exact postM ⟨rfl, by rw [hXe.out]; exact ⟨p, rfl, HB.out⟩⟩
  · rw [hq] at kp
    have hil := isM_lt hq
    have hX1 := Lib.hid (HX.out.trans (if_pos hq))
    clear hq HX
    go_wp2_with fail
    refine kp.mono ?_
    rintro en w2 ⟨rfl, hF2, hR2⟩
    have HL2 := HL1.out.fr' hF2 hR2
    simp only [if_true] at HL2
    have HL2 := Lib.hid HL2
    obtain ⟨t0, t1, t2, t3, _⟩ := cells4 HL2.out.loc
    obtain ⟨r0, r1, r2, r3, rf⟩ := cells4 HL2.out.res
    clear hF2 hR2 kp HL1
    go_wp2
    (try simp only [Exit.inBlock, Exit.then])
    refine postM (fin_term (t := nilT) rfl rfl HL2.out.rd HL2.out.fr HL2.out.res (Nat.le_refl _) hlt HL2.out.tm (fun k hk => ⟨hk.1, hk.2.1⟩) hX1.out (by omega))
end Go.Proofs.YtcdmmcogegnieaaGreatDoor.rd
end
