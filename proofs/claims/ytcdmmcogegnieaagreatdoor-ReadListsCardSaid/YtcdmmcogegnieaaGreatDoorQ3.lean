/- The scanner in memory; what only reads it: ends, opens, behindIs.; The library's string builder as this program has it (its copy check's panic is not run): copyCheck, WriteByte, WriteString; String by the shelf.; The scanner's methods that only read: ends, behindIs, opens, kind.; The scanner's opens: whether a '(' opens what stands right ahead of it.; The scanner's word: goes past a token without quotes.; What stands between tokens: the scanner's skipLine, skipRemark.; The scanner's skip: all that stands between tokens. -/
import Derived.Test.YtcdmmcogegnieaaGreatDoorQ2
import Derived.Laws.MakeOwn
import Derived.Laws.AppendOwn
import Derived.OwnWalk
import Derived.Carry
import Derived.RegionTactic
import Derived.BigRegion
import Derived.ChangeAlike
import Derived.Lib.Strings
import Derived.WideShapes
import Derived.Test.YtcdmmcogegnieaaGreatDoorShelf
import Derived.Lib.FrozenHead
import Derived.Lib.FrozenHead2
import Derived.Laws.Externs
import Derived.Deep.RegionHeld3
import Derived.StillTailTactics
import Derived.Deep.Fields
import Derived.Deep.WholeRow
import Derived.Deep.LoopGhost
import Derived.Lib.CutLaws
import Derived.Lib.IndexMore
set_option linter.unusedVariables false
section
/- The scanner in memory; what only reads it: ends, opens, behindIs. -/
namespace Go.Proofs.YtcdmmcogegnieaaGreatDoor.lx
open Go.RowKit

/-! ### frames -/
/-- all but block c is as it was; new blocks may have come -/
def Kp (c : Nat) (w w' : World) : Prop := w.grownBy w' (some c)
theorem Kp.refl (c : Nat) (w : World) : Kp c w w := World.grownBy.refl _ _
theorem Kp.trans {c : Nat} {w w1 w2 : World} (h : Kp c w w1) (h2 : Kp c w1 w2) : Kp c w w2 :=
  ⟨h2.os.trans h.os, h2.tape.trans h.tape, h2.output.trans h.output, Nat.le_trans h.size h2.size, fun k hk hne => (h2.block k (Nat.lt_of_lt_of_le hk h.size) hne).trans (h.block k hk hne)⟩
theorem Kp.drew {c : Nat} {w w1 : World} (h : Kp c w w1) (k : Nat) : Kp c w (w1.drewN k) := h.trans ⟨rfl, rfl, rfl, Nat.le_refl _, fun _ _ _ => rfl⟩
theorem Kp.drawn (c : Nat) (w : World) (k : Nat) : Kp c w (w.drewN k) := (Kp.refl c w).drew k
theorem Kp.set {c : Nat} {w w1 : World} (h : Kp c w w1) (j : Nat) (v : Value) : Kp c w (w1.setCell ⟨c, j, none⟩ v) :=
  h.trans ⟨rfl, rfl, rfl, by simp [World.setCell], fun k _ hk => Below.heap_setCell _ _ _ _ (fun e => hk (by simp [e]))⟩
theorem Kp.alloc {c : Nat} {w w1 : World} (h : Kp c w w1) (o : Obj) : Kp c w (w1.alloc o) := h.trans (World.grownBy_alloc w1 o _)
theorem Kp.of_below {c : Nat} {w w1 w2 : World} (h : Kp c w w1) (hb : Below w1.heap.size w1 w2) : Kp c w w2 :=
  h.trans ⟨hb.os, hb.tape, hb.output, hb.size, fun k hk _ => hb.block k hk⟩
theorem Kp.below {B c : Nat} {w w1 w2 : World} (h : Kp c w1 w2) (hb : Below B w w1) (hB : B ≤ c) (hs : B ≤ w1.heap.size) : Below B w w2 :=
  hb.grown h hs (fun k hk => by cases hk; exact hB)
/-- a new block's changes are none of the old ones' -/
theorem below_new {b : Nat} {w w1 : World} (hb : Below b w w1) (_hs : b ≤ w.heap.size) {k : Nat} (hk : k < b) : w1.heap[k]? = w.heap[k]? := hb.block k hk

/-! ### tokens in memory -/
def tcell (t : Tok) : List Value := [.int .i64 (t.kind : Nat), .string ⟨t.text.toArray⟩, .int .i64 (t.frm : Nat), .int .i64 (t.to : Nat)]
def tcells (ts : List Tok) : List Value := ts.flatMap tcell
theorem tcells_append (a b : List Tok) : tcells (a ++ b) = tcells a ++ tcells b := by simp [tcells]
theorem tcells_len (ts : List Tok) : (tcells ts).length = ts.length * 4 := by
  induction ts with
  | nil => rfl
  | cons t ts ih => rw [tcells, List.flatMap_cons, List.length_append, List.length_cons]; rw [tcells] at ih; rw [ih]; simp [tcell]; omega
theorem tcells_get (ts : List Tok) (i j : Nat) (hi : i < ts.length) (hj : j < 4) : (tcells ts)[i * 4 + j]? = (tcell ts[i])[j]? := by
  induction ts generalizing i with
  | nil => exact absurd hi (Nat.not_lt_zero _)
  | cons t ts ih =>
    rw [tcells, List.flatMap_cons]
    cases i with
    | zero => rw [List.getElem?_append_left (by simp [tcell]; omega)]; simp
    | succ i =>
      rw [List.getElem?_append_right (by simp [tcell]; omega)]
      rw [show (i + 1) * 4 + j - (tcell t).length = i * 4 + j from by simp [tcell]; omega]
      rw [tcells] at ih
      rw [ih i (by simpa using hi)]; rfl
/-- a slice of the call's own holds these tokens -/
def Tk (B : Nat) (w : World) (v : Value) (ts : List Tok) : Prop := w.ownsRow B 51 4 v ts.length (tcells ts)
theorem Tk.nil (B : Nat) (w : World) : Tk B w (.slice none 0 0) [] := World.ownsRow_nil w B _ 4
theorem Tk.shape {B : Nat} {w : World} {v : Value} {ts : List Tok} (h : Tk B w v ts) : ∃ a cap, v = .slice a ts.length cap := by
  rcases h.2 with ⟨h1, h2⟩ | ⟨g, cap, cur, h1, _⟩
  · exact ⟨none, 0, by rw [h2]; exact h1⟩
  · exact ⟨_, _, h1⟩
theorem Tk.row {B : Nat} {w : World} {v : Value} {ts : List Tok} (h : Tk B w v ts) (h0 : 0 < ts.length) : ∃ g cap, v = .slice (some ⟨g, 0, none⟩) ts.length cap ∧ ts.length ≤ cap ∧ B ≤ g ∧ g < w.heap.size ∧
    ∀ i (hi : i < ts.length), w.cell? ⟨g, i * 4, none⟩ = some (.int .i64 (ts[i].kind : Nat)) ∧ w.cell? ⟨g, i * 4 + 1, none⟩ = some (.string ⟨ts[i].text.toArray⟩) ∧
      w.cell? ⟨g, i * 4 + 2, none⟩ = some (.int .i64 (ts[i].frm : Nat)) ∧ w.cell? ⟨g, i * 4 + 3, none⟩ = some (.int .i64 (ts[i].to : Nat)) := by
  rcases h.2 with ⟨h1, h2⟩ | ⟨g, cap, cur, h1, hB, h3, h4, _⟩
  · omega
  · have hlt := (World.ownsRow.lt h) g (by rw [h1]; rfl)
    refine ⟨g, cap, h1, h4, hB, hlt.2, fun i hi => ?_⟩
    have hg := World.ownsRow.cells h (g := g) (by rw [h1]; rfl)
    have key : ∀ j (u : Value), j < 4 → (tcell ts[i])[j]? = some u → w.cell? ⟨g, i * 4 + j, none⟩ = some u := fun j u hj hu => by
      have e : (⟨g, 0, none⟩ : Addr).add (i * 4 + j) = ⟨g, i * 4 + j, none⟩ := by
        unfold Addr.add
        split
        · rename_i h0; simp at h0; simp
        · simp
      rw [← e]
      exact hg (i * 4 + j) u (by rw [tcells_get ts i j hi hj]; exact hu)
    exact ⟨key 0 _ (by omega) rfl, key 1 _ (by omega) rfl, key 2 _ (by omega) rfl, key 3 _ (by omega) rfl⟩
theorem Tk.mono {B B' : Nat} {w : World} {v : Value} {ts : List Tok} (h : Tk B w v ts) (hB : B' ≤ B) : Tk B' w v ts := by
  refine ⟨h.1, ?_⟩
  rcases h.2 with h1 | ⟨g', cap', cur, h1, h2, h3⟩
  · exact .inl h1
  · exact .inr ⟨g', cap', cur, h1, Nat.le_trans hB h2, h3⟩
theorem Tk.stay {B : Nat} {w w' : World} {v : Value} {ts : List Tok} (h : Tk B w v ts) (hb : Below w.heap.size w w') : Tk B w' v ts :=
  World.ownsRow.kept (row := none) h ⟨hb.os, hb.tape, hb.output, hb.size, fun k hk _ => hb.block k hk⟩ (by cases v.ownBlock <;> simp)
theorem Tk.kp {B c : Nat} {w w' : World} {v : Value} {ts : List Tok} (h : Tk B w v ts) (hk : Kp c w w') (hne : v.ownBlock ≠ some c) : Tk B w' v ts :=
  World.ownsRow.kept h hk (.inr hne)

/-! ### the scanner -/
/-- block c is a scanner of the text s at the place n that has these tokens -/
structure Sc (B c : Nat) (s : ByteArray) (n : Nat) (v : Value) (ts : List Tok) (w : World) : Prop where
  base : B ≤ c
  block : w.heap[c]? = some (.cells #[.string s, .int .i64 (n : Nat), v] 81 (0, 0))
  row : Tk B w v ts
  other : v.ownBlock ≠ some c
section
variable {B c n : Nat} {s : ByteArray} {v : Value} {ts : List Tok} {w : World}
theorem cell_at {cs : Array Value} {T : TypeId} {fr : Nat × Nat} (hb : w.heap[c]? = some (.cells cs T fr)) (j : Nat) : w.cell? ⟨c, j, none⟩ = cs[j]? := by
  simp [World.cell?, hb]
theorem Sc.lt (h : Sc B c s n v ts w) : c < w.heap.size := by
  rcases Nat.lt_or_ge c w.heap.size with h' | h'
  · exact h'
  · have := h.block; simp [Array.getElem?_eq_none h'] at this
theorem Sc.c0 (h : Sc B c s n v ts w) : w.cell? ⟨c, 0, none⟩ = some (.string s) := by rw [cell_at h.block]; rfl
theorem Sc.c1 (h : Sc B c s n v ts w) : w.cell? ⟨c, 1, none⟩ = some (.int .i64 (n : Nat)) := by rw [cell_at h.block]; rfl
theorem Sc.c2 (h : Sc B c s n v ts w) : w.cell? ⟨c, 2, none⟩ = some v := by rw [cell_at h.block]; rfl
theorem Sc.free (h : Sc B c s n v ts w) (j : Nat) : w.frozen? ⟨c, j, none⟩ = false := by simp [World.frozen?, h.block]
theorem Sc.drew (h : Sc B c s n v ts w) (k : Nat) : Sc B c s n v ts (w.drewN k) := ⟨h.base, h.block, h.row, h.other⟩
theorem Sc.alloc (h : Sc B c s n v ts w) (o : Obj) : Sc B c s n v ts (w.alloc o) :=
  ⟨h.base, (Lib.alloc_old w o c h.lt).trans h.block, World.ownsRow.alloc h.row o, h.other⟩
theorem Sc.stay {w' : World} (h : Sc B c s n v ts w) (hb : Below w.heap.size w w') : Sc B c s n v ts w' :=
  ⟨h.base, (hb.block c h.lt).trans h.block, h.row.stay hb, h.other⟩
/-- it moves on -/
theorem Sc.move (h : Sc B c s n v ts w) (m : Nat) {e : Int} (he : e = (m : Nat)) : Sc B c s m v ts (w.setCell ⟨c, 1, none⟩ (.int .i64 e)) := by
  subst he
  refine ⟨h.base, ?_, h.row.kp ((Kp.refl c w).set 1 _) h.other, h.other⟩
  simp [World.setCell, Array.getElem?_modify, h.block]
end

/-! ### bytes of a string -/
/-- byte k of a text -/
def bA (s : ByteArray) (k : Nat) : UInt8 := s.data.toList.getD k 0
theorem get_bA (s : ByteArray) : ∀ (k : Nat) (h : k < s.size), s[k]'h = bA s k := fun k h => by
  unfold bA
  rw [List.getD_eq_getElem?_getD, List.getElem?_eq_getElem (by simpa using h)]
  rfl
theorem drop_bA {s : ByteArray} {k : Nat} (h : k < s.size) : s.data.toList.drop k = bA s k :: s.data.toList.drop (k + 1) := by
  rw [List.drop_eq_getElem_cons (by simpa using h)]
  congr 1
  exact get_bA s k h
theorem drop_end {s : ByteArray} {k : Nat} (h : s.size ≤ k) : s.data.toList.drop k = [] := List.drop_eq_nil_of_le (by simpa using h)
theorem bA_le (s : ByteArray) (k : Nat) : (bA s k).toNat ≤ 255 := by have := (bA s k).toNat_lt; omega
theorem ieq_yes {a : Nat} (k : Int) (h : (a : Int) = k) : ((a : Int) == k) = true ∧ ((a : Int) != k) = false := by subst h; simp
theorem ieq_no {a : Nat} (k : Int) (h : (a : Int) ≠ k) : ((a : Int) == k) = false ∧ ((a : Int) != k) = true := by simp [h]

/-- a callee that changes nothing, asked in a region that reads, behind another such region -/
theorem still {f : FuncId} {args : Array Value} {w : World} {p q : Nat} {v : Value} (h : ∀ W, Calls Tryz.prog f args W fun e w' => e = .returned v ∧ W = w') :
    Calls Tryz.prog f args (w.drewN (p + q)) fun e w'' => e = .returned v ∧ ∃ m, w'' = w.drewN (p + m) := by
  refine (h _).mono ?_
  rintro e w' ⟨rfl, rfl⟩
  exact ⟨rfl, q, rfl⟩
/-- .. in the first one -/
theorem still0 {f : FuncId} {args : Array Value} {w : World} {q : Nat} {v : Value} (h : ∀ W, Calls Tryz.prog f args W fun e w' => e = .returned v ∧ W = w') :
    Calls Tryz.prog f args (w.drewN q) fun e w'' => e = .returned v ∧ ∃ m, w'' = w.drewN m := by
  refine (h _).mono ?_
  rintro e w' ⟨rfl, rfl⟩
  exact ⟨rfl, q, rfl⟩
end Go.Proofs.YtcdmmcogegnieaaGreatDoor.lx
end
section
/- The library's string builder as this program has it (its copy check's panic is not run): copyCheck, WriteByte, WriteString; String by the shelf. -/
namespace Go.Proofs.YtcdmmcogegnieaaGreatDoor.lx
open Go.RowKit

/-- block b is a builder that holds the bytes l -/
abbrev Bl (B b : Nat) (l : List UInt8) (w : World) : Prop := Lib.IsBuilderF 107 5 B b (Lib.byteCells l) w
theorem bl_info : (Tryz.prog.info? 107).map (·.size) = some 2 := by kernel_rfl
theorem bl_lies : liesAt Tryz.prog Tryz.prog.depth 107 (2 / Tryz.prog.cellsOf 107) 0 107 1 = true := by kernel_rfl
theorem u8_info : (Tryz.prog.info? 5).map (fun i => (i.zero, i.size, i.bytes)) = some (some (.int .u8 0), 1, 1) := by kernel_rfl

set_option maxRecDepth 20000 in
theorem check_used (b : Nat) (w : World) (h0 : w.cell? ⟨b, 0, none⟩ = some (.pointer (some ⟨b, 0, none⟩))) :
    Calls Tryz.prog 93 #[.pointer (some ⟨b, 0, none⟩)] w fun e w' => e = .returned (.tuple #[]) ∧ w = w' := by
  obtain ⟨j, hj, _⟩ := Option.map_eq_some_iff.1 bl_info
  go_enter Tryz.func93, Tryz.ntmps93
  go_wp2
  rw [Lib.run_neq_ptr_same w _ Tryz.underlying105 hj]
  go_wp2
  go_end0
  exact ⟨rfl, rfl⟩
set_option maxRecDepth 20000 in
theorem check_fresh (b : Nat) (w : World) (h0 : w.cell? ⟨b, 0, none⟩ = some (.pointer none)) (hsh : w.shape? b = some (107, 2)) (hfz : w.frozen? ⟨b, 0, none⟩ = false) :
    Calls Tryz.prog 93 #[.pointer (some ⟨b, 0, none⟩)] w fun e w' => e = .returned (.tuple #[]) ∧ w' = w.setCell ⟨b, 0, none⟩ (.pointer (some ⟨b, 0, none⟩)) := by
  obtain ⟨j, hj, hjs⟩ := Option.map_eq_some_iff.1 bl_info
  go_enter Tryz.func93, Tryz.ntmps93
  go_wp2
  rw [Lib.run_to_unsafe w ⟨b, 0, none⟩ Tryz.underlying105 Tryz.underlying128 hj (by rw [hjs]; decide) hsh (Nat.zero_lt_succ 1)]
  simp only [Result.andThen]
  rw [Oper.upon_value]
  go_wp2
  rw [run_callFunc_extern Tryz.func107 (by kernel_rfl) (by kernel_rfl) (by kernel_rfl) (e := Extern.AbiNoEscape.same) (by kernel_rfl)]
  rw [Lib.run_noEscape]
  simp only [Result.andThen]
  rw [Oper.upon_value]
  go_wp2
  rw [Lib.run_from_unsafe w ⟨b, 0, none⟩ Tryz.underlying128 Tryz.underlying105 hj hsh bl_lies]
  simp only [Result.andThen]
  rw [Oper.upon_value]
  go_wp2
  go_end0
  exact ⟨rfl, rfl⟩
theorem check_c (B b : Nat) (bs : List Value) (w : World) (h : Lib.IsBuilderF 107 5 B b bs w) :
    Calls Tryz.prog 93 #[.pointer (some ⟨b, 0, none⟩)] w fun e w' => e = .returned (.tuple #[]) ∧ Lib.BuilderAtF 107 5 B b (.pointer (some ⟨b, 0, none⟩)) bs w' ∧ Below B w w' := by
  rcases h with h | h
  · refine (check_fresh b w h.cell0 h.shape h.frozen0).mono ?_
    rintro e w' ⟨rfl, rfl⟩
    exact ⟨rfl, h.used _, (Below.refl B w).setCell (p := ⟨b, 0, none⟩) h.1 _⟩
  · refine (check_used b w h.cell0).mono ?_
    rintro e w' ⟨rfl, rfl⟩
    exact ⟨rfl, h, Below.refl B _⟩

/-- an opened builder: block b, used before; its bytes l lie in the slice v -/
structure Bu (B b : Nat) (v : Value) (l : List UInt8) (w : World) : Prop where
  low : B ≤ b
  head : w.heap[b]? = some (.cells #[.pointer (some ⟨b, 0, none⟩), v] 107 (0, 0))
  row : w.ownsRowF B 5 1 v l.length (Lib.byteCells l)
  apart : v.ownBlock ≠ some b
section
variable {B b : Nat} {v v' : Value} {l m : List UInt8} {w0 w W w2 : World}
theorem Bu.opened (h : Lib.BuilderAtF 107 5 B b (.pointer (some ⟨b, 0, none⟩)) (Lib.byteCells l) w) : ∃ v, Bu B b v l w :=
  h.2.elim fun v q => ⟨v, h.1, q.1, Lib.byteCells_length l ▸ q.2.1, q.2.2⟩
/-- what the walk reads of it -/
theorem Bu.reads (hh : w.heap[b]? = some (.cells #[.pointer (some ⟨b, 0, none⟩), v] 107 (0, 0))) :
    w.cell? ⟨b, 0, none⟩ = some (.pointer (some ⟨b, 0, none⟩)) ∧ w.cell? ⟨b, 1, none⟩ = some v ∧ w.frozen? ⟨b, 1, none⟩ = false :=
  ⟨(cell_at hh 0).trans rfl, (cell_at hh 1).trans rfl, by simp [World.frozen?, hh]⟩
/-- its slice was appended to, new blocks ahead of that or none: the head is as it was -/
theorem Bu.grew (h : Bu B b v l w) (hW : ∀ k, k < w.heap.size → W.heap[k]? = w.heap[k]?) (hz : w.heap.size ≤ W.heap.size) (hg : W.grownBy w2 v.ownBlock) : w2.heap[b]? = w.heap[b]? := by
  have hlt : b < w.heap.size := (Array.getElem?_eq_some_iff.1 h.head).1
  exact (hg.block b (Nat.lt_of_lt_of_le hlt hz) h.apart.symm).trans (hW b hlt)
/-- the longer slice is stored -/
theorem Bu.stored (h : Bu B b v l w) (h2 : w2.heap[b]? = w.heap[b]?) (n : Nat) (cs : List Value) (hn : n = (l ++ m).length) (hcs : cs = Lib.byteCells (l ++ m)) (ho : w2.ownsRowF B 5 1 v' n cs) : Bl B b (l ++ m) (w2.setCell ⟨b, 1, none⟩ v') := by
  subst hn hcs
  rw [← Lib.byteCells_length] at ho
  exact .inr (Lib.BuilderAtF.put h.low (h2.trans h.head) ho (by decide))
theorem Bu.frame (h : Bu B b v l w) (h0 : Below B w0 W) (hB : B ≤ W.heap.size) (hg : W.grownBy w2 v.ownBlock) : Below B w0 (w2.setCell ⟨b, 1, none⟩ v') :=
  (h0.grown hg hB fun k hk => (h.row.lt k hk).1).setCell (p := ⟨b, 1, none⟩) h.low _
/-- an own slice is a slice -/
theorem owns_slice {n : Nat} {cs : List Value} (h : w.ownsRowF B 5 1 v n cs) : ∃ a k c, v = .slice a k c := by
  rcases h.2 with h1 | ⟨g, c, _, _, h1, _⟩
  · exact ⟨none, 0, 0, h1.1⟩
  · exact ⟨_, _, c, h1⟩
end
theorem byte_new (w : World) (x : UInt8) (j : Nat) (u : Value) (hj : (Lib.byteCells [x])[j]? = some u) : (w.alloc (.cells #[.int .u8 (x.toNat : Nat)] 5)).cell? ((⟨w.heap.size, 0, none⟩ : Addr).add j) = some u := by
  obtain rfl : j = 0 := by
    have := (List.getElem?_eq_some_iff.1 hj).1
    rw [Lib.byteCells_length, List.length_singleton] at this; omega
  exact (cell_at (heap_alloc_new w _) 0).trans hj
theorem byte_one (x : UInt8) : ∀ u ∈ Lib.byteCells [x], u.oneCell' = true := fun u hu => by rw [List.mem_singleton.1 hu]; rfl

set_option maxHeartbeats 1000000 in
theorem writeByte_c (B b : Nat) (l : List UInt8) (x : UInt8) (w : World) (h : Bl B b l w) (hlen : l.length ≤ 1000000) (hBw : B ≤ w.heap.size) :
    Calls Tryz.prog 80 #[.pointer (some ⟨b, 0, none⟩), .int .u8 (x.toNat : Nat)] w fun e w' => e = .returned .nilIface ∧ Bl B b (l ++ [x]) w' ∧ Below B w w' := by
  obtain ⟨i0, hi, hz0, hz1, hz2⟩ := info_parts u8_info
  go_enter Tryz.func80, Tryz.ntmps80
  go_wp2_with (go_at_call 93; refine (check_c B b _ _ h).mono ?_)
  rintro e w1 ⟨rfl, h1, hb1⟩
  obtain ⟨v, hu⟩ := Bu.opened h1
  have HU := Lib.hid hu
  obtain ⟨c0, c1, _⟩ := Bu.reads hu.head
  have hz := hb1.size
  have HB1 := Lib.hid hb1
  clear hu h1 hb1
  go_wp2_with (at_builtin; refine wpList_append_ownF _ rfl _ _ 35 rfl B 5 i0 (.int .u8 0) 1 1 Tryz.underlying35 hi hz0 hz1 hz2 rfl (by decide) _ _ _ rfl (HU.out.row.alloc _) ⟨w1.heap.size, 0, none⟩ 1 1 (Lib.byteCells [x]) rfl rfl (byte_new w1 x) (byte_one x) (by unfold maxLen; omega) (by omega) (by simp; omega) ?_)
  intro v2 w2 ho hg _
  have hh := HU.out.grew (fun k hk => Lib.alloc_old w1 _ k hk) (by simp) hg
  obtain ⟨d0, d1, f1⟩ := Bu.reads (hh.trans HU.out.head)
  obtain ⟨sa, sl, sc, rfl⟩ := owns_slice ho
  have HO := Lib.hid ho
  have HH := Lib.hid hh
  have HG := Lib.hid hg
  clear ho hh hg
  go_wp2
  go_ret
  exact ⟨rfl, HU.out.stored HH.out _ _ (by simp) (by simp [Lib.byteCells]) HO.out, HU.out.frame (HB1.out.alloc (by omega) _) (by simp; omega) HG.out⟩

theorem bString_c (B b : Nat) (l : List UInt8) (w : World) (h : Bl B b l w) (hBw : B ≤ w.heap.size) :
    Calls Tryz.prog 78 #[.pointer (some ⟨b, 0, none⟩)] w fun e w' => e = .returned (.string ⟨l.toArray⟩) ∧ Below B w w' :=
  (Tryz.Builder_String_any_k B b l w h hBw).mono fun _ _ ⟨h1, _, h2, _⟩ => ⟨h1, h2⟩
/-- a builder that was just made -/
theorem bl_new (w : World) : Bl w.heap.size w.heap.size [] (w.alloc (.cells #[.pointer none, .slice none 0 0] 107)) :=
  .inl ⟨Nat.le_refl _, .slice none 0 0, heap_alloc_new w _, ⟨rfl, .inl ⟨rfl, rfl⟩⟩, by simp [Value.ownBlock]⟩
end Go.Proofs.YtcdmmcogegnieaaGreatDoor.lx
end
section
/- The scanner's methods that only read: ends, behindIs, opens, kind. -/
namespace Go.Proofs.YtcdmmcogegnieaaGreatDoor.lx
open Go.RowKit

/-- a '.' here ends a sentence -/
def endsB (s : ByteArray) (n : Nat) : Bool := bA s n == 46 && (n + 1 == s.size || bA s (n + 1) == 37 || cl (bA s (n + 1)) == 1)
theorem u8_eq (b : UInt8) (k : Nat) (hk : k < 256) : (b == UInt8.ofNat k) = (b.toNat == k) := by
  rw [Bool.eq_iff_iff, beq_iff_eq, beq_iff_eq]
  constructor
  · intro h; rw [h]; simp; omega
  · intro h; rw [← h]; simp

set_option maxHeartbeats 1000000 in
theorem ends_c {B c n : Nat} {s : ByteArray} {v : Value} {ts : List Tok} {w : World} (h : Sc B c s n v ts w) (hn : n < s.size) (hs : s.size ≤ 4096) :
    Calls Tryz.prog 82 #[.pointer (some ⟨c, 0, none⟩)] w fun e w' => e = .returned (.bool (endsB s n)) ∧ ∃ k, w' = w.drewN k := by
  have c0 := h.c0
  have c1 := h.c1
  clear h
  have hgt := get_bA s
  have hE : endsB s n = ((bA s n).toNat == 46 && (n + 1 == s.size || (bA s (n + 1)).toNat == 37 || cls (bA s (n + 1)).toNat == 1)) := by
    unfold endsB
    rw [show (46 : UInt8) = UInt8.ofNat 46 from rfl, show (37 : UInt8) = UInt8.ofNat 37 from rfl, u8_eq _ _ (by omega), u8_eq _ _ (by omega)]
  rw [hE]; clear hE
  have kc := class_c (bA s (n + 1)).toNat (bA_le s _)
  have i1 : IntKind.i64.wrap ((n : Int) + 1) = (n : Int) + 1 := IntWalk.i64_in _ (by omega)
  have i2 : ((n : Int) + 1).toNat = n + 1 := by omega
  have i3 : (0 : Int) ≤ (n : Int) + 1 := by omega
  have n1 : (n : Int) < s.size := by omega
  have n2 : (n : Int) + 1 ≤ s.size := by omega
  by_cases h1 : (bA s n).toNat = 46
  · obtain ⟨a1, a2⟩ := ieq_yes (a := (bA s n).toNat) 46 (by omega)
    have H1 := Lib.hid (show ((bA s n).toNat == 46) = true by simpa using h1)
    clear h1
    by_cases h2 : n + 1 = s.size
    · have b1 : ((n : Int) + 1 == (s.size : Int)) = true := by simp; omega
      have H2 := Lib.hid (show (n + 1 == s.size) = true by simpa using h2)
      clear h2
      go_enter Tryz.func82, Tryz.ntmps82
      go_wp2
      go_quiet (fail)
      go_wp2_with (go_at_call 59; (with_reducible refine (kc _).mono ?_); rintro e w' ⟨rfl, rfl⟩)
      go_ret
      exact ⟨ret_b (by rw [H1.out, H2.out]; rfl), _, rfl⟩
    · have b1 : ((n : Int) + 1 == (s.size : Int)) = false := by simp; omega
      have H2 := Lib.hid (show (n + 1 == s.size) = false by simpa using h2)
      have n3 : n + 1 < s.size := by omega
      have n4 : (n : Int) + 1 < s.size := by omega
      clear h2
      by_cases h3 : (bA s (n + 1)).toNat = 37
      · obtain ⟨d1, d2⟩ := ieq_yes (a := (bA s (n + 1)).toNat) 37 (by omega)
        have H3 := Lib.hid (show ((bA s (n + 1)).toNat == 37) = true by simpa using h3)
        clear h3
        go_enter Tryz.func82, Tryz.ntmps82
        go_wp2
        go_quiet (fail)
        go_wp2_with (go_at_call 59; (with_reducible refine (kc _).mono ?_); rintro e w' ⟨rfl, rfl⟩)
        go_ret
        exact ⟨ret_b (by rw [H1.out, H2.out, H3.out]; rfl), _, rfl⟩
      · obtain ⟨d1, d2⟩ := ieq_no (a := (bA s (n + 1)).toNat) 37 (by omega)
        have H3 := Lib.hid (show ((bA s (n + 1)).toNat == 37) = false by simpa using h3)
        clear h3
        by_cases h4 : cls (bA s (n + 1)).toNat = 1
        · obtain ⟨g1, g2⟩ := ieq_yes (a := cls (bA s (n + 1)).toNat) 1 (by omega)
          have H4 := Lib.hid (show (cls (bA s (n + 1)).toNat == 1) = true by simpa using h4)
          clear h4
          go_enter Tryz.func82, Tryz.ntmps82
          go_wp2
          go_quiet (fail)
          go_wp2_with (go_at_call 59; (with_reducible refine (kc _).mono ?_); rintro e w' ⟨rfl, rfl⟩)
          go_ret
          exact ⟨ret_b (by rw [H1.out, H2.out, H3.out, H4.out]; rfl), _, rfl⟩
        · obtain ⟨g1, g2⟩ := ieq_no (a := cls (bA s (n + 1)).toNat) 1 (by omega)
          have H4 := Lib.hid (show (cls (bA s (n + 1)).toNat == 1) = false by simpa using h4)
          clear h4
          go_enter Tryz.func82, Tryz.ntmps82
          go_wp2
          go_quiet (fail)
          go_wp2_with (go_at_call 59; (with_reducible refine (kc _).mono ?_); rintro e w' ⟨rfl, rfl⟩)
          go_ret
          exact ⟨ret_b (by rw [H1.out, H2.out, H3.out, H4.out]; rfl), _, rfl⟩
  · obtain ⟨a1, a2⟩ := ieq_no (a := (bA s n).toNat) 46 (by omega)
    have H1 := Lib.hid (show ((bA s n).toNat == 46) = false by simpa using h1)
    clear h1 kc
    go_enter Tryz.func82, Tryz.ntmps82
    go_wp2
    go_quiet (fail)
    go_wp2
    go_ret
    exact ⟨ret_b (by rw [H1.out]; rfl), _, rfl⟩

theorem behindIs_c {B c n : Nat} {s : ByteArray} {v : Value} {ts : List Tok} {w : World} (h : Sc B c s n v ts w) (hn : n < s.size) (hs : s.size ≤ 4096) (b : Nat) :
    Calls Tryz.prog 77 #[.pointer (some ⟨c, 0, none⟩), .int .u8 b] w fun e w' => e = .returned (.bool (decide (n + 1 < s.size) && (bA s (n + 1)).toNat == b)) ∧ w = w' := by
  have c0 := h.c0
  have c1 := h.c1
  clear h
  have hgt := get_bA s
  by_cases h2 : n + 1 < s.size
  · have H2 := Lib.hid (show decide (n + 1 < s.size) = true by simpa using h2)
    go_enter Tryz.func77, Tryz.ntmps77
    go_wp2
    go_ret
    refine ⟨ret_b ?_, rfl⟩
    rw [H2.out, Bool.true_and, Bool.eq_iff_iff]; simp; omega
  · have H2 := Lib.hid (show decide (n + 1 < s.size) = false by simpa using h2)
    go_enter Tryz.func77, Tryz.ntmps77
    go_wp2
    go_ret
    exact ⟨rfl, rfl⟩
end Go.Proofs.YtcdmmcogegnieaaGreatDoor.lx
end
section
/- The scanner's opens: whether a '(' opens what stands right ahead of it. -/
namespace Go.Proofs.YtcdmmcogegnieaaGreatDoor.lx
open Go.RowKit

theorem below_drawn (B : Nat) (w : World) (k : Nat) : Below B w (w.drewN k) := ⟨rfl, rfl, rfl, Nat.le_refl _, fun _ _ => rfl⟩
theorem opens_nil (n : Nat) : opens [] n = false := rfl
theorem opens_snoc (l : List Tok) (t : Tok) (n : Nat) : opens (l ++ [t]) n = (t.kind == 1 && t.to == n) := by simp [opens]

set_option maxHeartbeats 1000000 in
theorem opens_none {B c n : Nat} {s : ByteArray} {v : Value} {ts : List Tok} {w : World} (h : Sc B c s n v ts w) (hn : n < s.size) (_hs : s.size ≤ 4096) (hb : (bA s n).toNat ≠ 40 ∨ ts = []) :
    Calls Tryz.prog 81 #[.pointer (some ⟨c, 0, none⟩)] w fun e w' => e = .returned (.bool false) ∧ Below w.heap.size w w' := by
  have c0 := h.c0
  have c1 := h.c1
  have c2 := h.c2
  obtain ⟨a, cap, rfl⟩ := h.row.shape
  clear h
  have hgt := get_bA s
  by_cases h1 : (bA s n).toNat = 40
  · obtain rfl : ts = [] := hb.resolve_left (by simpa using h1)
    obtain ⟨a1, a2⟩ := ieq_yes (a := (bA s n).toNat) 40 (by omega)
    clear h1 hb
    rw [List.length_nil] at c2
    go_enter Tryz.func81, Tryz.ntmps81
    go_wp2
    go_quiet (fail)
    go_wp2
    go_ret
    exact ⟨rfl, below_drawn ..⟩
  · obtain ⟨a1, a2⟩ := ieq_no (a := (bA s n).toNat) 40 (by omega)
    clear h1 hb
    go_enter Tryz.func81, Tryz.ntmps81
    go_wp2
    go_quiet (fail)
    go_wp2
    go_ret
    exact ⟨rfl, below_drawn ..⟩

set_option maxHeartbeats 1000000 in
theorem opens_some {B c n : Nat} {s : ByteArray} {v : Value} {ts : List Tok} {w : World} (h : Sc B c s n v ts w) (hn : n < s.size) (_hs : s.size ≤ 4096) (hb : (bA s n).toNat = 40) (h0 : 0 < ts.length) (h1 : ts.length ≤ 1000) :
    Calls Tryz.prog 81 #[.pointer (some ⟨c, 0, none⟩)] w fun e w' => e = .returned (.bool (opens ts n)) ∧ Below w.heap.size w w' := by
  have c0 := h.c0
  have c1 := h.c1
  have c2 := h.c2
  obtain ⟨g, cap, rfl, hcap, hg, hgl, hcell⟩ := h.row.row h0
  have hlc := h.lt
  clear h
  obtain ⟨l, t, rfl⟩ : ∃ l t, ts = l ++ [t] := ⟨ts.dropLast, ts.getLast (by intro e; rw [e] at h0; exact absurd h0 (by decide)), (List.dropLast_concat_getLast _).symm⟩
  obtain ⟨d0, d1, d2, d3⟩ := hcell l.length (by simp)
  rw [List.getElem_append_right (Nat.le_refl _)] at d0 d1 d2 d3
  simp only [Nat.sub_self, List.getElem_cons_zero] at d0 d1 d2 d3
  rw [List.length_append, List.length_singleton] at c2 hcap h1
  rw [opens_snoc]
  clear hcell h0
  have hgt := get_bA s
  generalize l.length = m at *
  have m1 : IntKind.i64.wrap (((m + 1 : Nat) : Int) - 1) = (m : Int) := by rw [IntWalk.i64_in _ (by omega)]; omega
  obtain ⟨a1, a2⟩ := ieq_yes (a := (bA s n).toNat) 40 (by omega)
  clear hb
  go_enter Tryz.func81, Tryz.ntmps81
  go_wp2
  go_quiet (fail)
  generalize hw1 : World.drewN w _ = w1
  have hb1 : Below w.heap.size w w1 := hw1 ▸ below_drawn _ _ _
  have hz : w1.heap.size = w.heap.size := by rw [← hw1]; rfl
  have x1 : ∀ (k : Nat) (j : Nat), k < w.heap.size → w1.cell? ⟨k, j, none⟩ = w.cell? ⟨k, j, none⟩ := fun k j hk => World.cell?_of_block (hb1.block k hk)
  rw [← x1 _ _ hlc] at c0 c1 c2
  rw [← x1 _ _ hgl] at d0 d1 d2 d3
  rw [← hz] at hgl hlc
  clear hw1 hz x1
  have hb2 := Lib.hid hb1
  clear hb1
  go_wp2
  go_region
  generalize hw2 : World.drew (World.alloc w1 _) = w2
  have hbl : w2.heap[w1.heap.size]? = some (.cells #[.int .i64 (t.kind : Nat), .string ⟨t.text.toArray⟩, .int .i64 (t.frm : Nat), .int .i64 (t.to : Nat)] 51 (0, 0)) := by rw [← hw2]; exact heap_alloc_new w1 _
  have e1 : w2.cell? ⟨c, 1, none⟩ = some (.int .i64 (n : Nat)) := by rw [← hw2, ← c1]; exact World.cell?_of_block (Lib.alloc_old w1 _ c hlc)
  have p0 : w2.cell? ⟨w1.heap.size, 0, none⟩ = some (.int .i64 (t.kind : Nat)) := by rw [cell_at hbl]; rfl
  have p3 : w2.cell? ⟨w1.heap.size, 3, none⟩ = some (.int .i64 (t.to : Nat)) := by rw [cell_at hbl]; rfl
  have hb3 := Lib.hid (show Below w.heap.size w w2 by rw [← hw2]; exact (hb2.out.alloc hb2.out.size _).drew)
  clear hw2 hbl c0 c1 c2 d0 d1 d2 d3 hb2
  by_cases h5 : t.kind = 1
  · obtain ⟨r1, r2⟩ := ieq_yes (a := t.kind) 1 (by omega)
    have h6 : ((t.to : Int) == (n : Int)) = (t.to == n) := by rw [Bool.eq_iff_iff]; simp; omega
    have H5 := Lib.hid (show (t.kind == 1) = true by simpa using h5)
    clear h5
    go_wp2
    go_quiet (fail)
    go_wp2
    go_ret
    exact ⟨ret_b (by rw [H5.out, Bool.true_and]), hb3.out.trans (below_drawn ..)⟩
  · obtain ⟨r1, r2⟩ := ieq_no (a := t.kind) 1 (by omega)
    have H5 := Lib.hid (show (t.kind == 1) = false by simpa using h5)
    clear h5
    go_wp2
    go_quiet (fail)
    go_wp2
    go_ret
    exact ⟨ret_b (by rw [H5.out]; rfl), hb3.out.trans (below_drawn ..)⟩

theorem opens_c {B c n : Nat} {s : ByteArray} {v : Value} {ts : List Tok} {w : World} (h : Sc B c s n v ts w) (hn : n < s.size) (hs : s.size ≤ 4096) (h1 : ts.length ≤ 1000) :
    Calls Tryz.prog 81 #[.pointer (some ⟨c, 0, none⟩)] w fun e w' => e = .returned (.bool (decide (bA s n = 40) && opens ts n)) ∧ Below w.heap.size w w' := by
  by_cases hb : bA s n = 40
  · by_cases h0 : ts = []
    · rw [h0, opens_nil, Bool.and_false]; exact opens_none h hn hs (.inr h0)
    · rw [decide_eq_true hb, Bool.true_and]
      exact opens_some h hn hs (by rw [hb]; rfl) (List.length_pos_iff.2 h0) h1
  · rw [decide_eq_false hb, Bool.false_and]
    exact opens_none h hn hs (.inl fun e => hb (UInt8.toNat_inj.1 e))

/-- the kind of what begins at n, with a byte of the class y -/
def kindS (s : ByteArray) (n : Nat) (ts : List Tok) (y : Nat) : Nat :=
  if y = 3 then 2 else if y = 4 then 3 else if y = 8 then (if (decide (bA s n = 40) && opens ts n) = true then 4 else 5) else if y = 5 then (if endsB s n = true then 6 else 1) else 1

set_option maxHeartbeats 1000000 in
theorem kind_c {B c n : Nat} {s : ByteArray} {v : Value} {ts : List Tok} {w : World} (h : Sc B c s n v ts w) (hn : n < s.size) (hs : s.size ≤ 4096) (h1 : ts.length ≤ 1000) (y : Nat) :
    Calls Tryz.prog 64 #[.pointer (some ⟨c, 0, none⟩), .int .i64 y] w fun e w' => e = .returned (.int .i64 (kindS s n ts y : Nat)) ∧ Below w.heap.size w w' := by
  have ko := opens_c h hn hs h1
  have ke := ends_c h hn hs
  clear h
  unfold kindS
  by_cases y3 : y = 3
  · subst y3
    rw [if_pos rfl]
    clear ko ke
    go_enter Tryz.func64, Tryz.ntmps64
    go_wp2
    go_ret
    exact ⟨rfl, Below.refl _ _⟩
  by_cases y4 : y = 4
  · subst y4
    rw [if_neg (by decide), if_pos rfl]
    clear ko ke
    go_enter Tryz.func64, Tryz.ntmps64
    go_wp2
    go_ret
    exact ⟨rfl, Below.refl _ _⟩
  rw [if_neg y3, if_neg y4]
  by_cases y8 : y = 8
  · subst y8
    rw [if_pos rfl]
    clear ke y3 y4
    cases ho : (decide (bA s n = 40) && opens ts n) <;> rw [ho] at ko
    all_goals
      have Ho := Lib.hid ho
      clear ho
      go_enter Tryz.func64, Tryz.ntmps64
      go_wp2_with (go_at_call 81; (with_reducible refine ko.mono ?_); rintro e w' ⟨rfl, hb⟩)
      go_ret
      exact ⟨rfl, hb⟩
  rw [if_neg y8]
  by_cases y5 : y = 5
  · subst y5
    rw [if_pos rfl]
    clear ko y3 y4 y8
    cases ho : endsB s n <;> rw [ho] at ke
    all_goals
      have Ho := Lib.hid ho
      clear ho
      go_enter Tryz.func64, Tryz.ntmps64
      go_wp2_with (go_at_call 82; (with_reducible refine ke.mono ?_); rintro e w' ⟨rfl, k, rfl⟩)
      go_ret
      exact ⟨rfl, below_drawn ..⟩
  rw [if_neg y5]
  clear ko ke
  obtain ⟨p1, p2⟩ := ieq_no (a := y) 3 (by omega)
  obtain ⟨q1, q2⟩ := ieq_no (a := y) 4 (by omega)
  obtain ⟨r1, r2⟩ := ieq_no (a := y) 8 (by omega)
  obtain ⟨s1, s2⟩ := ieq_no (a := y) 5 (by omega)
  clear y3 y4 y8 y5
  go_enter Tryz.func64, Tryz.ntmps64
  go_wp2
  go_ret
  exact ⟨rfl, Below.refl _ _⟩
end Go.Proofs.YtcdmmcogegnieaaGreatDoor.lx
end
section
/- The scanner's word: goes past a token without quotes. -/
namespace Go.Proofs.YtcdmmcogegnieaaGreatDoor.lx
open Go.RowKit

/-- what goes on with a word of class y, behind the place n -/
def wordL (s : ByteArray) (n y : Nat) : List UInt8 := (s.data.toList.drop (n + 1)).takeWhile fun b => joinB y (cl b)
theorem wordL_is {s : ByteArray} {n m y : Nat} (hn : n < m) (hm : m ≤ s.size) (h1 : ∀ j, n + 1 ≤ j → j < m → joinB y (cl (bA s j)) = true) (h2 : m < s.size → joinB y (cl (bA s m)) = false) :
    wordL s n y = (s.data.toList.drop (n + 1)).take (m - (n + 1)) ∧ (wordL s n y).length = m - (n + 1) := by
  have e : wordL s n y = (s.data.toList.drop (n + 1)).take (m - (n + 1)) := by
    have hsp := List.take_append_drop (m - (n + 1)) (s.data.toList.drop (n + 1))
    unfold wordL
    conv => lhs; rw [← hsp]
    rw [List.takeWhile_append_of_pos, List.drop_drop, show n + 1 + (m - (n + 1)) = m from by omega]
    · by_cases h : m < s.size
      · rw [drop_bA h, List.takeWhile_cons, if_neg (by rw [h2 h]; decide), List.append_nil]
      · rw [drop_end (k := m) (by omega), List.takeWhile_nil, List.append_nil]
    · intro b hb
      obtain ⟨i, hi, rfl⟩ := List.mem_iff_getElem.1 hb
      have hl := List.length_take_le (m - (n + 1)) (s.data.toList.drop (n + 1))
      rw [List.getElem_take, List.getElem_drop]
      have := h1 (n + 1 + i) (by omega) (by omega)
      unfold bA at this
      rwa [List.getD_eq_getElem?_getD, List.getElem?_eq_getElem (by simp; omega)] at this
  refine ⟨e, ?_⟩
  rw [e, List.length_take, List.length_drop]
  have : s.data.toList.length = s.size := by simp
  omega
theorem wordL_text {s : ByteArray} {n m y : Nat} (hn : n < m) (hm : m ≤ s.size) (h1 : ∀ j, n + 1 ≤ j → j < m → joinB y (cl (bA s j)) = true) (h2 : m < s.size → joinB y (cl (bA s m)) = false) :
    s.extract n m = ⟨(bA s n :: wordL s n y).toArray⟩ := by
  rw [(wordL_is hn hm h1 h2).1, Lib.extract_eq, drop_bA (by omega), show m - n = (m - (n + 1)) + 1 from by omega, List.take_succ_cons]

theorem word_end {B c n m y : Nat} {s : ByteArray} {v : Value} {ts : List Tok} {w wr : World} (hn : n < m) (hm : m ≤ s.size) (h1 : ∀ j, n + 1 ≤ j → j < m → joinB y (cl (bA s j)) = true) (h2 : m < s.size → joinB y (cl (bA s m)) = false)
    (hS : Sc B c s m v ts wr) (hK : Kp c w wr) (p q : Nat) :
    Ending.returned (.string (s.extract n m)) = .returned (.string ⟨(bA s n :: wordL s n y).toArray⟩) ∧ Sc B c s (n + 1 + (wordL s n y).length) v ts ((wr.drewN p).drewN q) ∧ Kp c w ((wr.drewN p).drewN q) := by
  rw [wordL_text hn hm h1 h2, (wordL_is hn hm h1 h2).2, show n + 1 + (m - (n + 1)) = m from by omega]
  exact ⟨rfl, (hS.drew p).drew q, (hK.drew p).drew q⟩

set_option maxHeartbeats 1000000 in
theorem word_c {B c n : Nat} {s : ByteArray} {v : Value} {ts : List Tok} {w : World} (h : Sc B c s n v ts w) (hn : n < s.size) (hs : s.size ≤ 4096) (y : Nat) :
    Calls Tryz.prog 65 #[.pointer (some ⟨c, 0, none⟩), .int .i64 y] w fun e w' => e = .returned (.string ⟨(bA s n :: wordL s n y).toArray⟩) ∧ Sc B c s (n + 1 + (wordL s n y).length) v ts w' ∧ Kp c w w' := by
  have c0 := h.c0
  have c1 := h.c1
  have f1 := h.free 1
  have hh := Lib.hid (h.move (n + 1) (e := (n : Int) + 1) (by omega))
  have hk0 := Lib.hid ((Kp.refl c w).set 1 (.int .i64 ((n : Int) + 1)))
  clear h
  have hgt := get_bA s
  go_enter Tryz.func65, Tryz.ntmps65
  go_wp2
  clear c0 c1 f1
  go_loopg [] (s.size - (n + 1)) (fun k wr => ∃ m : Nat, k = s.size - m ∧ m ≤ s.size ∧ n < m ∧ Hid (∀ j, n + 1 ≤ j → j < m → joinB y (cl (bA s j)) = true) ∧ Hid (Sc B c s m v ts wr) ∧ Hid (Kp c w wr))
  case atStart => exact ⟨n + 1, rfl, by omega, by omega, Lib.hid (fun j h1 h2 => absurd h2 (by omega)), hh, hk0⟩
  case round =>
    obtain ⟨m, hgk, hm, hnm, hj, hS, hK⟩ := hrel
    have c0 := hS.out.c0
    have c1 := hS.out.c1
    have f1 := hS.out.free 1
    have hmm : (m : Int) ≤ s.size := by omega
    have hn0 : (n : Int) ≤ m := by omega
    by_cases hlt : m < s.size
    · have hlt2 : (m : Int) < s.size := by omega
      have kc := class_c (bA s m).toNat (bA_le s _)
      have kj := joins_c y (cls (bA s m).toNat)
      cases hj2 : joinB y (cl (bA s m))
      all_goals
        have Hj := Lib.hid hj2
        unfold cl at hj2
        rw [hj2] at kj
        clear hj2
      · go_wp2
        go_quiet ((first | (go_at_call 59; first | exact still0 kc | exact still kc) | (go_at_call 83; first | exact still0 kj | exact still kj)))
        go_wp2
        go_quiet (fail)
        go_wp2
        go_ret
        exact word_end hnm hm hj.out (fun _ => Hj.out) hS.out hK.out _ _
      · have hj' := Lib.hid (show ∀ j, n + 1 ≤ j → j < m + 1 → joinB y (cl (bA s j)) = true from fun j h1 h2 => by
          by_cases e : j = m
          · rw [e]; exact Hj.out
          · exact hj.out j h1 (by omega))
        go_wp2
        go_quiet ((first | (go_at_call 59; first | exact still0 kc | exact still kc) | (go_at_call 83; first | exact still0 kj | exact still kj)))
        go_wp2
        go_roundg (s.size - (m + 1))
        case measure => omega
        case rel => exact ⟨m + 1, rfl, by omega, by omega, hj', Lib.hid ((hS.out.drew _).move (m + 1) (by omega)), Lib.hid ((hK.out.drew _).set 1 _)⟩
    · have hlt2 : ¬ ((m : Int) < s.size) := by omega
      go_wp2
      go_quiet (fail)
      go_wp2
      go_quiet (fail)
      go_wp2
      go_ret
      exact word_end hnm hm hj.out (fun h => absurd h hlt) hS.out hK.out _ _
end Go.Proofs.YtcdmmcogegnieaaGreatDoor.lx
end
section
/- What stands between tokens: the scanner's skipLine, skipRemark. -/
namespace Go.Proofs.YtcdmmcogegnieaaGreatDoor.lx
open Go.RowKit

/-! ### lists -/
/-- how long a line goes on -/
def lineLen (l : List UInt8) : Nat := (l.takeWhile fun b => b != 10).length
theorem lineLen_le (l : List UInt8) : lineLen l ≤ l.length := (List.takeWhile_prefix _).length_le
theorem lineLen_cons (b : UInt8) (l : List UInt8) (h : b ≠ 10) : lineLen (b :: l) = lineLen l + 1 := by
  unfold lineLen; rw [List.takeWhile_cons, if_pos (by simpa using h)]; rfl
theorem ans_comment (M : Nat) (l : List UInt8) (ts : List Tok) : ∀ n, ans M l ts n .line = ans M (l.drop (lineLen l)) ts (n + lineLen l) .btw := by
  induction l with
  | nil => intro n; rfl
  | cons b l ih =>
    intro n
    by_cases h : b = 10
    · subst h; rw [ans_line_end]; rfl
    · rw [lineLen_cons b l h, ans_cons, step, if_neg h, show n + (lineLen l + 1) = n + 1 + lineLen l from by omega]; exact ih (n + 1)
theorem ans_percent (M : Nat) (l : List UInt8) (ts : List Tok) (n : Nat) : ans M (37 :: l) ts n .btw = ans M ((37 :: l).drop (lineLen (37 :: l))) ts (n + lineLen (37 :: l)) .btw := by
  have h : ans M (37 :: l) ts n .btw = ans M l ts (n + 1) .line := by rw [ans_cons, step, start, if_neg (by decide), if_pos rfl]
  rw [h, ans_comment, lineLen_cons _ _ (by decide), List.drop_succ_cons, show n + (lineLen l + 1) = n + 1 + lineLen l from by omega]
theorem index_line (l : List UInt8) : (Lib.indexByte l 10 = -1 ∧ lineLen l = l.length) ∨ (Lib.indexByte l 10 = (lineLen l : Nat) ∧ lineLen l < l.length) := by
  induction l with
  | nil => exact .inl ⟨rfl, rfl⟩
  | cons b l ih =>
    by_cases h : b = 10
    · subst h; exact .inr ⟨rfl, Nat.succ_pos _⟩
    · rw [lineLen_cons b l h, Lib.indexByte, if_neg (by simpa using h), List.length_cons]
      rcases ih with ⟨h1, h2⟩ | ⟨h1, h2⟩
      · left; rw [h1]; exact ⟨rfl, by rw [h2]⟩
      · right; rw [h1, if_neg (by simp)]; exact ⟨by omega, by omega⟩
theorem cut_rem (l : List UInt8) : (Lib.cut l [42, 47] = (l, [], false) ∧ cutRem l = none) ∨ (∃ r, (∃ b, Lib.cut l [42, 47] = (b, r, true)) ∧ cutRem l = some r ∧ r.length + 2 ≤ l.length ∧ r = l.drop (l.length - r.length)) := by
  have key : (Lib.index l [42, 47] = -1 ∧ cutRem l = none) ∨ (∃ i : Nat, Lib.index l [42, 47] = i ∧ i + 2 ≤ l.length ∧ cutRem l = some (l.drop (i + 2))) := by
    induction l with
    | nil => exact .inl ⟨rfl, rfl⟩
    | cons a l ih =>
      cases l with
      | nil =>
        left
        refine ⟨?_, rfl⟩
        rw [Lib.index, if_neg (by simp), Lib.index]; rfl
      | cons b r =>
        rw [cutRem]
        by_cases h : a = 42 ∧ b = 47
        · obtain ⟨rfl, rfl⟩ := h
          right
          exact ⟨0, by rw [Lib.index, if_pos (by simp)]; rfl, by simp, by simp⟩
        · rw [if_neg h, Lib.index, if_neg (by simp; exact fun e1 e2 => h ⟨e1.symm, e2.symm⟩)]
          rcases ih with ⟨h1, h2⟩ | ⟨i, h1, h2, h3⟩
          · left; rw [h1]; exact ⟨rfl, h2⟩
          · right
            refine ⟨i + 1, by rw [h1, if_neg (by simp)]; omega, by simp at h2 ⊢; omega, by rw [h3]; rfl⟩
  unfold Lib.cut
  rcases key with ⟨h1, h2⟩ | ⟨i, h1, h2, h3⟩
  · left; rw [h1]; exact ⟨rfl, h2⟩
  · right
    have hl : (l.drop (i + 2)).length = l.length - (i + 2) := by simp
    refine ⟨l.drop (i + 2), ⟨l.take i, ?_⟩, h3, by omega, ?_⟩
    · rw [h1, if_pos (by omega)]; simp
    · rw [hl, show l.length - (l.length - (i + 2)) = i + 2 from by omega]

/-- the scanner gives up: the place and the error -/
def Wrong (p e : Nat) : Ending := .panicked [{ v := .iface 78 (.agg #[.int .i64 (p : Nat), .int .i64 (e : Nat)]), recovered := false }]
/-- the library's MaxLen is some number -/
def GM (w : World) : Prop := ∃ m, w.cell? ⟨2, 0, none⟩ = some (.int .i64 m)
theorem heap_pos {w : World} (h : GM w) : 2 < w.heap.size := by
  obtain ⟨m, hm⟩ := h
  rcases Nat.lt_or_ge 2 w.heap.size with h' | h'
  · exact h'
  · unfold World.cell? at hm; simp [Array.getElem?_eq_none (show w.heap.size ≤ 2 by omega)] at hm
theorem GM.kp {c : Nat} {w w' : World} (h : GM w) (hk : Kp c w w') (hc : 2 < c) : GM w' := by
  have h0 := heap_pos h
  obtain ⟨m, hm⟩ := h
  exact ⟨m, by rw [← hm]; exact World.cell?_of_block (hk.block 2 h0 (by intro e; cases e; omega))⟩
theorem GM.below {B : Nat} {w w' : World} (h : GM w) (hb : Below B w w') (hB : 2 < B) : GM w' := by
  obtain ⟨m, hm⟩ := h
  exact ⟨m, by rw [← hm]; exact World.cell?_of_block (hb.block 2 hB)⟩

theorem size_of {s : ByteArray} {l : List UInt8} (h : s.data.toList = l) : s.size = l.length := by rw [← h]; simp

set_option maxHeartbeats 1000000 in
theorem skipLine_c {B c n : Nat} {s r : ByteArray} {v : Value} {ts : List Tok} {w : World} (h : Sc B c s n v ts w) (hn : n ≤ s.size) (hs : s.size ≤ 4096) (hr : r.data.toList = s.data.toList.drop n) :
    Calls Tryz.prog 60 #[.pointer (some ⟨c, 0, none⟩), .string r] w fun e w' => e = .returned (.tuple #[]) ∧ Sc B c s (n + lineLen (s.data.toList.drop n)) v ts w' ∧ Kp c w w' := by
  have c0 := h.c0
  have c1 := h.c1
  have f1 := h.free 1
  have hh := Lib.hid h
  clear h
  have hz : r.size ≤ 4096 := by rw [size_of hr]; simp; omega
  have hrl := size_of hr
  have ki := fun w => Tryz.strings_IndexByte r 10 w
  rw [hr] at ki
  have hl := lineLen_le (s.data.toList.drop n)
  have Hr := Lib.hid hr
  clear hr
  rcases index_line (s.data.toList.drop n) with ⟨h1, h2⟩ | ⟨h1, h2⟩
  all_goals
    rw [show (10 : Int).toNat.toUInt8 = 10 from rfl, h1] at ki
    rw [← hrl] at h2 hl
    have H1 := Lib.hid h1
    have Hrl := Lib.hid hrl
    clear h1 hrl
    generalize lineLen (s.data.toList.drop n) = q at *
  · subst h2
    go_enter Tryz.func60, Tryz.ntmps60
    go_wp2_with (go_at_call 74; (with_reducible refine (ki _).mono ?_); rintro e w' ⟨rfl, rfl⟩)
    go_end0
    exact ⟨rfl, hh.out.move _ (by omega), (Kp.refl c _).set 1 _⟩
  · go_enter Tryz.func60, Tryz.ntmps60
    go_wp2_with (go_at_call 74; (with_reducible refine (ki _).mono ?_); rintro e w' ⟨rfl, rfl⟩)
    go_end0
    exact ⟨rfl, hh.out.move _ (by omega), (Kp.refl c _).set 1 _⟩

set_option maxHeartbeats 1000000 in
theorem skipRemark_none {B c n : Nat} {s r : ByteArray} {v : Value} {ts : List Tok} {w : World} (h : Sc B c s n v ts w) (hg : GM w) (hn : n + 2 ≤ s.size) (hs : s.size ≤ 4096) (hr : r.data.toList = s.data.toList.drop n)
    (hq : cutRem (s.data.toList.drop (n + 2)) = none) :
    Calls Tryz.prog 62 #[.pointer (some ⟨c, 0, none⟩), .string r] w fun e w' => e = Wrong n 31 ∧ Kp c w w' := by
  have c0 := h.c0
  have c1 := h.c1
  clear h
  obtain ⟨gm, hgm⟩ := hg
  have hz : 2 ≤ r.size ∧ r.size ≤ 4096 := by rw [size_of hr]; simp; omega
  have hr2 : (r.extract 2 r.size).data.toList = s.data.toList.drop (n + 2) := by rw [Lib.extract_to_end, hr, List.drop_drop]
  have hz2 : (r.extract 2 r.size).size < 4294967281 := by rw [size_of hr2]; simp; omega
  have kc := fun w hm => Tryz.strings_Cut (r.extract 2 r.size) ⟨#[42, 47]⟩ gm w hz2 hm
  rw [hr2] at kc
  rcases cut_rem (s.data.toList.drop (n + 2)) with ⟨h1, _⟩ | ⟨x, _, h1, _⟩
  · rw [show (ByteArray.mk #[42, 47]).data.toList = [42, 47] from rfl, h1] at kc
    clear h1 hr hr2 hz2 hq
    go_enter Tryz.func62, Tryz.ntmps62
    go_wp2_with (go_at_call 76; (with_reducible refine (kc _ hgm).mono ?_); rintro e w' ⟨rfl, k, rfl⟩)
    exact ⟨rfl, rfl, Kp.drawn ..⟩
  · rw [hq] at h1; cases h1
set_option maxHeartbeats 1000000 in
theorem skipRemark_some {B c n : Nat} {s r : ByteArray} {v : Value} {ts : List Tok} {w : World} (h : Sc B c s n v ts w) (hg : GM w) (hn : n + 2 ≤ s.size) (hs : s.size ≤ 4096) (hr : r.data.toList = s.data.toList.drop n)
    {q : List UInt8} (hq : cutRem (s.data.toList.drop (n + 2)) = some q) :
    Calls Tryz.prog 62 #[.pointer (some ⟨c, 0, none⟩), .string r] w fun e w' => e = .returned (.tuple #[]) ∧ Sc B c s (s.size - q.length) v ts w' ∧ Kp c w w' := by
  have c0 := h.c0
  have c1 := h.c1
  have f1 := h.free 1
  have hh := Lib.hid h
  clear h
  obtain ⟨gm, hgm⟩ := hg
  have hz : 2 ≤ r.size ∧ r.size ≤ 4096 := by rw [size_of hr]; simp; omega
  have hr2 : (r.extract 2 r.size).data.toList = s.data.toList.drop (n + 2) := by rw [Lib.extract_to_end, hr, List.drop_drop]
  have hz2 : (r.extract 2 r.size).size < 4294967281 := by rw [size_of hr2]; simp; omega
  have kc := fun w hm => Tryz.strings_Cut (r.extract 2 r.size) ⟨#[42, 47]⟩ gm w hz2 hm
  rw [hr2] at kc
  rcases cut_rem (s.data.toList.drop (n + 2)) with ⟨_, h1⟩ | ⟨x, ⟨b, h0⟩, h1, h2, _⟩
  · rw [hq] at h1; cases h1
  · rw [hq] at h1; cases h1
    rw [show (ByteArray.mk #[42, 47]).data.toList = [42, 47] from rfl, h0] at kc
    have hql : q.length ≤ s.size := by simp at h2; omega
    have hqs : (ByteArray.mk q.toArray).size = q.length := by simp [ByteArray.size]
    clear h0 h2 hr hr2 hz2 hq
    rw [← hqs] at hql ⊢
    clear hqs
    generalize ByteArray.mk q.toArray = qs at *
    have hql2 : (qs.size : Int) ≤ s.size := by omega
    go_enter Tryz.func62, Tryz.ntmps62
    go_wp2_with (go_at_call 76; (with_reducible refine (kc _ hgm).mono ?_); rintro e w' ⟨rfl, k, rfl⟩)
    go_end0
    exact ⟨rfl, (hh.out.drew k).move _ (by omega), (Kp.drawn c w k).set 1 _⟩
end Go.Proofs.YtcdmmcogegnieaaGreatDoor.lx
end
section
/- The scanner's skip: all that stands between tokens. -/
namespace Go.Proofs.YtcdmmcogegnieaaGreatDoor.lx
open Go.RowKit

theorem ans_blank (M : Nat) (b : UInt8) (l : List UInt8) (ts : List Tok) (n : Nat) (h : cl b = 1) : ans M (b :: l) ts n .btw = ans M l ts (n + 1) .btw := by
  rw [ans_cons, step, start, if_pos h]
theorem ans_remark (M : Nat) (l : List UInt8) (ts : List Tok) (n : Nat) : ans M (47 :: 42 :: l) ts n .btw = ans M l ts (n + 2) (.rem n) := by
  rw [ans_cons, step, start, if_neg (by decide), if_neg (by decide), if_pos rfl]
  simp only
  rw [ans_cons, step, if_pos rfl]
/-- a token begins at m, or the text is at its end -/
def Stop (s : ByteArray) (m : Nat) : Prop := m < s.size → cl (bA s m) ≠ 1 ∧ bA s m ≠ 37 ∧ Lib.hasPrefix (s.data.toList.drop m) [47, 42] = false
/-- the text from n on comes to what it comes to from m on -/
def Same (s : ByteArray) (n m : Nat) : Prop := ∀ M ts, ans M (s.data.toList.drop n) ts n .btw = ans M (s.data.toList.drop m) ts m .btw
def SkipP (B c : Nat) (s : ByteArray) (v : Value) (ts : List Tok) (n : Nat) (w : World) (e : Ending) (w' : World) : Prop :=
  Kp c w w' ∧ ((∃ m, e = .returned (.tuple #[]) ∧ Sc B c s m v ts w' ∧ n ≤ m ∧ m ≤ s.size ∧ Stop s m ∧ Same s n m) ∨
    (∃ p k, e = Wrong p k ∧ ∀ M ts', ans M (s.data.toList.drop n) ts' n .btw = .bad p k))
theorem rest_facts {s : ByteArray} {m : Nat} (h : m < s.size) : (∀ h0 : 0 < (s.extract m s.size).size, (s.extract m s.size)[0]'h0 = bA s m) ∧ 0 < (s.extract m s.size).size ∧ (s.extract m s.size).data.toList = s.data.toList.drop m := by
  have e : (s.extract m s.size).data.toList = s.data.toList.drop m := Lib.extract_to_end s m
  refine ⟨fun h0 => ?_, by rw [size_of e]; simp; omega, e⟩
  rw [get_bA]
  unfold bA
  rw [e]; simp
theorem same_line {s : ByteArray} {m : Nat} (h : m < s.size) (hb : bA s m = 37) : Same s m (m + lineLen (s.data.toList.drop m)) ∧ 1 ≤ lineLen (s.data.toList.drop m) ∧ m + lineLen (s.data.toList.drop m) ≤ s.size := by
  have hl := lineLen_le (s.data.toList.drop m)
  have hs : s.data.toList.length = s.size := by simp
  refine ⟨fun M ts => ?_, ?_, by rw [List.length_drop] at hl; omega⟩
  · have e := drop_bA h
    rw [hb] at e
    rw [← List.drop_drop, e]; exact ans_percent M _ ts m
  · rw [drop_bA h, hb, lineLen_cons _ _ (by decide)]; omega
theorem prefix_two {l : List UInt8} (h : Lib.hasPrefix l [47, 42] = true) : ∃ r, l = 47 :: 42 :: r := by
  unfold Lib.hasPrefix at h
  match l, h with
  | [], h => simp at h
  | [a], h => simp at h
  | a :: b :: r, h => simp at h; obtain ⟨rfl, rfl⟩ := h; exact ⟨r, rfl⟩
theorem same_remark {s : ByteArray} {m : Nat} (hm : m < s.size) (h : Lib.hasPrefix (s.data.toList.drop m) [47, 42] = true) : m + 2 ≤ s.size ∧
    (cutRem (s.data.toList.drop (m + 2)) = none → ∀ M ts', ans M (s.data.toList.drop m) ts' m .btw = .bad m 31) ∧
    (∀ q, cutRem (s.data.toList.drop (m + 2)) = some q → Same s m (s.size - q.length) ∧ m < s.size - q.length) := by
  obtain ⟨r, hr⟩ := prefix_two h
  have hs : s.data.toList.length = s.size := by simp
  have hl : (s.data.toList.drop m).length = r.length + 2 := by rw [hr]; rfl
  rw [List.length_drop] at hl
  have e2 : s.data.toList.drop (m + 2) = r := by rw [← List.drop_drop, hr]; rfl
  refine ⟨by omega, fun hq M ts' => ?_, fun q hq => ?_⟩
  · rw [hr, ans_remark]; rw [e2] at hq; exact (ans_rem M m ts' r (m + 2)).2.1 hq
  · rw [e2] at hq
    rcases cut_rem r with ⟨_, h1⟩ | ⟨x, _, h1, h2, h3⟩
    · rw [hq] at h1; cases h1
    · rw [hq] at h1; cases h1
      refine ⟨fun M ts => ?_, by omega⟩
      have hd : s.data.toList.drop (s.size - q.length) = q := by
        rw [show s.size - q.length = m + 2 + (r.length - q.length) from by omega, ← List.drop_drop, e2]; exact h3.symm
      rw [hr, ans_remark, hd, ((ans_rem M m ts r (m + 2)).1 q hq).1, show m + 2 + r.length - q.length = s.size - q.length from by omega]

set_option maxHeartbeats 2000000 in
theorem skip_c {B c n : Nat} {s : ByteArray} {v : Value} {ts : List Tok} {w : World} (h : Sc B c s n v ts w) (hg : GM w) (hc : 2 < c) (hn : n ≤ s.size) (hs : s.size ≤ 4096) :
    Calls Tryz.prog 46 #[.pointer (some ⟨c, 0, none⟩)] w (SkipP B c s v ts n w) := by
  have hh := Lib.hid h
  have hG := Lib.hid hg
  clear h hg
  go_enter Tryz.func46, Tryz.ntmps46
  go_wp2
  go_step3
  go_wp2
  go_step3
  go_wp2
  go_loopg [] (s.size - n) (fun k wr => ∃ m : Nat, k = s.size - m ∧ m ≤ s.size ∧ n ≤ m ∧ Hid (Same s n m) ∧ Hid (Sc B c s m v ts wr) ∧ Hid (Kp c w wr))
  case atStart => exact ⟨n, rfl, by omega, by omega, Lib.hid (fun _ _ => rfl), hh, Lib.hid (Kp.refl c w)⟩
  case round =>
    obtain ⟨m, hgk, hm, hnm, hj, hS, hK⟩ := hrel
    have c0 := hS.out.c0
    have c1 := hS.out.c1
    have f1 := hS.out.free 1
    have hmm : (m : Int) ≤ s.size := by omega
    by_cases hlt : m < s.size
    · have hlt2 : (m : Int) < s.size := by omega
      obtain ⟨r0, rz, rl⟩ := rest_facts hlt
      have Rl := Lib.hid rl
      clear rl
      have kc := class_c (bA s m).toNat (bA_le s _)
      go_wp2
      go_quiet (fail)
      go_wp2
      go_quiet (fail)
      generalize s.extract m s.size = r at *
      generalize hw2 : World.drewN (World.drewN wr _) _ = w2
      have hS2 := Lib.hid (show Sc B c s m v ts w2 by rw [← hw2]; exact (hS.out.drew _).drew _)
      have hK2 := Lib.hid (show Kp c w w2 by rw [← hw2]; exact (hK.out.drew _).drew _)
      clear hw2 c0 c1 f1 hS hK
      have c1 := hS2.out.c1
      have f1 := hS2.out.free 1
      by_cases hb1 : cls (bA s m).toNat = 1
      · obtain ⟨b1, b2⟩ := ieq_yes (a := cls (bA s m).toNat) 1 (by omega)
        have hj' := Lib.hid (show Same s n (m + 1) from fun M ts => by rw [hj.out M ts, drop_bA hlt, ans_blank M _ _ _ _ hb1])
        clear hb1
        go_wp2_with (first | (go_at_call 59; (with_reducible refine (kc _).mono ?_); rintro e w' ⟨rfl, rfl⟩))
        go_roundg (s.size - (m + 1))
        case measure => omega
        case rel => exact ⟨m + 1, rfl, by omega, by omega, hj', Lib.hid (hS2.out.move (m + 1) (by omega)), Lib.hid (hK2.out.set 1 _)⟩
      · obtain ⟨b1, b2⟩ := ieq_no (a := cls (bA s m).toNat) 1 (by omega)
        have Hb1 := Lib.hid hb1
        clear hb1
        by_cases hb2 : bA s m = 37
        · obtain ⟨d1, d2⟩ := ieq_yes (a := (bA s m).toNat) 37 (by rw [hb2]; rfl)
          have ks := skipLine_c hS2.out hm hs Rl.out
          obtain ⟨l1, l2, l3⟩ := same_line hlt hb2
          have hj' := Lib.hid (show Same s n (m + lineLen (s.data.toList.drop m)) from fun M ts => by rw [hj.out M ts, l1 M ts])
          clear hb2 l1
          go_wp2_with (first | (go_at_call 59; (with_reducible refine (kc _).mono ?_); rintro e w' ⟨rfl, rfl⟩) | (go_at_call 60; (with_reducible refine ks.mono ?_); rintro e w' ⟨rfl, hs1, hk1⟩))
          go_roundg (s.size - (m + lineLen (s.data.toList.drop m)))
          case measure => omega
          case rel => exact ⟨_, rfl, l3, by omega, hj', Lib.hid hs1, Lib.hid (hK2.out.trans hk1)⟩
        · obtain ⟨d1, d2⟩ := ieq_no (a := (bA s m).toNat) 37 (by intro e; exact hb2 (UInt8.toNat_inj.1 (by simp; omega)))
          have kp := fun w => Tryz.strings_HasPrefix r ⟨#[47, 42]⟩ w
          rw [Rl.out, show (ByteArray.mk #[47, 42]).data.toList = [47, 42] from rfl] at kp
          cases hp : Lib.hasPrefix (s.data.toList.drop m) [47, 42] <;> rw [hp] at kp
          · have hst := Lib.hid (show Stop s m from fun _ => ⟨Hb1.out, hb2, hp⟩)
            clear hb2 hp
            go_wp2_with (first | (go_at_call 59; (with_reducible refine (kc _).mono ?_); rintro e w' ⟨rfl, rfl⟩) | (go_at_call 61; (with_reducible refine (kp _).mono ?_); rintro e w' ⟨rfl, rfl⟩))
            rw [Exit.noGoto_normal]
            go_end0
            exact ⟨hK2.out, .inl ⟨m, rfl, hS2.out, hnm, hm, hst.out, hj.out⟩⟩
          · obtain ⟨m2, q1, q2⟩ := same_remark hlt hp
            cases hq : cutRem (s.data.toList.drop (m + 2)) with
            | none =>
              have kr := skipRemark_none hS2.out (hG.out.kp hK2.out hc) m2 hs Rl.out hq
              unfold Wrong at kr
              have hbad := Lib.hid (show ∀ M ts', ans M (s.data.toList.drop n) ts' n .btw = .bad m 31 from fun M ts' => by rw [hj.out M ts']; exact q1 hq M ts')
              clear hb2 hp hq q1 q2
              go_wp2_with (first | (go_at_call 59; (with_reducible refine (kc _).mono ?_); rintro e w' ⟨rfl, rfl⟩) | (go_at_call 61; (with_reducible refine (kp _).mono ?_); rintro e w' ⟨rfl, rfl⟩) | (go_at_call 62; (with_reducible refine kr.mono ?_); rintro e w' ⟨rfl, hk1⟩))
              exact ⟨rfl, hK2.out.trans hk1, .inr ⟨m, 31, rfl, hbad.out⟩⟩
            | some q =>
              have kr := skipRemark_some hS2.out (hG.out.kp hK2.out hc) m2 hs Rl.out hq
              obtain ⟨q3, q4⟩ := q2 q hq
              have hj' := Lib.hid (show Same s n (s.size - q.length) from fun M ts => by rw [hj.out M ts, q3 M ts])
              clear hb2 hp hq q1 q2 q3
              go_wp2_with (first | (go_at_call 59; (with_reducible refine (kc _).mono ?_); rintro e w' ⟨rfl, rfl⟩) | (go_at_call 61; (with_reducible refine (kp _).mono ?_); rintro e w' ⟨rfl, rfl⟩) | (go_at_call 62; (with_reducible refine kr.mono ?_); rintro e w' ⟨rfl, hs1, hk1⟩))
              go_roundg (s.size - (s.size - q.length))
              case measure => omega
              case rel => exact ⟨_, rfl, by omega, by omega, hj', Lib.hid hs1, Lib.hid (hK2.out.trans hk1)⟩
    · have hlt2 : ¬ ((m : Int) < s.size) := by omega
      go_wp2
      go_quiet (fail)
      go_wp2
      rw [Exit.noGoto_normal]
      go_end0
      exact ⟨hK.out.drew _, .inl ⟨m, rfl, hS.out.drew _, hnm, hm, fun h => absurd h hlt, hj.out⟩⟩
end Go.Proofs.YtcdmmcogegnieaaGreatDoor.lx
end
