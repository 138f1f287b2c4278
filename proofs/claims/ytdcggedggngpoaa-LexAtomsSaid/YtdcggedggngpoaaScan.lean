/- The scanner in memory; what only reads it: ends, opens, behindIs. -/
import Derived.Test.YtdcggedggngpoaaLexB
import Derived.Laws.MakeOwn
import Derived.Laws.AppendOwn
import Derived.OwnWalk
import Derived.Carry
import Derived.RegionTactic
import Derived.BigRegion
import Derived.ChangeAlike
import Derived.Lib.Strings
import Derived.WideShapes
namespace Go.Proofs.Ytdcggedggngpoaa.lx
open Go.RowKit

/-! ### frames -/
/-- all but block c is as it was; new blocks may have come -/
def Kp (c : Nat) (w w' : World) : Prop := w.grownBy w' (some c)
theorem Kp.refl (c : Nat) (w : World) : Kp c w w := World.grownBy.refl _ _
theorem Kp.trans {c : Nat} {w w1 w2 : World} (h : Kp c w w1) (h2 : Kp c w1 w2) : Kp c w w2 :=
  ⟨h2.os.trans h.os, h2.tape.trans h.tape, h2.output.trans h.output, Nat.le_trans h.size h2.size, fun k hk hne => (h2.block k (Nat.lt_of_lt_of_le hk h.size) hne).trans (h.block k hk hne)⟩
theorem Kp.drew {c : Nat} {w w1 : World} (h : Kp c w w1) (k : Nat) : Kp c w (w1.drewN k) := h.trans ⟨rfl, rfl, rfl, Nat.le_refl _, fun _ _ _ => rfl⟩
theorem Kp.drawn (c : Nat) (w : World) (k : Nat) : Kp c w (w.drewN k) := (Kp.refl c w).drew k
theorem Kp.set {c : Nat} {w w1 : World} (h : Kp c w w1) (j : Nat) (v : Value) : Kp c w (w1.setCell ⟨c, j, none⟩ v) :=
  h.trans ⟨rfl, rfl, rfl, by simp [World.setCell], fun k _ hk => Below.heap_setCell _ _ _ _ (fun e => hk (by simp [e]))⟩
theorem Kp.alloc {c : Nat} {w w1 : World} (h : Kp c w w1) (o : Obj) : Kp c w (w1.alloc o) := h.trans (World.grownBy_alloc w1 o _)
theorem Kp.of_below {c : Nat} {w w1 w2 : World} (h : Kp c w w1) (hb : Below w1.heap.size w1 w2) : Kp c w w2 :=
  h.trans ⟨hb.os, hb.tape, hb.output, hb.size, fun k hk _ => hb.block k hk⟩
theorem Kp.below {B c : Nat} {w w1 w2 : World} (h : Kp c w1 w2) (hb : Below B w w1) (hB : B ≤ c) (hs : B ≤ w1.heap.size) : Below B w w2 :=
  hb.grown h hs (fun k hk => by cases hk; exact hB)
/-- a new block's changes are none of the old ones' -/
theorem below_new {b : Nat} {w w1 : World} (hb : Below b w w1) (_hs : b ≤ w.heap.size) {k : Nat} (hk : k < b) : w1.heap[k]? = w.heap[k]? := hb.block k hk

/-! ### tokens in memory -/
def tcell (t : Tok) : List Value := [.int .i64 (t.kind : Nat), .string ⟨t.text.toArray⟩, .int .i64 (t.frm : Nat), .int .i64 (t.to : Nat)]
def tcells (ts : List Tok) : List Value := ts.flatMap tcell
theorem tcells_append (a b : List Tok) : tcells (a ++ b) = tcells a ++ tcells b := by simp [tcells]
theorem tcells_len (ts : List Tok) : (tcells ts).length = ts.length * 4 := by
  induction ts with
  | nil => rfl
  | cons t ts ih => rw [tcells, List.flatMap_cons, List.length_append, List.length_cons]; rw [tcells] at ih; rw [ih]; simp [tcell]; omega
theorem tcells_get (ts : List Tok) (i j : Nat) (hi : i < ts.length) (hj : j < 4) : (tcells ts)[i * 4 + j]? = (tcell ts[i])[j]? := by
  induction ts generalizing i with
  | nil => exact absurd hi (Nat.not_lt_zero _)
  | cons t ts ih =>
    rw [tcells, List.flatMap_cons]
    cases i with
    | zero => rw [List.getElem?_append_left (by simp [tcell]; omega)]; simp
    | succ i =>
      rw [List.getElem?_append_right (by simp [tcell]; omega)]
      rw [show (i + 1) * 4 + j - (tcell t).length = i * 4 + j from by simp [tcell]; omega]
      rw [tcells] at ih
      rw [ih i (by simpa using hi)]; rfl
/-- a slice of the call's own holds these tokens -/
def Tk (B : Nat) (w : World) (v : Value) (ts : List Tok) : Prop := w.ownsRow B 29 4 v ts.length (tcells ts)
theorem Tk.nil (B : Nat) (w : World) : Tk B w (.slice none 0 0) [] := World.ownsRow_nil w B _ 4
theorem Tk.shape {B : Nat} {w : World} {v : Value} {ts : List Tok} (h : Tk B w v ts) : ∃ a cap, v = .slice a ts.length cap := by
  rcases h.2 with ⟨h1, h2⟩ | ⟨g, cap, cur, h1, _⟩
  · exact ⟨none, 0, by rw [h2]; exact h1⟩
  · exact ⟨_, _, h1⟩
theorem Tk.row {B : Nat} {w : World} {v : Value} {ts : List Tok} (h : Tk B w v ts) (h0 : 0 < ts.length) : ∃ g cap, v = .slice (some ⟨g, 0, none⟩) ts.length cap ∧ ts.length ≤ cap ∧ B ≤ g ∧ g < w.heap.size ∧
    ∀ i (hi : i < ts.length), w.cell? ⟨g, i * 4, none⟩ = some (.int .i64 (ts[i].kind : Nat)) ∧ w.cell? ⟨g, i * 4 + 1, none⟩ = some (.string ⟨ts[i].text.toArray⟩) ∧
      w.cell? ⟨g, i * 4 + 2, none⟩ = some (.int .i64 (ts[i].frm : Nat)) ∧ w.cell? ⟨g, i * 4 + 3, none⟩ = some (.int .i64 (ts[i].to : Nat)) := by
  rcases h.2 with ⟨h1, h2⟩ | ⟨g, cap, cur, h1, hB, h3, h4, _⟩
  · omega
  · have hlt := (World.ownsRow.lt h) g (by rw [h1]; rfl)
    refine ⟨g, cap, h1, h4, hB, hlt.2, fun i hi => ?_⟩
    have hg := World.ownsRow.cells h (g := g) (by rw [h1]; rfl)
    have key : ∀ j (u : Value), j < 4 → (tcell ts[i])[j]? = some u → w.cell? ⟨g, i * 4 + j, none⟩ = some u := fun j u hj hu => by
      have e : (⟨g, 0, none⟩ : Addr).add (i * 4 + j) = ⟨g, i * 4 + j, none⟩ := by
        unfold Addr.add
        split
        · rename_i h0; simp at h0; simp
        · simp
      rw [← e]
      exact hg (i * 4 + j) u (by rw [tcells_get ts i j hi hj]; exact hu)
    exact ⟨key 0 _ (by omega) rfl, key 1 _ (by omega) rfl, key 2 _ (by omega) rfl, key 3 _ (by omega) rfl⟩
theorem Tk.mono {B B' : Nat} {w : World} {v : Value} {ts : List Tok} (h : Tk B w v ts) (hB : B' ≤ B) : Tk B' w v ts := by
  refine ⟨h.1, ?_⟩
  rcases h.2 with h1 | ⟨g', cap', cur, h1, h2, h3⟩
  · exact .inl h1
  · exact .inr ⟨g', cap', cur, h1, Nat.le_trans hB h2, h3⟩
theorem Tk.stay {B : Nat} {w w' : World} {v : Value} {ts : List Tok} (h : Tk B w v ts) (hb : Below w.heap.size w w') : Tk B w' v ts :=
  World.ownsRow.kept (row := none) h ⟨hb.os, hb.tape, hb.output, hb.size, fun k hk _ => hb.block k hk⟩ (by cases v.ownBlock <;> simp)
theorem Tk.kp {B c : Nat} {w w' : World} {v : Value} {ts : List Tok} (h : Tk B w v ts) (hk : Kp c w w') (hne : v.ownBlock ≠ some c) : Tk B w' v ts :=
  World.ownsRow.kept h hk (.inr hne)

/-! ### the scanner -/
/-- block c is a scanner of the text s at the place n that has these tokens -/
structure Sc (B c : Nat) (s : ByteArray) (n : Nat) (v : Value) (ts : List Tok) (w : World) : Prop where
  base : B ≤ c
  block : w.heap[c]? = some (.cells #[.string s, .int .i64 (n : Nat), v] 46 (0, 0))
  row : Tk B w v ts
  other : v.ownBlock ≠ some c
section
variable {B c n : Nat} {s : ByteArray} {v : Value} {ts : List Tok} {w : World}
theorem cell_at {cs : Array Value} {T : TypeId} {fr : Nat × Nat} (hb : w.heap[c]? = some (.cells cs T fr)) (j : Nat) : w.cell? ⟨c, j, none⟩ = cs[j]? := by
  simp [World.cell?, hb]
theorem Sc.lt (h : Sc B c s n v ts w) : c < w.heap.size := by
  rcases Nat.lt_or_ge c w.heap.size with h' | h'
  · exact h'
  · have := h.block; simp [Array.getElem?_eq_none h'] at this
theorem Sc.c0 (h : Sc B c s n v ts w) : w.cell? ⟨c, 0, none⟩ = some (.string s) := by rw [cell_at h.block]; rfl
theorem Sc.c1 (h : Sc B c s n v ts w) : w.cell? ⟨c, 1, none⟩ = some (.int .i64 (n : Nat)) := by rw [cell_at h.block]; rfl
theorem Sc.c2 (h : Sc B c s n v ts w) : w.cell? ⟨c, 2, none⟩ = some v := by rw [cell_at h.block]; rfl
theorem Sc.free (h : Sc B c s n v ts w) (j : Nat) : w.frozen? ⟨c, j, none⟩ = false := by simp [World.frozen?, h.block]
theorem Sc.drew (h : Sc B c s n v ts w) (k : Nat) : Sc B c s n v ts (w.drewN k) := ⟨h.base, h.block, h.row, h.other⟩
theorem Sc.alloc (h : Sc B c s n v ts w) (o : Obj) : Sc B c s n v ts (w.alloc o) :=
  ⟨h.base, (Lib.alloc_old w o c h.lt).trans h.block, World.ownsRow.alloc h.row o, h.other⟩
theorem Sc.stay {w' : World} (h : Sc B c s n v ts w) (hb : Below w.heap.size w w') : Sc B c s n v ts w' :=
  ⟨h.base, (hb.block c h.lt).trans h.block, h.row.stay hb, h.other⟩
/-- it moves on -/
theorem Sc.move (h : Sc B c s n v ts w) (m : Nat) {e : Int} (he : e = (m : Nat)) : Sc B c s m v ts (w.setCell ⟨c, 1, none⟩ (.int .i64 e)) := by
  subst he
  refine ⟨h.base, ?_, h.row.kp ((Kp.refl c w).set 1 _) h.other, h.other⟩
  simp [World.setCell, Array.getElem?_modify, h.block]
end

/-! ### bytes of a string -/
/-- byte k of a text -/
def bA (s : ByteArray) (k : Nat) : UInt8 := s.data.toList.getD k 0
theorem get_bA (s : ByteArray) : ∀ (k : Nat) (h : k < s.size), s[k]'h = bA s k := fun k h => by
  unfold bA
  rw [List.getD_eq_getElem?_getD, List.getElem?_eq_getElem (by simpa using h)]
  rfl
theorem drop_bA {s : ByteArray} {k : Nat} (h : k < s.size) : s.data.toList.drop k = bA s k :: s.data.toList.drop (k + 1) := by
  rw [List.drop_eq_getElem_cons (by simpa using h)]
  congr 1
  exact get_bA s k h
theorem drop_end {s : ByteArray} {k : Nat} (h : s.size ≤ k) : s.data.toList.drop k = [] := List.drop_eq_nil_of_le (by simpa using h)
theorem bA_le (s : ByteArray) (k : Nat) : (bA s k).toNat ≤ 255 := by have := (bA s k).toNat_lt; omega
theorem ieq_yes {a : Nat} (k : Int) (h : (a : Int) = k) : ((a : Int) == k) = true ∧ ((a : Int) != k) = false := by subst h; simp
theorem ieq_no {a : Nat} (k : Int) (h : (a : Int) ≠ k) : ((a : Int) == k) = false ∧ ((a : Int) != k) = true := by simp [h]

/-- a callee that changes nothing, asked in a region that reads, behind another such region -/
theorem still {f : FuncId} {args : Array Value} {w : World} {p q : Nat} {v : Value} (h : ∀ W, Calls Try.prog f args W fun e w' => e = .returned v ∧ W = w') :
    Calls Try.prog f args (w.drewN (p + q)) fun e w'' => e = .returned v ∧ ∃ m, w'' = w.drewN (p + m) := by
  refine (h _).mono ?_
  rintro e w' ⟨rfl, rfl⟩
  exact ⟨rfl, q, rfl⟩
/-- .. in the first one -/
theorem still0 {f : FuncId} {args : Array Value} {w : World} {q : Nat} {v : Value} (h : ∀ W, Calls Try.prog f args W fun e w' => e = .returned v ∧ W = w') :
    Calls Try.prog f args (w.drewN q) fun e w'' => e = .returned v ∧ ∃ m, w'' = w.drewN m := by
  refine (h _).mono ?_
  rintro e w' ⟨rfl, rfl⟩
  exact ⟨rfl, q, rfl⟩
end Go.Proofs.Ytdcggedggngpoaa.lx
