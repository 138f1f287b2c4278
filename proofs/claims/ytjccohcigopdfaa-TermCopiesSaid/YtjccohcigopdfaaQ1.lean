/- Slices of strings that the call makes: their cells, one string more.; The reference's words, in: a text parted at its blanks; is a name one of the words.; The reference's Infix and Prefix.; The program's most, Infix, Prefix.; The two tables are the document's: for each name the same answer.; OpsTable, OpsSides, OpsKnown: their walks.; OpsKnown: its walk.; A text as tokens: the document's answer as a machine of modes, byte by byte: plain lists, no program in sight. -/
import Derived.Test.YtjccohcigopdfaaProg
import Derived.WalkKit
import Derived.Handy
import Derived.Outline
import Derived.Lib.Hide
import Derived.Laws.MakeOwn
import Derived.Laws.AppendOwn
import Derived.OwnWalk
import Derived.Carry
import Derived.Below
import Derived.RegionTactic
import Derived.BigRegion
import Derived.ChangeAlike
import Derived.WideShapes
import Derived.RowKit
import Derived.IntWalk
import Derived.BigQuiet
import Derived.Deep.QuietTactic
import Derived.Deep.LoopGhost
import Derived.Deep.RegionHeld3
import Derived.Lib.Strings
set_option linter.unusedVariables false
set_option linter.unusedSimpArgs false
section
/- Slices of strings that the call makes: their cells, one string more. -/
namespace Go.Proofs.Ytjccohcigopdfaa.op
open Go.RowKit

theorem below_drawn (B : Nat) (w : World) (k : Nat) : Below B w (w.drewN k) := ⟨rfl, rfl, rfl, Nat.le_refl _, fun _ _ => rfl⟩
def strC (z : List ByteArray) : List Value := z.map .string
theorem strC_len (z : List ByteArray) : (strC z).length = z.length := by simp [strC]
theorem strC_append (a b : List ByteArray) : strC (a ++ b) = strC a ++ strC b := by simp [strC]
theorem str_info : (Try.prog.info? 9).map (fun i => (i.zero, i.size, i.bytes)) = some (some (.string ⟨#[]⟩), 1, 16) := by kernel_rfl
/-- the slice at block g of room cap, the call's own, holds the strings z -/
def Sk (B : Nat) (w : World) (g cap : Nat) (z : List ByteArray) : Prop := w.ownsRow B 9 1 (.slice (some ⟨g, 0, none⟩) z.length cap) z.length (strC z)
theorem Sk.lt {B : Nat} {w : World} {g cap : Nat} {z : List ByteArray} (h : Sk B w g cap z) : B ≤ g ∧ g < w.heap.size := (World.ownsRow.lt h) g rfl
theorem Sk.empty (B : Nat) (w : World) (hB : B ≤ w.heap.size) : Sk B (w.alloc (.cells #[] 9)) w.heap.size 0 [] :=
  ⟨rfl, .inr ⟨w.heap.size, 0, #[], rfl, hB, heap_alloc_new w _, Nat.le_refl _, by unfold maxLen; omega, rfl, rfl⟩⟩
theorem Sk.stay {B g cap : Nat} {w w' : World} {z : List ByteArray} (h : Sk B w g cap z) (hb : Below w.heap.size w w') : Sk B w' g cap z :=
  World.ownsRow.kept (row := none) h ⟨hb.os, hb.tape, hb.output, hb.size, fun k hk _ => hb.block k hk⟩ (by simp [Value.ownBlock])
theorem addr_add (g j : Nat) : (⟨g, 0, none⟩ : Addr).add j = ⟨g, j, none⟩ := by
  by_cases h0 : j = 0
  · subst h0; simp [Addr.add]
  · simp [Addr.add, h0]
theorem Sk.cell {B g cap : Nat} {w : World} {z : List ByteArray} (h : Sk B w g cap z) (i : Nat) (hi : i < z.length) : w.cell? ⟨g, i, none⟩ = some (.string z[i]) := by
  have := World.ownsRow.cells h (g := g) rfl i (.string z[i]) (by simp [strC, hi])
  rwa [addr_add] at this
theorem Sk.room {B g cap : Nat} {w : World} {z : List ByteArray} (h : Sk B w g cap z) : z.length ≤ cap ∧ cap ≤ maxLen := by
  rcases h.2 with ⟨h1, h2⟩ | ⟨g', cap', cur, h1, _, _, h4, h5, _⟩
  · simp at h1
  · simp at h1; omega
theorem Sk.mono {B B' g cap : Nat} {w : World} {z : List ByteArray} (h : Sk B w g cap z) (hB : B' ≤ B) : Sk B' w g cap z := by
  refine ⟨h.1, ?_⟩
  rcases h.2 with h1 | ⟨g', cap', cur, h1, h2, h3⟩
  · exact .inl h1
  · exact .inr ⟨g', cap', cur, h1, Nat.le_trans hB h2, h3⟩
theorem cell_at {w : World} {g j : Nat} {cs : Array Value} {t : TypeId} {fr : Nat × Nat} (hg : w.heap[g]? = some (.cells cs t fr)) : w.cell? ⟨g, j, none⟩ = cs[j]? := cell_of_row w g j cs t fr hg
/-- one string more -/
theorem wpList_pushS {ops : Array Oper} {rest : List Oper} {o : Oper} {a : Act} {Q : Exit → Act → World → Prop} (hgd : o.guard = none) (s x : Operand)
    (ho : o.op = .call { callee := .builtin .append, args := #[s, x], argTypes := #[42, 42] })
    (B : Nat) (w : World) (g cap : Nat) (z : List ByteArray) (t : ByteArray) (hs : a.eval s = .slice (some ⟨g, 0, none⟩) z.length cap) (hown : Sk B w g cap z)
    (hx : a.eval x = .slice (some ⟨w.heap.size, 0, none⟩) 1 1) (hlen : z.length ≤ 100000) (hB : B ≤ w.heap.size)
    (h : ∀ g' cap' w', Sk B w' g' cap' (z ++ [t]) → Below B w w' → wpList Try.prog ops Q rest (a.put o.dst (.slice (some ⟨g', 0, none⟩) (z.length + 1) cap')) w') :
    wpList Try.prog ops Q (o :: rest) a (w.alloc (.cells #[.string t] 9)) := by
  obtain ⟨i0, hi, hz0, hz1, hz2⟩ := info_parts str_info
  have hb0 : (w.alloc (.cells #[.string t] 9)).heap[w.heap.size]? = some (.cells #[.string t] 9 (0, 0)) := heap_alloc_new w _
  refine wpList_append_own _ hgd s x 42 ho B 9 i0 (.string ⟨#[]⟩) 1 16 Try.underlying42 hi hz0 hz1 hz2 rfl (by decide) _ z.length (strC z) hs (World.ownsRow.alloc hown _) ⟨w.heap.size, 0, none⟩ 1 1 [.string t] hx rfl ?_ ?_ ?_ ?_ ?_ ?_
  · intro j u hj
    rw [addr_add, cell_at hb0, ← Array.getElem?_toList]; exact hj
  · intro u hu; simp at hu; subst hu; rfl
  · unfold maxLen; omega
  · omega
  · show B ≤ (w.heap.push _).size; simp; omega
  · intro v' w' hown' hgr hnil
    have e1 : strC z ++ [.string t] = strC (z ++ [t]) := by simp [strC]
    rw [e1] at hown'
    have hb : Below B w w' := ((Below.refl B w).alloc hB _).grown hgr (by show B ≤ (w.heap.push _).size; simp; omega) (fun k hk => by simp [Value.ownBlock] at hk; have := hown.lt.1; omega)
    rcases hown'.2 with ⟨h1, h2⟩ | ⟨g', cap', cur, h1, h2⟩
    · omega
    · subst h1
      refine h g' cap' w' ?_ hb
      unfold Sk
      rw [List.length_append]; exact hown'
end Go.Proofs.Ytjccohcigopdfaa.op
end
section
/- The reference's words, in: a text parted at its blanks; is a name one of the words. -/
namespace Go.Proofs.Ytjccohcigopdfaa.op
open Go.RowKit

/-- the byte at place i -/
def bA (s : ByteArray) (i : Nat) : UInt8 := s.data.toList.getD i 0
/-- a text parted at its blanks -/
def wd : List UInt8 → List UInt8 → List (List UInt8)
  | acc, [] => [acc]
  | acc, b :: r => if b = 32 then acc :: wd [] r else wd (acc ++ [b]) r
def bs (l : List UInt8) : ByteArray := ⟨l.toArray⟩
theorem bs_inj {a b : List UInt8} : bs a = bs b ↔ a = b := by
  constructor
  · intro h
    have := congrArg (fun x : ByteArray => x.data.toList) h
    simpa [bs] using this
  · intro h; rw [h]
theorem bs_data (s : ByteArray) : bs s.data.toList = s := rfl
theorem drop_bA {s : ByteArray} {i : Nat} (h : i < s.size) : s.data.toList.drop i = bA s i :: s.data.toList.drop (i + 1) := by
  have hl : i < s.data.toList.length := by simpa using h
  rw [List.drop_eq_getElem_cons hl, bA, List.getD_eq_getElem?_getD, List.getElem?_eq_getElem hl, Option.getD_some]
theorem get_bA (s : ByteArray) (i : Nat) (h : i < s.size) : s[i] = bA s i := by
  have hl : i < s.data.toList.length := by simpa using h
  rw [bA, List.getD_eq_getElem?_getD, List.getElem?_eq_getElem hl, Option.getD_some]
  simp; rfl
/-- what lies between places f and i -/
def mid (s : ByteArray) (f i : Nat) : List UInt8 := (s.data.toList.drop f).take (i - f)
theorem mid_self (s : ByteArray) (i : Nat) : mid s i i = [] := by unfold mid; rw [Nat.sub_self, List.take_zero]
theorem mid_next {s : ByteArray} {f i : Nat} (h : i < s.size) (hf : f ≤ i) : mid s f (i + 1) = mid s f i ++ [bA s i] := by
  have hl : i < s.data.toList.length := by simpa using h
  have hd : i - f < (s.data.toList.drop f).length := by rw [List.length_drop]; omega
  unfold mid
  rw [show i + 1 - f = (i - f) + 1 from by omega, List.take_succ_eq_append_getElem hd, List.getElem_drop, bA, List.getD_eq_getElem?_getD]
  congr 2
  rw [List.getElem?_eq_getElem hl, Option.getD_some]
  congr 1; omega
theorem mid_extract (s : ByteArray) (f i : Nat) : s.extract f i = bs (mid s f i) := Lib.extract_eq s f i
/-- how the loop stands at place i, the last blank ahead of f, the words z found -/
def At (s : ByteArray) (z : List ByteArray) (f i : Nat) : Prop :=
  f ≤ i ∧ ((i ≤ s.size ∧ z ++ (wd (mid s f i) (s.data.toList.drop i)).map bs = (wd [] s.data.toList).map bs) ∨ (i = s.size + 1 ∧ z = (wd [] s.data.toList).map bs)) ∧ z.length ≤ i
theorem At.start (s : ByteArray) : At s [] 0 0 := by
  refine ⟨Nat.le_refl _, .inl ⟨Nat.zero_le _, ?_⟩, Nat.le_refl _⟩
  rw [mid_self, List.drop_zero, List.nil_append]
theorem At.plain {s : ByteArray} {z : List ByteArray} {f i : Nat} (h : At s z f i) (hi : i < s.size) (hb : bA s i ≠ 32) : At s z f (i + 1) := by
  obtain ⟨h1, h2 | h2, h3⟩ := h
  · refine ⟨by omega, .inl ⟨by omega, ?_⟩, by omega⟩
    rw [← h2.2, drop_bA hi, wd, if_neg hb, mid_next hi h1]
  · omega
theorem At.blank {s : ByteArray} {z : List ByteArray} {f i : Nat} (h : At s z f i) (hi : i < s.size) (hb : bA s i = 32) : At s (z ++ [s.extract f i]) (i + 1) (i + 1) := by
  obtain ⟨h1, h2 | h2, h3⟩ := h
  · refine ⟨by omega, .inl ⟨by omega, ?_⟩, by rw [List.length_append, List.length_singleton]; omega⟩
    rw [← h2.2, drop_bA hi, wd, if_pos hb, mid_self, mid_extract, List.append_assoc]; rfl
  · omega
theorem At.last {s : ByteArray} {z : List ByteArray} {f : Nat} (h : At s z f s.size) : At s (z ++ [s.extract f s.size]) (s.size + 1) (s.size + 1) := by
  obtain ⟨h1, h2 | h2, h3⟩ := h
  · refine ⟨by omega, .inr ⟨rfl, ?_⟩, by rw [List.length_append, List.length_singleton]; omega⟩
    rw [← h2.2, List.drop_eq_nil_of_le (by simp), wd, mid_extract]; rfl
  · omega
theorem At.done {s : ByteArray} {z : List ByteArray} {f : Nat} (h : At s z f (s.size + 1)) : z = (wd [] s.data.toList).map bs := by
  obtain ⟨h1, h2 | h2, h3⟩ := h
  · omega
  · exact h2.2

set_option maxHeartbeats 4000000 in
theorem words_c (s : ByteArray) (w : World) (hs : s.size ≤ 1000) :
    Calls Try.prog 106 #[.string s] w fun e w' => ∃ g cap, e = .returned (.slice (some ⟨g, 0, none⟩) (wd [] s.data.toList).length cap) ∧ Sk w.heap.size w' g cap ((wd [] s.data.toList).map bs) ∧ Below w.heap.size w w' := by
  have hgt := get_bA s
  go_enter Try.func106, Try.ntmps106
  go_wp2_with fail
  have HS := Lib.hid (Sk.empty w.heap.size w (Nat.le_refl _))
  have HB := Lib.hid ((Below.refl w.heap.size w).alloc (Nat.le_refl _) (.cells #[] 9))
  go_loopg [3, 4, 5] (s.size + 1) (fun k l f i wr => ∃ (m F g cap : Nat) (z : List ByteArray), k = s.size + 1 - m ∧ m ≤ s.size + 1 ∧ l = .slice (some ⟨g, 0, none⟩) z.length cap ∧ f = .int .i64 F ∧ i = .int .i64 m ∧ Hid (At s z F m) ∧ Hid (Sk w.heap.size wr g cap z) ∧ Hid (Below w.heap.size w wr))
  case atStart => exact ⟨0, 0, w.heap.size, 0, [], by omega, by omega, rfl, rfl, rfl, Lib.hid (At.start s), HS, HB⟩
  case round =>
    clear HS HB
    obtain ⟨m, F, g, cap, z, hgk, hm, rfl, rfl, rfl, hA, hS, hB⟩ := hrel
    have hF := hA.out.1
    by_cases hlt : m ≤ s.size
    · have hlt2 : (m : Int) ≤ s.size := by omega
      by_cases he : m = s.size
      · subst he
        have hl : Hid (z.length ≤ 1000) := Lib.hid (by have := hA.out.2.2; omega)
        have hsz := Lib.hid hB.out.size
        have HA := Lib.hid hA.out.last
        clear hA
        have hF2 : (F : Int) ≤ (s.size : Int) := by omega
        go_wp2_with (at_builtin; refine wpList_pushS rfl _ _ rfl w.heap.size wr g cap z _ rfl hS.out rfl (by have := hl.out; omega) hsz.out ?_; intro g3 cap3 w3 hY3 hb3'; have HS3 := Lib.hid hY3; have HB3 := Lib.hid (hB.out.trans hb3'); clear hY3 hb3')
        go_roundg (s.size + 1 - (s.size + 1))
        case measure => omega
        case rel => exact ⟨s.size + 1, s.size + 1, g3, cap3, z ++ [s.extract F s.size], rfl, by omega, by rw [List.length_append]; rfl, by go_num, by go_num, HA, HS3, HB3⟩
      · by_cases hb : bA s m = 32
        · have hl : Hid (z.length ≤ 1000) := Lib.hid (by have := hA.out.2.2; omega)
          have hsz := Lib.hid hB.out.size
          have HA := Lib.hid (hA.out.blank (by omega) hb)
          clear hA
          have hF2 : (F : Int) ≤ (m : Int) := by omega
          have hlt3 : (m : Int) < s.size := by omega
          have hne : ¬ ((m : Int) = s.size) := by omega
          have hn4 : ((m : Int) == (s.size : Int)) = false := by rw [beq_eq_false_iff_ne]; exact hne
          have hbb : (bA s m).toNat = 32 := by rw [hb]; rfl
          go_wp2_with (at_builtin; refine wpList_pushS rfl _ _ rfl w.heap.size wr g cap z _ rfl hS.out rfl (by have := hl.out; omega) hsz.out ?_; intro g3 cap3 w3 hY3 hb3'; have HS3 := Lib.hid hY3; have HB3 := Lib.hid (hB.out.trans hb3'); clear hY3 hb3')
          go_roundg (s.size + 1 - (m + 1))
          case measure => omega
          case rel => exact ⟨m + 1, m + 1, g3, cap3, z ++ [s.extract F m], rfl, by omega, by rw [List.length_append]; rfl, by go_num, by go_num, HA, HS3, HB3⟩
        · have HA := Lib.hid (hA.out.plain (by omega) hb)
          clear hA
          have hlt3 : (m : Int) < s.size := by omega
          have hne : ¬ ((m : Int) = s.size) := by omega
          have hn4 : ((m : Int) == (s.size : Int)) = false := by rw [beq_eq_false_iff_ne]; exact hne
          have hbb : ¬ ((bA s m).toNat = 32) := fun h => hb (by rw [← UInt8.toNat_inj]; exact h)
          have hb2 : ¬ (((bA s m).toNat : Int) = 32) := by omega
          have hn5 : (((bA s m).toNat : Int) == 32) = false := by rw [beq_eq_false_iff_ne]; exact hb2
          go_wp2
          go_roundg (s.size + 1 - (m + 1))
          case measure => omega
          case rel => exact ⟨m + 1, F, g, cap, z, rfl, by omega, rfl, rfl, by go_num, HA, hS, hB⟩
    · obtain rfl : m = s.size + 1 := by omega
      have hlt2 : ¬ (((s.size + 1 : Nat) : Int) ≤ s.size) := by omega
      have hz := hA.out.done
      have hzl : z.length = (wd [] s.data.toList).length := by rw [hz, List.length_map]
      go_wp2
      go_ret
      exact ⟨g, cap, rfl, by rw [← hz]; exact hS.out, hB.out⟩

/-- is the name one of the text's words -/
def inB (n l : List UInt8) : Bool := (wd [] l).contains n
theorem contains_get {l : List (List UInt8)} {n : List UInt8} {i : Nat} (h : i < l.length) (he : l[i] = n) : l.contains n = true := by
  rw [List.contains_eq_mem]; simp; exact he ▸ List.getElem_mem h
theorem contains_none {l : List (List UInt8)} {n : List UInt8} (h : ∀ j (hj : j < l.length), l[j] ≠ n) : l.contains n = false := by
  rw [List.contains_eq_mem]; simp
  intro hm
  obtain ⟨i, hi, rfl⟩ := List.mem_iff_getElem.1 hm
  exact h i hi rfl
set_option maxHeartbeats 4000000 in
theorem in_c (n s : ByteArray) (w : World) (hs : s.size ≤ 1000) :
    Calls Try.prog 95 #[.string n, .string s] w fun e w' => e = .returned (.bool (inB n.data.toList s.data.toList)) ∧ Below w.heap.size w w' := by
  have k1 := words_c s w hs
  have hin : inB n.data.toList s.data.toList = (wd [] s.data.toList).contains n.data.toList := rfl
  generalize wd [] s.data.toList = L at *
  generalize inB n.data.toList s.data.toList = R at *
  have hR := Lib.hid hin
  clear hin hs
  go_enter Try.func95, Try.ntmps95
  go_wp2_with fail
  refine k1.mono ?_
  rintro e w1 ⟨g, cap, rfl, hS1, hB1⟩
  have hS := Lib.hid hS1
  have hB := Lib.hid hB1
  have hL : L.length ≤ maxLen := by have := hS1.room; rw [List.length_map] at this; omega
  unfold maxLen at hL
  clear hS1 hB1 k1
  go_wp2_with fail
  go_loopg [6] L.length (fun k i wr => ∃ m : Nat, k = L.length - m ∧ m ≤ L.length ∧ i = .int .i64 m ∧ Hid (∀ j (hj : j < L.length), j < m → L[j] ≠ n.data.toList) ∧ ∃ nd, wr = w1.drewN nd)
  case atStart => exact ⟨0, by omega, by omega, rfl, Lib.hid (fun j _ h => absurd h (by omega)), 0, rfl⟩
  case round =>
    obtain ⟨m, hgk, hm, rfl, hN, nd, rfl⟩ := hrel
    by_cases hlt : m < L.length
    · have hlt2 : (m : Int) < L.length := by omega
      have hc := hS.out.cell m (by rw [List.length_map]; exact hlt)
      rw [List.getElem_map] at hc
      by_cases he : L[m] = n.data.toList
      · rw [he, bs_data] at hc
        have hr : R = true := by rw [hR.out]; exact contains_get hlt he
        subst hr
        go_wp2
        go_ret
        exact ⟨rfl, hB.out.trans (below_drawn _ _ _)⟩
      · have x1 : ((bs L[m]).toList == n.toList) = false := by
          rw [ByteArray.toList_eq, ByteArray.toList_eq]
          simpa [bs] using he
        generalize bs L[m] = T at *
        go_wp2
        go_roundg (L.length - (m + 1))
        case measure => omega
        case rel => exact ⟨m + 1, rfl, by omega, by go_num, Lib.hid (fun j hj h => by by_cases e : j = m; (· subst e; exact he); (· exact hN.out j hj (by omega))), _, rfl⟩
    · have hlt2 : ¬ ((m : Int) < L.length) := by omega
      obtain rfl : m = L.length := by omega
      have hr : R = false := by rw [hR.out]; exact contains_none fun j hj => hN.out j hj hj
      subst hr
      go_wp2
      go_ret
      exact ⟨rfl, hB.out.trans (below_drawn _ _ _)⟩
end Go.Proofs.Ytjccohcigopdfaa.op
end
section
/- The reference's Infix and Prefix. -/
namespace Go.Proofs.Ytjccohcigopdfaa.op
open Go.RowKit

theorem res4 {fn : Func} {a b c d : Tmp} (h : fn.results = #[.tmp a, .tmp b, .tmp c, .tmp d]) (s : Array Value) (P : Program) (w : World) :
    (results fn s).run P w = .ok (.tuple #[s.getD a undef, s.getD b undef, s.getD c undef, s.getD d undef]) w := by simp only [results, h]; simp
def tupI (a : Int × Int × Int × Bool) : Value := .tuple #[.int .i64 a.1, .int .i64 a.2.1, .int .i64 a.2.2.1, .bool a.2.2.2]
def tupP (a : Int × Int × Bool) : Value := .tuple #[.int .i64 a.1, .int .i64 a.2.1, .bool a.2.2]

/-- the document's answer, test by test -/
def refI (n : List UInt8) : Int × Int × Int × Bool :=
  if inB n [58, 45] then (1200, 1199, 1199, true) else
  if inB n [59] then (1100, 1099, 1100, true) else
  if inB n [45, 62] then (1050, 1049, 1050, true) else
  if inB n [44] then (1000, 999, 1000, true) else
  if inB n [35, 60, 61, 62] then (760, 759, 759, true) else
  if inB n [61, 32, 92, 61, 32, 61, 61, 32, 92, 61, 61, 32, 64, 60, 32, 64, 62, 32, 64, 61, 60, 32, 64, 62, 61, 32, 105, 115, 32, 61, 58, 61, 32, 61, 92, 61, 32, 60, 32, 62, 32, 61, 60, 32, 62, 61, 32, 61, 46, 46, 32, 35, 61, 32, 35, 92, 61, 32, 35, 60, 32, 35, 62, 32, 35, 61, 60, 32, 35, 62, 61, 32, 105, 110] then (700, 699, 699, true) else
  if inB n [92, 47] then (550, 550, 549, true) else
  if inB n [46, 46] then (450, 449, 449, true) else
  if inB n [43, 32, 45] then (500, 500, 499, true) else
  if inB n [42, 32, 47, 47, 32, 114, 101, 109, 32, 109, 111, 100, 32, 100, 105, 118] then (400, 400, 399, true) else
  if inB n [94] then (200, 199, 200, true) else
  (0, 0, 0, false)
set_option maxRecDepth 100000 in
set_option maxHeartbeats 4000000 in
theorem refI_c (n : ByteArray) (w : World) :
    Calls Try.prog 74 #[.string n] w fun e w' => e = .returned (tupI (refI n.data.toList)) ∧ Below w.heap.size w w' := by
  unfold refI
  generalize h0 : inB n.data.toList [58, 45] = b0
  generalize h1 : inB n.data.toList [59] = b1
  generalize h2 : inB n.data.toList [45, 62] = b2
  generalize h3 : inB n.data.toList [44] = b3
  generalize h4 : inB n.data.toList [35, 60, 61, 62] = b4
  generalize h5 : inB n.data.toList [61, 32, 92, 61, 32, 61, 61, 32, 92, 61, 61, 32, 64, 60, 32, 64, 62, 32, 64, 61, 60, 32, 64, 62, 61, 32, 105, 115, 32, 61, 58, 61, 32, 61, 92, 61, 32, 60, 32, 62, 32, 61, 60, 32, 62, 61, 32, 61, 46, 46, 32, 35, 61, 32, 35, 92, 61, 32, 35, 60, 32, 35, 62, 32, 35, 61, 60, 32, 35, 62, 61, 32, 105, 110] = b5
  generalize h6 : inB n.data.toList [92, 47] = b6
  generalize h7 : inB n.data.toList [46, 46] = b7
  generalize h8 : inB n.data.toList [43, 32, 45] = b8
  generalize h9 : inB n.data.toList [42, 32, 47, 47, 32, 114, 101, 109, 32, 109, 111, 100, 32, 100, 105, 118] = b9
  generalize h10 : inB n.data.toList [94] = b10
  go_enter Try.func74, Try.ntmps74
  go_wp2_with fail
  refine (in_c _ _ _ (by decide)).mono ?_
  rintro e w1 ⟨rfl, hb0⟩
  rw [show inB n.data.toList _ = b0 from h0]
  have H0 := Lib.hid ((Below.refl w.heap.size w).trans (hb0.mono (Below.refl w.heap.size w).size))
  clear hb0 h0
  cases b0
  case true =>
    go_wp2
    (try simp only [Exit.inBlock, Exit.then]); refine bodyPost_ret (res4 rfl _ _ _) rfl ?_
    exact ⟨rfl, H0.out⟩
  go_wp2_with fail
  refine (in_c _ _ _ (by decide)).mono ?_
  rintro e w2 ⟨rfl, hb1⟩
  rw [show inB n.data.toList _ = b1 from h1]
  have H1 := Lib.hid ((H0.out).trans (hb1.mono (H0.out).size))
  clear hb1 h1
  cases b1
  case true =>
    go_wp2
    (try simp only [Exit.inBlock, Exit.then]); refine bodyPost_ret (res4 rfl _ _ _) rfl ?_
    exact ⟨rfl, H1.out⟩
  go_wp2_with fail
  refine (in_c _ _ _ (by decide)).mono ?_
  rintro e w3 ⟨rfl, hb2⟩
  rw [show inB n.data.toList _ = b2 from h2]
  have H2 := Lib.hid ((H1.out).trans (hb2.mono (H1.out).size))
  clear hb2 h2
  cases b2
  case true =>
    go_wp2
    (try simp only [Exit.inBlock, Exit.then]); refine bodyPost_ret (res4 rfl _ _ _) rfl ?_
    exact ⟨rfl, H2.out⟩
  go_wp2_with fail
  refine (in_c _ _ _ (by decide)).mono ?_
  rintro e w4 ⟨rfl, hb3⟩
  rw [show inB n.data.toList _ = b3 from h3]
  have H3 := Lib.hid ((H2.out).trans (hb3.mono (H2.out).size))
  clear hb3 h3
  cases b3
  case true =>
    go_wp2
    (try simp only [Exit.inBlock, Exit.then]); refine bodyPost_ret (res4 rfl _ _ _) rfl ?_
    exact ⟨rfl, H3.out⟩
  go_wp2_with fail
  refine (in_c _ _ _ (by decide)).mono ?_
  rintro e w5 ⟨rfl, hb4⟩
  rw [show inB n.data.toList _ = b4 from h4]
  have H4 := Lib.hid ((H3.out).trans (hb4.mono (H3.out).size))
  clear hb4 h4
  cases b4
  case true =>
    go_wp2
    (try simp only [Exit.inBlock, Exit.then]); refine bodyPost_ret (res4 rfl _ _ _) rfl ?_
    exact ⟨rfl, H4.out⟩
  go_wp2_with fail
  refine (in_c _ _ _ (by decide)).mono ?_
  rintro e w6 ⟨rfl, hb5⟩
  rw [show inB n.data.toList _ = b5 from h5]
  have H5 := Lib.hid ((H4.out).trans (hb5.mono (H4.out).size))
  clear hb5 h5
  cases b5
  case true =>
    go_wp2
    (try simp only [Exit.inBlock, Exit.then]); refine bodyPost_ret (res4 rfl _ _ _) rfl ?_
    exact ⟨rfl, H5.out⟩
  go_wp2_with fail
  refine (in_c _ _ _ (by decide)).mono ?_
  rintro e w7 ⟨rfl, hb6⟩
  rw [show inB n.data.toList _ = b6 from h6]
  have H6 := Lib.hid ((H5.out).trans (hb6.mono (H5.out).size))
  clear hb6 h6
  cases b6
  case true =>
    go_wp2
    (try simp only [Exit.inBlock, Exit.then]); refine bodyPost_ret (res4 rfl _ _ _) rfl ?_
    exact ⟨rfl, H6.out⟩
  go_wp2_with fail
  refine (in_c _ _ _ (by decide)).mono ?_
  rintro e w8 ⟨rfl, hb7⟩
  rw [show inB n.data.toList _ = b7 from h7]
  have H7 := Lib.hid ((H6.out).trans (hb7.mono (H6.out).size))
  clear hb7 h7
  cases b7
  case true =>
    go_wp2
    (try simp only [Exit.inBlock, Exit.then]); refine bodyPost_ret (res4 rfl _ _ _) rfl ?_
    exact ⟨rfl, H7.out⟩
  go_wp2_with fail
  refine (in_c _ _ _ (by decide)).mono ?_
  rintro e w9 ⟨rfl, hb8⟩
  rw [show inB n.data.toList _ = b8 from h8]
  have H8 := Lib.hid ((H7.out).trans (hb8.mono (H7.out).size))
  clear hb8 h8
  cases b8
  case true =>
    go_wp2
    (try simp only [Exit.inBlock, Exit.then]); refine bodyPost_ret (res4 rfl _ _ _) rfl ?_
    exact ⟨rfl, H8.out⟩
  go_wp2_with fail
  refine (in_c _ _ _ (by decide)).mono ?_
  rintro e w10 ⟨rfl, hb9⟩
  rw [show inB n.data.toList _ = b9 from h9]
  have H9 := Lib.hid ((H8.out).trans (hb9.mono (H8.out).size))
  clear hb9 h9
  cases b9
  case true =>
    go_wp2
    (try simp only [Exit.inBlock, Exit.then]); refine bodyPost_ret (res4 rfl _ _ _) rfl ?_
    exact ⟨rfl, H9.out⟩
  go_wp2_with fail
  refine (in_c _ _ _ (by decide)).mono ?_
  rintro e w11 ⟨rfl, hb10⟩
  rw [show inB n.data.toList _ = b10 from h10]
  have H10 := Lib.hid ((H9.out).trans (hb10.mono (H9.out).size))
  clear hb10 h10
  cases b10
  case true =>
    go_wp2
    (try simp only [Exit.inBlock, Exit.then]); refine bodyPost_ret (res4 rfl _ _ _) rfl ?_
    exact ⟨rfl, H10.out⟩
  go_wp2
  (try simp only [Exit.inBlock, Exit.then]); refine bodyPost_ret (res4 rfl _ _ _) rfl ?_
  exact ⟨rfl, H10.out⟩

/-- the document's answer, test by test -/
def refP (n : List UInt8) : Int × Int × Bool :=
  if inB n [58, 45] then (1200, 1199, true) else
  if inB n [92, 43] then (900, 900, true) else
  if inB n [43, 32, 45] then (200, 200, true) else
  (0, 0, false)
set_option maxRecDepth 100000 in
set_option maxHeartbeats 4000000 in
theorem refP_c (n : ByteArray) (w : World) :
    Calls Try.prog 104 #[.string n] w fun e w' => e = .returned (tupP (refP n.data.toList)) ∧ Below w.heap.size w w' := by
  unfold refP
  generalize h0 : inB n.data.toList [58, 45] = b0
  generalize h1 : inB n.data.toList [92, 43] = b1
  generalize h2 : inB n.data.toList [43, 32, 45] = b2
  go_enter Try.func104, Try.ntmps104
  go_wp2_with fail
  refine (in_c _ _ _ (by decide)).mono ?_
  rintro e w1 ⟨rfl, hb0⟩
  rw [show inB n.data.toList _ = b0 from h0]
  have H0 := Lib.hid ((Below.refl w.heap.size w).trans (hb0.mono (Below.refl w.heap.size w).size))
  clear hb0 h0
  cases b0
  case true =>
    go_wp2
    go_ret3
    exact ⟨rfl, H0.out⟩
  go_wp2_with fail
  refine (in_c _ _ _ (by decide)).mono ?_
  rintro e w2 ⟨rfl, hb1⟩
  rw [show inB n.data.toList _ = b1 from h1]
  have H1 := Lib.hid ((H0.out).trans (hb1.mono (H0.out).size))
  clear hb1 h1
  cases b1
  case true =>
    go_wp2
    go_ret3
    exact ⟨rfl, H1.out⟩
  go_wp2_with fail
  refine (in_c _ _ _ (by decide)).mono ?_
  rintro e w3 ⟨rfl, hb2⟩
  rw [show inB n.data.toList _ = b2 from h2]
  have H2 := Lib.hid ((H1.out).trans (hb2.mono (H1.out).size))
  clear hb2 h2
  cases b2
  case true =>
    go_wp2
    go_ret3
    exact ⟨rfl, H2.out⟩
  go_wp2
  go_ret3
  exact ⟨rfl, H2.out⟩

end Go.Proofs.Ytjccohcigopdfaa.op
end
section
/- The program's most, Infix, Prefix. -/
namespace Go.Proofs.Ytjccohcigopdfaa.op
open Go.RowKit

abbrev rowV (n : List UInt8) (k p : Int) : Array Value := #[.string (bs n), .int .i64 k, .int .i64 p]
/-- the rows of the two tables: name, kind, priority -/
def rowsI : List (List UInt8 × Int × Int) := [([58, 45], 0, 1200), ([59], 1, 1100), ([45, 62], 1, 1050), ([44], 1, 1000), ([35, 60, 61, 62], 0, 760),
  ([61], 0, 700), ([92, 61], 0, 700), ([61, 61], 0, 700), ([92, 61, 61], 0, 700), ([64, 60], 0, 700), ([64, 62], 0, 700), ([64, 61, 60], 0, 700), ([64, 62, 61], 0, 700),
  ([105, 115], 0, 700), ([61, 58, 61], 0, 700), ([61, 92, 61], 0, 700), ([60], 0, 700), ([62], 0, 700), ([61, 60], 0, 700), ([62, 61], 0, 700), ([61, 46, 46], 0, 700),
  ([35, 61], 0, 700), ([35, 92, 61], 0, 700), ([35, 60], 0, 700), ([35, 62], 0, 700), ([35, 61, 60], 0, 700), ([35, 62, 61], 0, 700), ([105, 110], 0, 700),
  ([92, 47], 2, 550), ([46, 46], 0, 450), ([43], 2, 500), ([45], 2, 500), ([42], 2, 400), ([47, 47], 2, 400), ([114, 101, 109], 2, 400), ([109, 111, 100], 2, 400), ([100, 105, 118], 2, 400), ([94], 1, 200)]
def rowsP : List (List UInt8 × Int × Int) := [([58, 45], 3, 1200), ([92, 43], 4, 900), ([43], 4, 200), ([45], 4, 200)]
def cellsR (l : List (List UInt8 × Int × Int)) : Array Value := (l.flatMap fun r => [.string (bs r.1), .int .i64 r.2.1, .int .i64 r.2.2]).toArray
/-- the table of t's type lies in block g -/
def Tb (g : Nat) (t : TypeId) (l : List (List UInt8 × Int × Int)) (w : World) : Prop := ∃ tt fr, w.heap[g]? = some (.cells (cellsR l) tt fr) ∧ t = t
theorem Tb.kept {g : Nat} {t : TypeId} {l : List (List UInt8 × Int × Int)} {w w' : World} (h : Tb g t l w) (hb : Below w.heap.size w w') : Tb g t l w' := by
  obtain ⟨tt, fr, h, _⟩ := h
  have hg : g < w.heap.size := by
    by_cases hlt : g < w.heap.size
    · exact hlt
    · rw [Array.getElem?_eq_none (by omega)] at h; cases h
  exact ⟨tt, fr, by rw [hb.block g hg]; exact h, rfl⟩
theorem Tb.cell {g : Nat} {t : TypeId} {l : List (List UInt8 × Int × Int)} {w : World} (h : Tb g t l w) (j : Nat) : w.cell? ⟨g, j, none⟩ = (cellsR l)[j]? := by
  obtain ⟨tt, fr, h, _⟩ := h
  exact cell_at h
theorem wpList_loadTb {ops : Array Oper} {rest : List Oper} {o : Oper} {a : Act} {w : World} {Q : Exit → Act → World → Prop} (hgd : o.guard = none) (x : Operand) {g n : Nat} {t e : TypeId} {l : List (List UInt8 × Int × Int)}
    (ho : o.op = .load t x) (hx : a.eval x = .pointer (some ⟨g, 0, none⟩)) (h : Tb g t l w) (hu : Try.prog.underlying t = some (.array n e)) (hi : (Try.prog.info? t).map (·.size) = some (cellsR l).size)
    (hK : wpList Try.prog ops Q rest (a.put o.dst (.agg (cellsR l))) w) : wpList Try.prog ops Q (o :: rest) a w := by
  obtain ⟨tt, fr, h, _⟩ := h
  exact wpList_load_row hgd t x ho g hx tt _ fr (.array n e) h hu rfl hi hK
theorem drop3 {α β : Type} (f : α → List β) (h3 : ∀ a, (f a).length = 3) : ∀ (l : List α) (m : Nat) (r : α), l[m]? = some r → ((l.flatMap f).drop (m * 3)).take 3 = f r
  | [], m, r, h => by simp at h
  | a :: l, 0, r, h => by
    simp at h; subst h
    rw [List.flatMap_cons, Nat.zero_mul, List.drop_zero, List.take_append_of_le_length (by rw [h3]; exact Nat.le_refl _), List.take_of_length_le (by rw [h3]; exact Nat.le_refl _)]
  | a :: l, m + 1, r, h => by
    have ih := drop3 f h3 l m r (by simpa using h)
    rw [List.flatMap_cons, show (m + 1) * 3 = (f a).length + m * 3 from by rw [h3]; omega, List.drop_length_add_append]
    exact ih
theorem cellsR_part {l : List (List UInt8 × Int × Int)} {m : Nat} {r : List UInt8 × Int × Int} (h : l[m]? = some r) : (cellsR l).extract (m * 3) (m * 3 + 3) = #[.string (bs r.1), .int .i64 r.2.1, .int .i64 r.2.2] := by
  have := drop3 (fun r : List UInt8 × Int × Int => [Value.string (bs r.1), .int .i64 r.2.1, .int .i64 r.2.2]) (fun _ => rfl) l m r h
  apply Array.ext'
  unfold cellsR
  rw [List.extract_toArray, List.extract_eq_take_drop]
  simpa using this
theorem find_hit {l : List (List UInt8 × Int × Int)} {n : List UInt8} {m : Nat} {r : List UInt8 × Int × Int} (h : l[m]? = some r) (he : r.1 = n) (hN : ∀ j r, j < m → l[j]? = some r → r.1 ≠ n) : l.find? (fun r => r.1 == n) = some r := by
  rw [List.find?_eq_some_iff_getElem]
  obtain ⟨hm, hr⟩ := List.getElem?_eq_some_iff.1 h
  refine ⟨by simpa using he, m, hm, hr, fun j hj => ?_⟩
  simpa using hN j _ hj (List.getElem?_eq_getElem _)
theorem find_no {l : List (List UInt8 × Int × Int)} {n : List UInt8} (hN : ∀ j r, j < l.length → l[j]? = some r → r.1 ≠ n) : l.find? (fun r => r.1 == n) = none := by
  rw [List.find?_eq_none]
  intro r hr
  obtain ⟨i, hi, rfl⟩ := List.mem_iff_getElem.1 hr
  simpa using hN i _ hi (List.getElem?_eq_getElem _)
def pI (r : List UInt8 × Int × Int) : Int × Int × Int × Bool := (r.2.2, (if r.2.1 == 2 then r.2.2 else r.2.2 - 1), (if r.2.1 == 1 then r.2.2 else r.2.2 - 1), true)
def progI (n : List UInt8) : Int × Int × Int × Bool := match rowsI.find? (fun r => r.1 == n) with | some r => pI r | none => (0, 0, 0, false)
def pP (r : List UInt8 × Int × Int) : Int × Int × Bool := (r.2.2, (if r.2.1 == 4 then r.2.2 else r.2.2 - 1), true)
def progP (n : List UInt8) : Int × Int × Bool := match rowsP.find? (fun r => r.1 == n) with | some r => pP r | none => (0, 0, false)
theorem rowsI_pri : ∀ r ∈ rowsI, 0 ≤ r.2.2 ∧ r.2.2 ≤ 1200 := by decide
theorem rowsP_pri : ∀ r ∈ rowsP, 0 ≤ r.2.2 ∧ r.2.2 ≤ 1200 := by decide
theorem x_no {a : List UInt8} {n : ByteArray} (h : a ≠ n.data.toList) : ((bs a).toList == n.toList) = false := by
  rw [ByteArray.toList_eq, ByteArray.toList_eq]
  simpa [bs] using h
end Go.Proofs.Ytjccohcigopdfaa.op
end
section
/- The two tables are the document's: for each name the same answer. -/
namespace Go.Proofs.Ytjccohcigopdfaa.op

theorem inB_no {n T : List UInt8} {N : List (List UInt8)} (hT : ∀ x ∈ wd [] T, x ∈ N) (h : n ∉ N) : inB n T = false := by
  unfold inB
  rw [List.contains_eq_mem]; simp
  exact fun hm => h (hT _ hm)
theorem find_not {l : List (List UInt8 × Int × Int)} {n : List UInt8} (h : n ∉ l.map (·.1)) : l.find? (fun r => r.1 == n) = none := by
  rw [List.find?_eq_none]
  intro r hr he
  exact h (List.mem_map.2 ⟨r, hr, by simpa using he⟩)
set_option maxRecDepth 100000 in
theorem sameI (n : List UInt8) : refI n = progI n := by
  by_cases h : n ∈ rowsI.map (·.1)
  · exact (by decide +kernel : ∀ n ∈ rowsI.map (·.1), refI n = progI n) n h
  · unfold refI progI
    rw [find_not h, inB_no (T := [58, 45]) (by decide +kernel) h, inB_no (T := [59]) (by decide +kernel) h, inB_no (T := [45, 62]) (by decide +kernel) h, inB_no (T := [44]) (by decide +kernel) h, inB_no (T := [35, 60, 61, 62]) (by decide +kernel) h, inB_no (T := [61, 32, 92, 61, 32, 61, 61, 32, 92, 61, 61, 32, 64, 60, 32, 64, 62, 32, 64, 61, 60, 32, 64, 62, 61, 32, 105, 115, 32, 61, 58, 61, 32, 61, 92, 61, 32, 60, 32, 62, 32, 61, 60, 32, 62, 61, 32, 61, 46, 46, 32, 35, 61, 32, 35, 92, 61, 32, 35, 60, 32, 35, 62, 32, 35, 61, 60, 32, 35, 62, 61, 32, 105, 110]) (by decide +kernel) h, inB_no (T := [92, 47]) (by decide +kernel) h, inB_no (T := [46, 46]) (by decide +kernel) h, inB_no (T := [43, 32, 45]) (by decide +kernel) h, inB_no (T := [42, 32, 47, 47, 32, 114, 101, 109, 32, 109, 111, 100, 32, 100, 105, 118]) (by decide +kernel) h, inB_no (T := [94]) (by decide +kernel) h]
    rfl
set_option maxRecDepth 100000 in
theorem sameP (n : List UInt8) : refP n = progP n := by
  by_cases h : n ∈ rowsP.map (·.1)
  · exact (by decide +kernel : ∀ n ∈ rowsP.map (·.1), refP n = progP n) n h
  · unfold refP progP
    rw [find_not h, inB_no (T := [58, 45]) (by decide +kernel) h, inB_no (T := [92, 43]) (by decide +kernel) h, inB_no (T := [43, 32, 45]) (by decide +kernel) h]
    rfl
/-- what stands beside an operator -/
theorem sides (n : List UInt8) : progI n = (0, 0, 0, false) ∨ ((progI n).2.2.2 = true ∧ 200 ≤ (progI n).1 ∧ (progI n).1 ≤ 1200 ∧ (progI n).2.1 ≤ (progI n).1 ∧ (progI n).2.2.1 ≤ (progI n).1 ∧ (progI n).1 - 1 ≤ (progI n).2.1 ∧ (progI n).1 - 1 ≤ (progI n).2.2.1 ∧ (progI n).2.1 + (progI n).2.2.1 < 2 * (progI n).1) := by
  by_cases h : n ∈ rowsI.map (·.1)
  · exact .inr ((by decide +kernel : ∀ n ∈ rowsI.map (·.1), (progI n).2.2.2 = true ∧ 200 ≤ (progI n).1 ∧ (progI n).1 ≤ 1200 ∧ (progI n).2.1 ≤ (progI n).1 ∧ (progI n).2.2.1 ≤ (progI n).1 ∧ (progI n).1 - 1 ≤ (progI n).2.1 ∧ (progI n).1 - 1 ≤ (progI n).2.2.1 ∧ (progI n).2.1 + (progI n).2.2.1 < 2 * (progI n).1) n h)
  · left; unfold progI; rw [find_not h]
end Go.Proofs.Ytjccohcigopdfaa.op
end
section
/- OpsTable, OpsSides, OpsKnown: their walks. -/
namespace Go.Proofs.Ytjccohcigopdfaa.op
open Go.RowKit

/-- both tables lie where the program's text lays them -/
def Both (_ : World) : Prop := True
theorem Both.kept {w w' : World} (_ : Both w) (_ : Below w.heap.size w w') : Both w' := trivial
theorem rI (n : ByteArray) (w : World) {p l r : Int} {b : Bool} (h : progI n.data.toList = (p, l, r, b)) :
    Calls Try.prog 74 #[.string n] w fun e w' => e = .returned (.tuple #[.int .i64 p, .int .i64 l, .int .i64 r, .bool b]) ∧ Below w.heap.size w w' := by
  have := refI_c n w
  rw [sameI, h] at this
  exact this
theorem rP (n : ByteArray) (w : World) {p l : Int} {b : Bool} (h : progP n.data.toList = (p, l, b)) :
    Calls Try.prog 104 #[.string n] w fun e w' => e = .returned (.tuple #[.int .i64 p, .int .i64 l, .bool b]) ∧ Below w.heap.size w w' := by
  have := refP_c n w
  rw [sameP, h] at this
  exact this

end Go.Proofs.Ytjccohcigopdfaa.op
end
section
/- OpsKnown: its walk. -/
namespace Go.Proofs.Ytjccohcigopdfaa.op
open Go.RowKit

def namesR (l : List (List UInt8 × Int × Int)) : Array Value := (l.map fun r => .string (bs r.1)).toArray
/-- block g holds the names of the rows l -/
def Ns (g : Nat) (l : List (List UInt8 × Int × Int)) (w : World) : Prop := w.heap[g]? = some (.cells (namesR l) 9 (0, 0))
theorem Ns.kept {g : Nat} {l : List (List UInt8 × Int × Int)} {w w' : World} (h : Ns g l w) (hb : Below w.heap.size w w') : Ns g l w' := by
  unfold Ns at *
  have hg : g < w.heap.size := by
    by_cases hlt : g < w.heap.size
    · exact hlt
    · rw [Array.getElem?_eq_none (by omega)] at h; cases h
  rw [hb.block g hg]; exact h
theorem Ns.cell {g m : Nat} {l : List (List UInt8 × Int × Int)} {w : World} (h : Ns g l w) {r : List UInt8 × Int × Int} (hm : l[m]? = some r) : w.cell? ⟨g, m, none⟩ = some (.string (bs r.1)) := by
  rw [cell_at h]
  simp [namesR, hm]
theorem rowsI_known : ∀ r ∈ rowsI, (progI r.1).2.2.2 = true ∧ r.1.length ≤ 4 := by decide +kernel
theorem rowsP_known : ∀ r ∈ rowsP, (progP r.1).2.2 = true ∧ r.1.length ≤ 4 := by decide +kernel

end Go.Proofs.Ytjccohcigopdfaa.op
end
section
/- A text as tokens: the document's answer as a machine of modes, byte by byte: plain lists, no program in sight. -/
namespace Go.Proofs.Ytjccohcigopdfaa.lx

/-- a token: its kind, its text, the place of its first byte, and of the one behind it -/
structure Tok where
  kind : Nat
  text : List UInt8
  frm : Nat
  to : Nat
deriving DecidableEq

/-- the classes of bytes: 0 none, 1 blank, 2 small, 3 great, 4 digit, 5 sign, 6 quote, 7 alone, 8 mark -/
def cls (c : Nat) : Nat :=
  if 97 ≤ c ∧ c ≤ 122 then 2
  else if (65 ≤ c ∧ c ≤ 90) ∨ c = 95 then 3
  else if 48 ≤ c ∧ c ≤ 57 then 4
  else if c = 32 ∨ c = 9 ∨ c = 10 ∨ c = 13 then 1
  else if c = 43 ∨ c = 45 ∨ c = 42 ∨ c = 47 ∨ c = 92 ∨ c = 94 ∨ c = 60 ∨ c = 62 ∨ c = 61 ∨ c = 58 ∨ c = 46 ∨ c = 63 ∨ c = 64 ∨ c = 35 ∨ c = 36 ∨ c = 38 ∨ c = 126 then 5
  else if c = 39 then 6
  else if c = 33 ∨ c = 59 then 7
  else if c = 40 ∨ c = 41 ∨ c = 91 ∨ c = 93 ∨ c = 123 ∨ c = 125 ∨ c = 44 ∨ c = 124 then 8
  else 0
abbrev cl (b : UInt8) : Nat := cls b.toNat

/-- a byte of class y goes on with what one of class x began -/
def joinB (x y : Nat) : Bool :=
  if x = 2 ∨ x = 3 then y == 2 || y == 3 || y == 4 else if x = 4 ∨ x = 5 then y == x else false

inductive Mode where
  | btw
  | line
  | slash (f : Nat)
  | dot (f : Nat)
  | rem (f : Nat)
  | star (f : Nat)
  | word (c f : Nat) (acc : List UInt8)
  | quo (f : Nat) (acc : List UInt8)
  | quoq (f : Nat) (acc : List UInt8)
  | esc (f : Nat) (acc : List UInt8)

inductive R where
  | go (ts : List Tok) (m : Mode)
  | bad (p e : Nat)

inductive Out where
  | ok (ts : List Tok)
  | bad (p e : Nat)

/-- a '(' at the place n opens what stands right ahead of it -/
def opens (ts : List Tok) (n : Nat) : Bool := match ts.getLast? with
  | some t => t.kind == 1 && t.to == n
  | none => false

/-- the kind of a word by its class -/
def kindOf (c : Nat) : Nat := if c = 3 then 2 else if c = 4 then 3 else 1

def opening (ts : List Tok) (n : Nat) (b : UInt8) : R :=
  if cl b = 6 then .go ts (.quo n [])
  else if cl b = 7 then .go (ts ++ [⟨1, [b], n, n + 1⟩]) .btw
  else if cl b = 8 then .go (ts ++ [⟨if b = 40 ∧ opens ts n = true then 4 else 5, [b], n, n + 1⟩]) .btw
  else if b = 46 then .go ts (.dot n)
  else .go ts (.word (cl b) n [b])

/-- a byte at the place n, between tokens; no more than M tokens -/
def start (M : Nat) (ts : List Tok) (n : Nat) (b : UInt8) : R :=
  if cl b = 1 then .go ts .btw
  else if b = 37 then .go ts .line
  else if b = 47 then .go ts (.slash n)
  else if cl b = 0 then .bad n 30
  else if ts.length = M then .bad n 34
  else opening ts n b

def step (M : Nat) (ts : List Tok) (n : Nat) (b : UInt8) : Mode → R
  | .btw => start M ts n b
  | .line => if b = 10 then .go ts .btw else .go ts .line
  | .slash f => if b = 42 then .go ts (.rem f) else if ts.length = M then .bad f 34 else if cl b = 5 then .go ts (.word 5 f [47, b]) else start M (ts ++ [⟨1, [47], f, n⟩]) n b
  | .dot f => if cl b = 5 then .go ts (.word 5 f [46, b]) else start M (ts ++ [⟨if cl b = 1 ∨ b = 37 then 6 else 1, [46], f, n⟩]) n b
  | .rem f => if b = 42 then .go ts (.star f) else .go ts (.rem f)
  | .star f => if b = 47 then .go ts .btw else if b = 42 then .go ts (.star f) else .go ts (.rem f)
  | .word c f acc => if joinB c (cl b) = true then .go ts (.word c f (acc ++ [b])) else start M (ts ++ [⟨kindOf c, acc, f, n⟩]) n b
  | .quo f acc => if b = 39 then .go ts (.quoq f acc) else if b = 92 then .go ts (.esc f acc) else if b.toNat < 32 ∨ 126 < b.toNat then .bad n 30 else .go ts (.quo f (acc ++ [b]))
  | .quoq f acc => if b = 39 then .go ts (.quo f (acc ++ [39])) else start M (ts ++ [⟨1, acc, f, n⟩]) n b
  | .esc f acc => if b = 110 then .go ts (.quo f (acc ++ [10])) else if b = 116 then .go ts (.quo f (acc ++ [9])) else if b = 92 ∨ b = 39 then .go ts (.quo f (acc ++ [b])) else .bad (n - 1) 32

def fin (M : Nat) (ts : List Tok) (n : Nat) : Mode → Out
  | .btw => .ok ts
  | .line => .ok ts
  | .slash f => if ts.length = M then .bad f 34 else .ok (ts ++ [⟨1, [47], f, n⟩])
  | .dot f => .ok (ts ++ [⟨6, [46], f, n⟩])
  | .rem f => .bad f 31
  | .star f => .bad f 31
  | .word c f acc => .ok (ts ++ [⟨kindOf c, acc, f, n⟩])
  | .quo f _ => .bad f 31
  | .quoq f acc => .ok (ts ++ [⟨1, acc, f, n⟩])
  | .esc f _ => .bad f 31

def ans (M : Nat) : List UInt8 → List Tok → Nat → Mode → Out
  | [], ts, n, m => fin M ts n m
  | b :: l, ts, n, m => match step M ts n b m with
    | .go ts' m' => ans M l ts' (n + 1) m'
    | .bad p e => .bad p e

/-- the state behind the bytes l -/
def run (M : Nat) : List UInt8 → List Tok → Nat → Mode → R
  | [], ts, _, m => .go ts m
  | b :: l, ts, n, m => match step M ts n b m with
    | .go ts' m' => run M l ts' (n + 1) m'
    | .bad p e => .bad p e

theorem ans_nil (M : Nat) (ts : List Tok) (n : Nat) (m : Mode) : ans M [] ts n m = fin M ts n m := rfl
theorem ans_cons (M : Nat) (b : UInt8) (l : List UInt8) (ts : List Tok) (n : Nat) (m : Mode) :
    ans M (b :: l) ts n m = match step M ts n b m with | .go ts' m' => ans M l ts' (n + 1) m' | .bad p e => .bad p e := rfl
theorem ans_append (M : Nat) (k l : List UInt8) (ts : List Tok) (n : Nat) (m : Mode) :
    ans M (k ++ l) ts n m = match run M k ts n m with | .go ts' m' => ans M l ts' (n + k.length) m' | .bad p e => .bad p e := by
  induction k generalizing ts n m with
  | nil => rfl
  | cons b k ih =>
    rw [List.cons_append, ans_cons, run]
    cases h : step M ts n b m with
    | go ts' m' => simp only [ih]; rw [List.length_cons, show n + (k.length + 1) = n + 1 + k.length from by omega]
    | bad p e => rfl
theorem ans_run (M : Nat) (l : List UInt8) (ts : List Tok) (n : Nat) (m : Mode) :
    ans M l ts n m = match run M l ts n m with | .go ts' m' => fin M ts' (n + l.length) m' | .bad p e => .bad p e := by
  have := ans_append M l [] ts n m
  rw [List.append_nil] at this
  rw [this]; rfl

/-- the document's answer for a whole text (of few bytes) -/
def toks (l : List UInt8) : Out := ans 1000 l [] 0 .btw

/-! ### many bytes at once -/
/-- a line's rest -/
theorem ans_line (M : Nat) (k l : List UInt8) (ts : List Tok) (n : Nat) (h : ∀ b ∈ k, b ≠ 10) : ans M (k ++ l) ts n .line = ans M l ts (n + k.length) .line := by
  induction k generalizing n with
  | nil => rfl
  | cons b k ih =>
    rw [List.cons_append, ans_cons, step, if_neg (h b (by simp))]
    simp only [ih (n + 1) (fun c hc => h c (by simp [hc]))]
    rw [List.length_cons, show n + (k.length + 1) = n + 1 + k.length from by omega]
theorem ans_line_end (M : Nat) (l : List UInt8) (ts : List Tok) (n : Nat) : ans M (10 :: l) ts n .line = ans M (10 :: l) ts n .btw := by
  rw [ans_cons, ans_cons, step, step, start, if_pos rfl, if_pos (by decide)]
theorem ans_word (M c f : Nat) (k l : List UInt8) (acc : List UInt8) (ts : List Tok) (n : Nat) (h : ∀ b ∈ k, joinB c (cl b) = true) :
    ans M (k ++ l) ts n (.word c f acc) = ans M l ts (n + k.length) (.word c f (acc ++ k)) := by
  induction k generalizing n acc with
  | nil => rw [List.append_nil]; rfl
  | cons b k ih =>
    rw [List.cons_append, ans_cons, step, if_pos (h b (by simp))]
    simp only [ih (acc ++ [b]) (n + 1) (fun c hc => h c (by simp [hc]))]
    rw [List.length_cons, show n + (k.length + 1) = n + 1 + k.length from by omega, List.append_assoc]; rfl
/-- a word is at its end -/
theorem ans_word_end (M c f : Nat) (l : List UInt8) (acc : List UInt8) (ts : List Tok) (n : Nat) (h : ∀ b r, l = b :: r → joinB c (cl b) = false) :
    ans M l ts n (.word c f acc) = ans M l (ts ++ [⟨kindOf c, acc, f, n⟩]) n .btw := by
  cases l with
  | nil => rfl
  | cons b r => rw [ans_cons, ans_cons, step, step, if_neg (by rw [h b r rfl]; decide)]

/-- the first '*/' -/
def cutRem : List UInt8 → Option (List UInt8)
  | [] => none
  | [_] => none
  | a :: b :: r => if a = 42 ∧ b = 47 then some r else cutRem (b :: r)
theorem ans_rem (M f : Nat) (ts : List Tok) : ∀ (l : List UInt8) (n : Nat),
    (∀ r, cutRem l = some r → ans M l ts n (.rem f) = ans M r ts (n + l.length - r.length) .btw ∧ r.length + 2 ≤ l.length) ∧
    (cutRem l = none → ans M l ts n (.rem f) = .bad f 31) ∧
    (∀ r, cutRem (42 :: l) = some r → ans M l ts n (.star f) = ans M r ts (n + l.length - r.length) .btw ∧ r.length + 1 ≤ l.length) ∧
    (cutRem (42 :: l) = none → ans M l ts n (.star f) = .bad f 31) := by
  intro l
  induction l with
  | nil =>
    intro n
    refine ⟨fun r h => ?_, fun _ => rfl, fun r h => ?_, fun _ => rfl⟩ <;> simp [cutRem] at h
  | cons a l ih =>
    intro n
    obtain ⟨h1, h2, h3, h4⟩ := ih (n + 1)
    have key : (∀ r, cutRem (a :: l) = some r → ans M (a :: l) ts n (.rem f) = ans M r ts (n + (a :: l).length - r.length) .btw ∧ r.length + 2 ≤ (a :: l).length) ∧
        (cutRem (a :: l) = none → ans M (a :: l) ts n (.rem f) = .bad f 31) := by
      by_cases ha : a = 42
      · subst ha
        constructor
        · intro r hr
          obtain ⟨e, hl⟩ := h3 r hr
          rw [ans_cons, step, if_pos rfl]
          simp only [e, List.length_cons]
          exact ⟨by rw [show n + 1 + l.length - r.length = n + (l.length + 1) - r.length from by omega], by omega⟩
        · intro hr
          rw [ans_cons, step, if_pos rfl]; exact h4 hr
      · have hc : cutRem (a :: l) = cutRem l := by
          cases l with
          | nil => simp [cutRem]
          | cons b r => rw [cutRem, if_neg (fun h => ha h.1)]
        constructor
        · intro r hr
          obtain ⟨e, hl⟩ := h1 r (hc ▸ hr)
          rw [ans_cons, step, if_neg ha]
          simp only [e, List.length_cons]
          exact ⟨by rw [show n + 1 + l.length - r.length = n + (l.length + 1) - r.length from by omega], by omega⟩
        · intro hr
          rw [ans_cons, step, if_neg ha]; exact h2 (hc ▸ hr)
    refine ⟨key.1, key.2, ?_, ?_⟩
    · intro r hr
      rw [cutRem] at hr
      by_cases ha : a = 47
      · rw [if_pos ⟨rfl, ha⟩] at hr
        cases hr
        rw [ans_cons, step, if_pos ha]
        exact ⟨by simp only [List.length_cons]; rw [show n + (l.length + 1) - l.length = n + 1 from by omega], by simp⟩
      · rw [if_neg (fun h => ha h.2)] at hr
        have k := key.1 r hr
        rw [ans_cons, step] at k
        rw [ans_cons, step, if_neg ha]
        by_cases hb : a = 42
        · rw [if_pos hb] at k ⊢; exact ⟨k.1, by have := k.2; omega⟩
        · rw [if_neg hb] at k ⊢; exact ⟨k.1, by have := k.2; omega⟩
    · intro hr
      rw [cutRem] at hr
      by_cases ha : a = 47
      · rw [if_pos ⟨rfl, ha⟩] at hr; cases hr
      · rw [if_neg (fun h => ha h.2)] at hr
        have k := key.2 hr
        rw [ans_cons, step] at k
        rw [ans_cons, step, if_neg ha]
        by_cases hb : a = 42
        · rw [if_pos hb] at k ⊢; exact k
        · rw [if_neg hb] at k ⊢; exact k
end Go.Proofs.Ytjccohcigopdfaa.lx
end
