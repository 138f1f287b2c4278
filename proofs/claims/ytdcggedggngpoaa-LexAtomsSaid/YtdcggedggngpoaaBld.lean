/- The library's string builder as this program has it (its copy check's panic is not run): copyCheck, WriteByte, WriteString; String by the shelf. -/
import Derived.Test.YtdcggedggngpoaaShelf
import Derived.Test.YtdcggedggngpoaaScan
import Derived.Lib.FrozenHead
import Derived.Lib.FrozenHead2
import Derived.Laws.Externs
namespace Go.Proofs.Ytdcggedggngpoaa.lx
open Go.RowKit

/-- block b is a builder that holds the bytes l -/
abbrev Bl (B b : Nat) (l : List UInt8) (w : World) : Prop := Lib.IsBuilderF 50 5 B b (Lib.byteCells l) w
theorem bl_info : (Try.prog.info? 50).map (·.size) = some 2 := by kernel_rfl
theorem bl_lies : liesAt Try.prog Try.prog.depth 50 (2 / Try.prog.cellsOf 50) 0 50 1 = true := by kernel_rfl
theorem u8_info : (Try.prog.info? 5).map (fun i => (i.zero, i.size, i.bytes)) = some (some (.int .u8 0), 1, 1) := by kernel_rfl

theorem check_used (b : Nat) (w : World) (h0 : w.cell? ⟨b, 0, none⟩ = some (.pointer (some ⟨b, 0, none⟩))) :
    Calls Try.prog 40 #[.pointer (some ⟨b, 0, none⟩)] w fun e w' => e = .returned (.tuple #[]) ∧ w = w' := by
  obtain ⟨j, hj, _⟩ := Option.map_eq_some_iff.1 bl_info
  go_enter Try.func40, Try.ntmps40
  go_wp2
  rw [Lib.run_neq_ptr_same w _ Try.underlying48 hj]
  go_wp2
  go_end0
  exact ⟨rfl, rfl⟩
theorem check_fresh (b : Nat) (w : World) (h0 : w.cell? ⟨b, 0, none⟩ = some (.pointer none)) (hsh : w.shape? b = some (50, 2)) (hfz : w.frozen? ⟨b, 0, none⟩ = false) :
    Calls Try.prog 40 #[.pointer (some ⟨b, 0, none⟩)] w fun e w' => e = .returned (.tuple #[]) ∧ w' = w.setCell ⟨b, 0, none⟩ (.pointer (some ⟨b, 0, none⟩)) := by
  obtain ⟨j, hj, hjs⟩ := Option.map_eq_some_iff.1 bl_info
  go_enter Try.func40, Try.ntmps40
  go_wp2
  rw [Lib.run_to_unsafe w ⟨b, 0, none⟩ Try.underlying48 Try.underlying68 hj (by rw [hjs]; decide) hsh (Nat.zero_lt_succ 1)]
  simp only [Result.andThen]
  rw [Oper.upon_value]
  go_wp2
  rw [run_callFunc_extern Try.func49 (by kernel_rfl) (by kernel_rfl) (by kernel_rfl) (e := Extern.AbiNoEscape.same) (by kernel_rfl)]
  rw [Lib.run_noEscape]
  simp only [Result.andThen]
  rw [Oper.upon_value]
  go_wp2
  rw [Lib.run_from_unsafe w ⟨b, 0, none⟩ Try.underlying68 Try.underlying48 hj hsh bl_lies]
  simp only [Result.andThen]
  rw [Oper.upon_value]
  go_wp2
  go_end0
  exact ⟨rfl, rfl⟩
theorem check_c (B b : Nat) (bs : List Value) (w : World) (h : Lib.IsBuilderF 50 5 B b bs w) :
    Calls Try.prog 40 #[.pointer (some ⟨b, 0, none⟩)] w fun e w' => e = .returned (.tuple #[]) ∧ Lib.BuilderAtF 50 5 B b (.pointer (some ⟨b, 0, none⟩)) bs w' ∧ Below B w w' := by
  rcases h with h | h
  · refine (check_fresh b w h.cell0 h.shape h.frozen0).mono ?_
    rintro e w' ⟨rfl, rfl⟩
    exact ⟨rfl, h.used _, (Below.refl B w).setCell (p := ⟨b, 0, none⟩) h.1 _⟩
  · refine (check_used b w h.cell0).mono ?_
    rintro e w' ⟨rfl, rfl⟩
    exact ⟨rfl, h, Below.refl B _⟩

/-- an opened builder: block b, used before; its bytes l lie in the slice v -/
structure Bu (B b : Nat) (v : Value) (l : List UInt8) (w : World) : Prop where
  low : B ≤ b
  head : w.heap[b]? = some (.cells #[.pointer (some ⟨b, 0, none⟩), v] 50 (0, 0))
  row : w.ownsRowF B 5 1 v l.length (Lib.byteCells l)
  apart : v.ownBlock ≠ some b
section
variable {B b : Nat} {v v' : Value} {l m : List UInt8} {w0 w W w2 : World}
theorem Bu.opened (h : Lib.BuilderAtF 50 5 B b (.pointer (some ⟨b, 0, none⟩)) (Lib.byteCells l) w) : ∃ v, Bu B b v l w :=
  h.2.elim fun v q => ⟨v, h.1, q.1, Lib.byteCells_length l ▸ q.2.1, q.2.2⟩
/-- what the walk reads of it -/
theorem Bu.reads (hh : w.heap[b]? = some (.cells #[.pointer (some ⟨b, 0, none⟩), v] 50 (0, 0))) :
    w.cell? ⟨b, 0, none⟩ = some (.pointer (some ⟨b, 0, none⟩)) ∧ w.cell? ⟨b, 1, none⟩ = some v ∧ w.frozen? ⟨b, 1, none⟩ = false :=
  ⟨(cell_at hh 0).trans rfl, (cell_at hh 1).trans rfl, by simp [World.frozen?, hh]⟩
/-- its slice was appended to, new blocks ahead of that or none: the head is as it was -/
theorem Bu.grew (h : Bu B b v l w) (hW : ∀ k, k < w.heap.size → W.heap[k]? = w.heap[k]?) (hz : w.heap.size ≤ W.heap.size) (hg : W.grownBy w2 v.ownBlock) : w2.heap[b]? = w.heap[b]? := by
  have hlt : b < w.heap.size := (Array.getElem?_eq_some_iff.1 h.head).1
  exact (hg.block b (Nat.lt_of_lt_of_le hlt hz) h.apart.symm).trans (hW b hlt)
/-- the longer slice is stored -/
theorem Bu.stored (h : Bu B b v l w) (h2 : w2.heap[b]? = w.heap[b]?) (n : Nat) (cs : List Value) (hn : n = (l ++ m).length) (hcs : cs = Lib.byteCells (l ++ m)) (ho : w2.ownsRowF B 5 1 v' n cs) : Bl B b (l ++ m) (w2.setCell ⟨b, 1, none⟩ v') := by
  subst hn hcs
  rw [← Lib.byteCells_length] at ho
  exact .inr (Lib.BuilderAtF.put h.low (h2.trans h.head) ho (by decide))
theorem Bu.frame (h : Bu B b v l w) (h0 : Below B w0 W) (hB : B ≤ W.heap.size) (hg : W.grownBy w2 v.ownBlock) : Below B w0 (w2.setCell ⟨b, 1, none⟩ v') :=
  (h0.grown hg hB fun k hk => (h.row.lt k hk).1).setCell (p := ⟨b, 1, none⟩) h.low _
/-- an own slice is a slice -/
theorem owns_slice {n : Nat} {cs : List Value} (h : w.ownsRowF B 5 1 v n cs) : ∃ a k c, v = .slice a k c := by
  rcases h.2 with h1 | ⟨g, c, _, _, h1, _⟩
  · exact ⟨none, 0, 0, h1.1⟩
  · exact ⟨_, _, c, h1⟩
end
theorem byte_new (w : World) (x : UInt8) (j : Nat) (u : Value) (hj : (Lib.byteCells [x])[j]? = some u) : (w.alloc (.cells #[.int .u8 (x.toNat : Nat)] 5)).cell? ((⟨w.heap.size, 0, none⟩ : Addr).add j) = some u := by
  obtain rfl : j = 0 := by
    have := (List.getElem?_eq_some_iff.1 hj).1
    rw [Lib.byteCells_length, List.length_singleton] at this; omega
  exact (cell_at (heap_alloc_new w _) 0).trans hj
theorem byte_one (x : UInt8) : ∀ u ∈ Lib.byteCells [x], u.oneCell' = true := fun u hu => by rw [List.mem_singleton.1 hu]; rfl

set_option maxHeartbeats 1000000 in
theorem writeByte_c (B b : Nat) (l : List UInt8) (x : UInt8) (w : World) (h : Bl B b l w) (hlen : l.length ≤ 1000000) (hBw : B ≤ w.heap.size) :
    Calls Try.prog 30 #[.pointer (some ⟨b, 0, none⟩), .int .u8 (x.toNat : Nat)] w fun e w' => e = .returned .nilIface ∧ Bl B b (l ++ [x]) w' ∧ Below B w w' := by
  obtain ⟨i0, hi, hz0, hz1, hz2⟩ := info_parts u8_info
  go_enter Try.func30, Try.ntmps30
  go_wp2_with (go_at_call 40; refine (check_c B b _ _ h).mono ?_)
  rintro e w1 ⟨rfl, h1, hb1⟩
  obtain ⟨v, hu⟩ := Bu.opened h1
  have HU := Lib.hid hu
  obtain ⟨c0, c1, _⟩ := Bu.reads hu.head
  have hz := hb1.size
  have HB1 := Lib.hid hb1
  clear hu h1 hb1
  go_wp2_with (at_builtin; refine wpList_append_ownF _ rfl _ _ 22 rfl B 5 i0 (.int .u8 0) 1 1 Try.underlying22 hi hz0 hz1 hz2 rfl (by decide) _ _ _ rfl (HU.out.row.alloc _) ⟨w1.heap.size, 0, none⟩ 1 1 (Lib.byteCells [x]) rfl rfl (byte_new w1 x) (byte_one x) (by unfold maxLen; omega) (by omega) (by simp; omega) ?_)
  intro v2 w2 ho hg _
  have hh := HU.out.grew (fun k hk => Lib.alloc_old w1 _ k hk) (by simp) hg
  obtain ⟨d0, d1, f1⟩ := Bu.reads (hh.trans HU.out.head)
  obtain ⟨sa, sl, sc, rfl⟩ := owns_slice ho
  have HO := Lib.hid ho
  have HH := Lib.hid hh
  have HG := Lib.hid hg
  clear ho hh hg
  go_wp2
  go_ret
  exact ⟨rfl, HU.out.stored HH.out _ _ (by simp) (by simp [Lib.byteCells]) HO.out, HU.out.frame (HB1.out.alloc (by omega) _) (by simp; omega) HG.out⟩

set_option maxHeartbeats 1000000 in
theorem writeString_c (B b : Nat) (l : List UInt8) (s : ByteArray) (w : World) (h : Bl B b l w) (hlen : l.length ≤ 1000000) (hs : s.size ≤ 1000000) (hBw : B ≤ w.heap.size) :
    Calls Try.prog 31 #[.pointer (some ⟨b, 0, none⟩), .string s] w fun e w' => e = .returned (.tuple #[.int .i64 s.size, .nilIface]) ∧ Bl B b (l ++ s.data.toList) w' ∧ Below B w w' := by
  obtain ⟨i0, hi, hz0, hz1, hz2⟩ := info_parts u8_info
  go_enter Try.func31, Try.ntmps31
  go_wp2_with (go_at_call 40; refine (check_c B b _ _ h).mono ?_)
  rintro e w1 ⟨rfl, h1, hb1⟩
  obtain ⟨v, hu⟩ := Bu.opened h1
  have HU := Lib.hid hu
  obtain ⟨c0, c1, _⟩ := Bu.reads hu.head
  have hz := hb1.size
  have HB1 := Lib.hid hb1
  clear hu h1 hb1
  go_wp2_with (at_builtin; refine Lib.wpList_append_own_stringF _ rfl _ _ 22 9 rfl B 5 i0 Try.underlying22 Try.underlying9 hi hz0 hz1 hz2 _ _ _ rfl HU.out.row s rfl (by unfold maxLen; omega) (by omega) (by omega) ?_)
  intro v2 w2 ho hg _
  have hh := HU.out.grew (fun k _ => rfl) (Nat.le_refl _) hg
  obtain ⟨d0, d1, f1⟩ := Bu.reads (hh.trans HU.out.head)
  obtain ⟨sa, sl, sc, rfl⟩ := owns_slice ho
  have HO := Lib.hid ho
  have HH := Lib.hid hh
  have HG := Lib.hid hg
  clear ho hh hg
  go_wp2
  go_ret2
  exact ⟨rfl, HU.out.stored HH.out _ _ (by simp) (by rw [Lib.strCells_eq]; simp [Lib.byteCells]) HO.out, HU.out.frame HB1.out (by omega) HG.out⟩

theorem bString_c (B b : Nat) (l : List UInt8) (w : World) (h : Bl B b l w) (hBw : B ≤ w.heap.size) :
    Calls Try.prog 32 #[.pointer (some ⟨b, 0, none⟩)] w fun e w' => e = .returned (.string ⟨l.toArray⟩) ∧ Below B w w' :=
  (Try.Builder_String_any_k B b l w h hBw).mono fun _ _ ⟨h1, _, h2, _⟩ => ⟨h1, h2⟩
/-- a builder that was just made -/
theorem bl_new (w : World) : Bl w.heap.size w.heap.size [] (w.alloc (.cells #[.pointer none, .slice none 0 0] 50)) :=
  .inl ⟨Nat.le_refl _, .slice none 0 0, heap_alloc_new w _, ⟨rfl, .inl ⟨rfl, rfl⟩⟩, by simp [Value.ownBlock]⟩
end Go.Proofs.Ytdcggedggngpoaa.lx
