/- Texts of integers: num's Print.; Texts of integers: num's Parse.; Terms, names and the program's reader in memory; what a call of the reader's keeps.; The program's reader: next, here, isMark, passes, expect.; The program's reader: expect, atom, compound, infix, mayBegin.; The program's reader: integer, variable.; The program's reader: variable.; The program's reader: bracketed, row.; slices.Backward over a row of terms: what its closure yields, from the last one to the first.; A term in a cell of the function's own beside its result's cell: what a loop of the reader's carries.; What the rounds over a row of terms carry, where each puts one more ahead of the rest.; The program's reader: list.; The program's reader: marked. -/
import Derived.Test.YtpihmockcjdafaaQ4
import Derived.PlainAid
import Derived.Lib.IndexBytes
import Derived.Lib.Strings
import Derived.Test.YtpihmockcjdafaaQ2
import Derived.Lib.SlicesS
import Derived.Lib.TrimByte
import Derived.Deep.AppendLies
import Derived.RangeFuncNested
import Derived.RangeFuncBound
import Derived.RangeFuncCalls
import Derived.RangeFuncLeaves
import Derived.Shelf.Abstract
import Derived.OwnWalkIn
import Derived.TacticsInMore
import Derived.LoopNIn
import Derived.LoopIn
set_option linter.unusedVariables false
set_option linter.unusedSimpArgs false
section
/- Texts of integers: num's Print. -/
namespace Go.Proofs.Ytpihmockcjdafaa.tx
open Go.RowKit Go.Proofs.Ytpihmockcjdafaa.nm

theorem mag_neg {a : Int} (h : a < 0) (h2 : -9223372036854775808 ≤ a) : Ending.returned (.int .u64 (IntKind.u64.wrap (-IntKind.u64.wrap a))) = .returned (.int .u64 (a.natAbs : Nat)) := by
  rw [IntKind.wrap_u64, IntKind.wrap_u64]; congr 2; omega
theorem mag_pos {a : Int} (h : ¬ a < 0) : Ending.returned (.int .u64 a) = .returned (.int .u64 (a.natAbs : Nat)) := by
  congr 2; omega

/-- the digits that stand in the room, from place f on -/
structure Room (w : World) (B f : Nat) (r : List UInt8) (cur : Array Value) : Prop where
  block : w.heap[B]? = some (.cells cur 89 (0, 0))
  size : cur.size = 20
  get : ∀ i (h : i < r.length), cur[f + i]? = some (.int .u8 (r[i].toNat : Nat))
theorem Room.cell {w : World} {B f : Nat} {r : List UInt8} {cur : Array Value} (h : Room w B f r cur) (k : Nat) (hk : k < 20) : ∃ v, w.cell? ⟨B, k, none⟩ = some v := by
  rw [cell_of_row w B k cur _ _ h.block]
  exact ⟨cur[k]'(by rw [h.size]; exact hk), by simp [h.size, hk]⟩
theorem Room.free {w : World} {B f : Nat} {r : List UInt8} {cur : Array Value} (h : Room w B f r cur) (k : Nat) : w.frozen? ⟨B, k, none⟩ = false := frozen_of_row w B k cur _ h.block
theorem Room.store {w : World} {B k : Nat} {r : List UInt8} {cur : Array Value} (h : Room w B (k + 1) r cur) (hk : k < 20) (c : UInt8) {e : Int} (he : e = (c.toNat : Nat)) :
    Room (w.setCell ⟨B, k, none⟩ (.int .u8 e)) B k (c :: r) (cur.setIfInBounds k (.int .u8 e)) := by
  subst he
  refine ⟨heap_setCell_same w B k cur _ _ h.block, by simpa using h.size, fun i hi => ?_⟩
  cases i with
  | zero => simp [h.size, hk]
  | succ i =>
    have := h.get i (by simpa using hi)
    rw [Array.getElem?_setIfInBounds_ne (by omega), show k + (i + 1) = k + 1 + i from by omega, this]
    rfl
theorem room_start (w : World) : Room (w.alloc (.cells #[.int .u8 0, .int .u8 0, .int .u8 0, .int .u8 0, .int .u8 0, .int .u8 0, .int .u8 0, .int .u8 0, .int .u8 0, .int .u8 0, .int .u8 0, .int .u8 0, .int .u8 0, .int .u8 0, .int .u8 0, .int .u8 0, .int .u8 0, .int .u8 0, .int .u8 0, .int .u8 0] 89)) w.heap.size 20 [] #[.int .u8 0, .int .u8 0, .int .u8 0, .int .u8 0, .int .u8 0, .int .u8 0, .int .u8 0, .int .u8 0, .int .u8 0, .int .u8 0, .int .u8 0, .int .u8 0, .int .u8 0, .int .u8 0, .int .u8 0, .int .u8 0, .int .u8 0, .int .u8 0, .int .u8 0, .int .u8 0] :=
  ⟨heap_alloc_new _ _, rfl, fun _ hi => absurd hi (Nat.not_lt_zero _)⟩
set_option maxRecDepth 20000 in
theorem Room.conv {w : World} {B f : Nat} {r : List UInt8} {cur : Array Value} (h : Room w B f r cur) (hf : 20 - f = r.length) :
    (convert 53 9 (.slice (some ⟨B, f, none⟩) (20 - f) (20 - f))).run Try.prog w = .ok (.string (str r)) w := by
  have := run_convert_bytes_arg (P := Try.prog) w 53 5 Try.underlying53 Try.underlying5 B f (20 - f) (20 - f) (r.map fun c => (c.toNat : Int)) (by simp [hf]) (fun i hi => by
    rw [cell_of_row w B (f + i) cur _ _ h.block, h.get i (by omega)]
    simp [show i < r.length by omega]) 9 Try.underlying9
  rw [this]
  congr 2
  unfold strOfNums str
  simp only [List.map_map]
  rw [show ((fun n : Int => UInt8.ofNat n.toNat) ∘ fun c : UInt8 => (c.toNat : Int)) = id from funext fun c => by simp, List.map_id]
theorem slice_room (B q : Nat) (hq : q < 20) (w : World) :
    (Instr.sliceAt 89 (.pointer (some ⟨B, 0, none⟩)) (some (.int .i64 (q : Int))) none none).run Try.prog w = .ok (.slice (some ⟨B, q, none⟩) (20 - q) (20 - q)) w := by
  have hal : Try.prog.arrayLen 89 = 20 := by kernel_rfl
  have hel : Try.prog.elem 89 = 5 := by kernel_rfl
  have hsz : ∀ w, (sizeOf 5).run Try.prog w = .ok 1 w := fun _ => by kernel_rfl
  rw [run_sliceAt_array_l w 89 ⟨B, 0, none⟩ (by kernel_rfl) .i64 q (by omega) (by rw [hal]; omega), hel, hsz, hal]
  simp [Result.andThen, slicedAt, show ¬ (20 = q) from by omega, Addr.add]
  try omega

set_option maxRecDepth 20000 in
theorem magnitude_c (a : Int) (ha : Fit a) (w : World) :
    Calls Try.prog 58 #[.int .i64 a] w fun e w' => e = .returned (.int .u64 (a.natAbs : Nat)) ∧ w = w' := by
  unfold Fit at ha
  by_cases h0 : a < 0
  · go_enter Try.func58, Try.ntmps58
    go_wp2
    go_ret
    exact ⟨mag_neg h0 ha.1, rfl⟩
  · go_enter Try.func58, Try.ntmps58
    go_wp2
    go_ret
    exact ⟨mag_pos (by omega), rfl⟩

set_option maxRecDepth 20000 in
theorem print_c (a : Int) (ha : Fit a) (w : World) :
    Calls Try.prog 41 #[.int .i64 a] w fun e w' => e = .returned (.string (str (text a))) ∧ Below w.heap.size w w' := by
  have hN := Lib.hid (dec_len a.natAbs (by unfold Fit at ha; omega))
  have hm := magnitude_c a ha
  have hN2 : a.natAbs ≤ 9223372036854775808 := by unfold Fit at ha; omega
  go_enter Try.func41, Try.ntmps41
  go_wp2_with (go_at_call 58; refine (hm _).mono ?_; rintro e w' ⟨rfl, rfl⟩)
  go_loopw [4, 5, 8] (fun f n c wr => ∃ (k j m : Nat) (r : List UInt8) (cur : Array Value), f = .int .i64 k ∧ n = .int .u64 m ∧ c = .int .i64 j ∧ k + j ≤ 20 ∧ 20 ≤ k + j ∧ Hid (r.length = j) ∧ Hid (dec a.natAbs = decTo m r) ∧ m ≤ 9223372036854775808 ∧ Hid (Room wr w.heap.size k r cur) ∧ Below w.heap.size w wr) (fun _ _ c _ => 19 - (intOf c).toNat)
  case atStart =>
    exact ⟨20, 0, a.natAbs, [], _, rfl, rfl, rfl, by omega, by omega, Lib.hid rfl, Lib.hid rfl, hN2, Lib.hid (room_start w), by go_grown⟩
  case round =>
    obtain ⟨k, j, m, r, cur, rfl, rfl, rfl, hk1, hk2, hrl, hD, hm2, hR, hb⟩ := hrel
    have hj : j ≤ 18 := by
      have h1 := hN.out; rw [hD.out, decTo_append, List.length_append, hrl.out] at h1
      have h2 := dec_ne m
      rcases hd : dec m with _ | ⟨x, l⟩
      · exact absurd hd h2
      · rw [hd] at h1; simp at h1; omega
    obtain ⟨p, rfl⟩ : ∃ p, k = p + 2 := ⟨k - 2, by omega⟩
    obtain ⟨v0, c0⟩ := hR.out.cell (p + 1) (by omega)
    have f0 := hR.out.free (p + 1)
    have hR' := Lib.hid (hR.out.store (k := p + 1) (by omega) (dig m) (e := 48 + (m : Int) % 10) (by rw [dig_nat]; omega))
    by_cases h10 : m < 10
    · have hz : m / 10 = 0 := by omega
      have hD' := Lib.hid (show dec a.natAbs = dig m :: r by rw [hD.out, decTo_lt h10])
      have hln : (dec a.natAbs).length = r.length + 1 := by rw [hD'.out]; rfl
      by_cases h0 : a < 0
      · obtain ⟨v1, c1⟩ := hR.out.cell p (by omega)
        have f1 := hR.out.free p
        have hR2 := hR'.out.store (k := p) (by omega) 45 (e := 45) rfl
        rw [← hD'.out, ← text_neg h0] at hR2
        have hcv := hR2.conv (by rw [text_neg h0, List.length_cons, hln, hrl.out]; omega)
        have hsl : ∀ W, (Instr.sliceAt 89 (.pointer (some ⟨w.heap.size, 0, none⟩)) (some (.int .i64 ((p : Int) + 2 - 1 - 1))) none none).run Try.prog W = .ok (.slice (some ⟨w.heap.size, p, none⟩) (20 - p) (20 - p)) W := by
          rw [show ((p : Int) + 2 - 1 - 1) = (p : Nat) from by omega]; exact slice_room w.heap.size p (by omega)
        have hb2 : Below w.heap.size w (((wr.setCell ⟨w.heap.size, p + 1, none⟩ (.int .u8 (48 + (m : Int) % 10))).setCell ⟨w.heap.size, p, none⟩ (.int .u8 45))) := (hb.setCell (Nat.le_refl _) _).setCell (Nat.le_refl _) _
        clear hR2 hD hD' hln
        go_wp2
        go_ret
        exact ⟨rfl, hb2⟩
      · have hR2 := hR'.out
        rw [← hD'.out, ← text_pos h0] at hR2
        have hcv := hR2.conv (by rw [text_pos h0, hln, hrl.out]; omega)
        rw [show 20 - (p + 1) = 19 - p from by omega] at hcv
        have hsl : ∀ W, (Instr.sliceAt 89 (.pointer (some ⟨w.heap.size, 0, none⟩)) (some (.int .i64 ((p : Int) + 2 - 1))) none none).run Try.prog W = .ok (.slice (some ⟨w.heap.size, p + 1, none⟩) (19 - p) (19 - p)) W := by
          rw [show ((p : Int) + 2 - 1) = ((p + 1 : Nat) : Int) from by omega, show 19 - p = 20 - (p + 1) from by omega]; exact slice_room w.heap.size (p + 1) (by omega)
        have hb2 : Below w.heap.size w (wr.setCell ⟨w.heap.size, p + 1, none⟩ (.int .u8 (48 + (m : Int) % 10))) := hb.setCell (Nat.le_refl _) _
        clear hR2 hD hD' hln
        go_wp2
        go_ret
        exact ⟨rfl, hb2⟩
    · have hz : 0 < m / 10 := by omega
      have hD' := Lib.hid (show dec a.natAbs = decTo (m / 10) (dig m :: r) by rw [hD.out, decTo_ge h10])
      go_wp2
      exact ⟨⟨p + 1, j + 1, m / 10, dig m :: r, _, by go_num, by go_num, by go_num, by omega, by omega, Lib.hid (by rw [List.length_cons, hrl.out]), hD', by omega, hR', hb.setCell (Nat.le_refl _) _⟩, by simp [intOf]; omega⟩
end Go.Proofs.Ytpihmockcjdafaa.tx
end
section
/- Texts of integers: num's Parse. -/
namespace Go.Proofs.Ytpihmockcjdafaa.tx
open Go.RowKit Go.Proofs.Ytpihmockcjdafaa.nm

theorem str_list (l : List UInt8) : (str l).data.toList = l := rfl
theorem str_size (l : List UInt8) : (str l).size = l.length := rfl
theorem str_get (l : List UInt8) (k : Nat) (h : k < l.length) : PlainAid.bt (str l) k = (l[k].toNat : Nat) := by
  unfold PlainAid.bt; rw [dif_pos (show k < (str l).size from h)]; rfl
theorem bytes_str {s : ByteArray} {l : List UInt8} (h : s.data.toList = l) : s = str l := WideShapes.bytes_inj h
theorem ret_str {s t : ByteArray} (h : s = t) : Ending.returned (.string s) = .returned (.string t) := by rw [h]

/-- what reckon answers of a text -/
def Reck (l : List UInt8) (w w' : World) (e : Ending) : Prop :=
  ∃ (n : Int) (ok : Bool), e = .returned (.tuple #[.int .i64 n, .bool ok]) ∧ Fit n ∧ (∀ a, Fit a → text a = l → ok = true ∧ n = a) ∧ w = w'

def two64 : Nat := 18446744073709551616
/-- the digits alone, round 2^64 -/
def valM (l : List UInt8) : Nat := l.foldl (fun n c => if 48 ≤ c.toNat ∧ c.toNat ≤ 57 then (10 * n + (c.toNat - 48)) % two64 else n) 0
theorem valM_snoc (l : List UInt8) (c : UInt8) : valM (l ++ [c]) = if 48 ≤ c.toNat ∧ c.toNat ≤ 57 then (10 * valM l + (c.toNat - 48)) % two64 else valM l := by
  unfold valM; rw [List.foldl_append]; rfl

theorem wrap_step {m c : Nat} (h : 48 ≤ c) : Value.int .u64 (IntKind.u64.wrap (IntKind.u64.wrap ((m : Int) * 10) + ((c : Int) - 48))) = .int .u64 (((10 * m + (c - 48)) % two64 : Nat) : Int) := by
  rw [IntKind.wrap_u64, IntKind.wrap_u64]; unfold two64; congr 1; omega
theorem valM_digs (l : List UInt8) : ∀ n, Digs l → valF l n < two64 → l.foldl (fun n c => if 48 ≤ c.toNat ∧ c.toNat ≤ 57 then (10 * n + (c.toNat - 48)) % two64 else n) n = valF l n := by
  induction l with
  | nil => intro n _ _; rw [List.foldl_nil, valF_nil]
  | cons c l ih =>
    intro n hd hv
    have h1 := hd c (List.mem_cons_self ..)
    rw [valF_cons] at hv ⊢
    have h2 := valF_mono l (10 * n + (c.toNat - 48))
    rw [List.foldl_cons, if_pos h1, Nat.mod_eq_of_lt (by omega)]
    exact ih _ (fun x hx => hd x (List.mem_cons_of_mem _ hx)) hv
theorem valM_dec {n : Nat} (h : n < two64) : valM (dec n) = n := by
  unfold valM; rw [valM_digs _ _ (digs_dec n) (by rw [val_dec]; exact h), val_dec]
theorem valM_neg (t : List UInt8) : valM (45 :: t) = valM t := by unfold valM; rw [List.foldl_cons]; rfl
theorem parse_m1 {l : List UInt8} {m : Nat} (hv : valM l = m) {r : List UInt8} (hl : l = 45 :: r) : ∀ a, Fit a → text a = l → wrap64 (-wrap64 (m : Int)) = a := by
  intro a ha hta
  by_cases h0 : a < 0
  · rw [text_neg h0] at hta
    have : m = a.natAbs := by rw [← hv, ← hta, valM_neg, valM_dec (by unfold two64; unfold Fit at ha; omega)]
    subst this
    unfold Fit at ha; unfold wrap64; omega
  · rw [text_pos h0, hl] at hta; exact absurd rfl (dec_head hta)
theorem parse_m0 {l : List UInt8} {m : Nat} (hv : valM l = m) {c : UInt8} {r : List UInt8} (hl : l = c :: r) (hc : c ≠ 45) : ∀ a, Fit a → text a = l → wrap64 (m : Int) = a := by
  intro a ha hta
  by_cases h0 : a < 0
  · rw [text_neg h0, hl] at hta; exact absurd (List.cons.inj hta).1.symm hc
  · rw [text_pos h0] at hta
    have : m = a.natAbs := by rw [← hv, ← hta, valM_dec (by unfold two64; unfold Fit at ha; omega)]
    subst this
    unfold Fit at ha; unfold wrap64; omega

set_option maxRecDepth 100000 in
/-- the reference's Parse -/
theorem parse_r (l : List UInt8) (hl : l.length ≤ 8192) (w : World) :
    Calls Try.prog 72 #[.string (str l)] w fun e w' => e = .returned (.tuple #[.int .i64 (parseV l), .int .i64 (parseE l)]) ∧ w = w' := by
  have s1 : (str l).size = l.length := rfl
  by_cases h1 : l.length < 1
  · have hp := Lib.hid (parse_no (s := l) fun a ha h => by have := text_len ha; rw [h] at this; omega)
    generalize str l = sl at *
    go_enter Try.func72, Try.ntmps72
    go_wp2
    go_ret2
    exact ⟨ret2 hp.out.1.symm hp.out.2.symm, rfl⟩
  · by_cases h2 : 20 < l.length
    · have hp := Lib.hid (parse_no (s := l) fun a ha h => by have := text_len ha; rw [h] at this; omega)
      generalize str l = sl at *
      go_enter Try.func72, Try.ntmps72
      go_wp2
      go_ret2
      exact ⟨ret2 hp.out.1.symm hp.out.2.symm, rfl⟩
    · have hgt := PlainAid.get_bt (str l)
      have hbt := fun k h => str_get l k h
      generalize hsl : str l = sl at *
      have Hsl := Lib.hid hsl
      clear hsl
      go_enter Try.func72, Try.ntmps72
      go_wp2
      go_loop [4, 5] (fun n i => ∃ k m : Nat, i = .int .i64 k ∧ n = .int .u64 m ∧ k ≤ l.length ∧ m < two64 ∧ Hid (valM (l.take k) = m)) (fun _ i => l.length - (intOf i).toNat)
      case atStart => exact ⟨0, 0, rfl, rfl, by omega, by unfold two64; omega, Lib.hid rfl⟩
      case round =>
        obtain ⟨k, m, rfl, rfl, hk, hm, hv⟩ := hrel
        by_cases hkl : k < l.length
        · have hc := hbt k hkl
          have hs := Lib.hid (show l.take (k + 1) = l.take k ++ [l[k]] from List.take_succ_eq_append_getElem hkl)
          have hc2 := l[k].toNat_lt
          generalize l[k] = ck at *
          generalize hcn : ck.toNat = c at *
          have Hcn := Lib.hid hcn
          clear hcn hbt
          by_cases h1 : 48 ≤ c
          · by_cases h2 : c ≤ 57
            · have hv' := Lib.hid (show valM (l.take (k + 1)) = (10 * m + (c - 48)) % two64 by rw [hs.out, valM_snoc, hv.out, Hcn.out, if_pos ⟨h1, h2⟩])
              go_wp2
              exact ⟨⟨k + 1, (10 * m + (c - 48)) % two64, by go_num, wrap_step h1, by omega, Nat.mod_lt _ (by unfold two64; omega), hv'⟩, by simp [intOf]; omega⟩
            · have hv' := Lib.hid (show valM (l.take (k + 1)) = m by rw [hs.out, valM_snoc, hv.out, Hcn.out, if_neg (by omega)])
              go_wp2
              exact ⟨⟨k + 1, m, by go_num, rfl, by omega, hm, hv'⟩, by simp [intOf]; omega⟩
          · have hv' := Lib.hid (show valM (l.take (k + 1)) = m by rw [hs.out, valM_snoc, hv.out, Hcn.out, if_neg (by omega)])
            go_wp2
            exact ⟨⟨k + 1, m, by go_num, rfl, by omega, hm, hv'⟩, by simp [intOf]; omega⟩
        · obtain rfl : k = l.length := by omega
          have hv2 := Lib.hid (show valM l = m by have := hv.out; rwa [List.take_length] at this)
          have hc := hbt 0 (by omega)
          have l0 := Lib.hid (show l = l[0] :: l.drop 1 by rw [List.getElem_cons_drop]; rfl)
          have hc2 := l[0].toNat_lt
          by_cases h45 : l[0] = 45
          · rw [h45] at hc l0
            have hc' : PlainAid.bt sl 0 = 45 := hc
            have hA := Lib.hid (parse_m1 hv2.out l0.out)
            have hpr := print_r (wrap64 (-wrap64 (m : Int))) (wrap_is_fit _) 
            by_cases he : text (wrap64 (-wrap64 (m : Int))) = l
            · have hp := Lib.hid (parse_yes (wrap_is_fit _) he)
              have t1 : ((str (text (wrap64 (-wrap64 (m : Int))))).toList == sl.toList) = true := by rw [he, Hsl.out]; simp
              generalize str (text (wrap64 (-wrap64 (m : Int)))) = st at *
              clear he hv
              go_wp2_with (go_at_call 46; refine (hpr _).mono ?_; rintro e w' ⟨rfl, rfl⟩)
              go_ret2
              exact ⟨ret2 hp.out.1.symm hp.out.2.symm, rfl⟩
            · have hp := Lib.hid (parse_no (s := l) fun a h1 h2 => he (by rw [hA.out a h1 h2]; exact h2))
              have t1 : ((str (text (wrap64 (-wrap64 (m : Int))))).toList == sl.toList) = false := by
                rw [← Hsl.out, ByteArray.toList_eq, ByteArray.toList_eq, str_list, str_list]; simpa using he
              generalize str (text (wrap64 (-wrap64 (m : Int)))) = st at *
              clear he hv
              go_wp2_with (go_at_call 46; refine (hpr _).mono ?_; rintro e w' ⟨rfl, rfl⟩)
              go_ret2
              exact ⟨ret2 hp.out.1.symm hp.out.2.symm, rfl⟩
          · have hne : l[0].toNat ≠ 45 := fun h => h45 (UInt8.toNat_inj.1 h)
            generalize hcn : l[0].toNat = c at *
            have t45 : ((c : Int) == 45) = false := by simp; omega
            have hA := Lib.hid (parse_m0 hv2.out l0.out h45)
            have hpr := print_r (wrap64 (m : Int)) (wrap_is_fit _) 
            by_cases he : text (wrap64 (m : Int)) = l
            · have hp := Lib.hid (parse_yes (wrap_is_fit _) he)
              have t1 : ((str (text (wrap64 (m : Int)))).toList == sl.toList) = true := by rw [he, Hsl.out]; simp
              generalize str (text (wrap64 (m : Int))) = st at *
              clear he hv
              go_wp2_with (go_at_call 46; refine (hpr _).mono ?_; rintro e w' ⟨rfl, rfl⟩)
              go_ret2
              exact ⟨ret2 hp.out.1.symm hp.out.2.symm, rfl⟩
            · have hp := Lib.hid (parse_no (s := l) fun a h1 h2 => he (by rw [hA.out a h1 h2]; exact h2))
              have t1 : ((str (text (wrap64 (m : Int)))).toList == sl.toList) = false := by
                rw [← Hsl.out, ByteArray.toList_eq, ByteArray.toList_eq, str_list, str_list]; simpa using he
              generalize str (text (wrap64 (m : Int))) = st at *
              clear he hv
              go_wp2_with (go_at_call 46; refine (hpr _).mono ?_; rintro e w' ⟨rfl, rfl⟩)
              go_ret2
              exact ⟨ret2 hp.out.1.symm hp.out.2.symm, rfl⟩

end Go.Proofs.Ytpihmockcjdafaa.tx
end
section
/- Terms, names and the program's reader in memory; what a call of the reader's keeps. -/
namespace Go.Proofs.Ytpihmockcjdafaa.rd
open Go.RowKit
open Go.Proofs.Ytpihmockcjdafaa.op (bs strC Both Tb)
open Go.Proofs.Ytpihmockcjdafaa.lx (Tok Tk tcell tcells cell_at)

/-! ### terms -/
def T.k : T → Nat
  | .leaf k _ _ => k
  | .cmp _ _ => 4
def T.n : T → Int
  | .leaf _ n _ => n
  | .cmp _ _ => 0
def T.s : T → List UInt8
  | .leaf _ _ s => s
  | .cmp s _ => s
/-- a term's four cells, a being the slice of its parts -/
def tv (t : T) (a : Value) : List Value := [.int .i64 (t.k : Nat), .int .i64 t.n, .string (bs t.s), a]
def tvs (l : List (T × Value)) : List Value := l.flatMap fun x => tv x.1 x.2
theorem tvs_append (a b : List (T × Value)) : tvs (a ++ b) = tvs a ++ tvs b := by simp [tvs]
theorem tvs_len (l : List (T × Value)) : (tvs l).length = l.length * 4 := by
  induction l with
  | nil => rfl
  | cons t l ih => rw [tvs, List.flatMap_cons, List.length_append, List.length_cons]; rw [tvs] at ih; rw [ih]; simp [tv]; omega
theorem tvs_get (l : List (T × Value)) (i j : Nat) (hi : i < l.length) (hj : j < 4) : (tvs l)[i * 4 + j]? = (tv l[i].1 l[i].2)[j]? := by
  induction l generalizing i with
  | nil => exact absurd hi (Nat.not_lt_zero _)
  | cons t l ih =>
    rw [tvs, List.flatMap_cons]
    cases i with
    | zero => rw [List.getElem?_append_left (by simp [tv]; omega)]; simp
    | succ i =>
      rw [List.getElem?_append_right (by simp [tv]; omega)]
      rw [show (i + 1) * 4 + j - (tv t.1 t.2).length = i * 4 + j from by simp [tv]; omega]
      rw [tvs] at ih
      rw [ih i (by simpa using hi)]; rfl
mutual
/-- a is the slice of the term's parts; all lies in blocks of D -/
def Rp (D : Nat → Prop) (w : World) : T → Value → Prop
  | .leaf _ _ _, a => a = .slice none 0 0
  | .cmp _ l, a => ∃ az : List Value, w.ownsRow 0 24 4 a l.length (tvs (l.zip az)) ∧ (∀ g, a.ownBlock = some g → D g) ∧ Rps D w l az
def Rps (D : Nat → Prop) (w : World) : List T → List Value → Prop
  | [], az => az = []
  | t :: l, az => ∃ a az', az = a :: az' ∧ Rp D w t a ∧ Rps D w l az'
end
section
variable {D D' : Nat → Prop} {w w' : World}
theorem Rps.len : ∀ {l : List T} {az : List Value}, Rps D w l az → az.length = l.length
  | [], az, h => by rw [Rps] at h; rw [h]; rfl
  | t :: l, az, h => by
    rw [Rps] at h
    obtain ⟨a, az', rfl, _, h⟩ := h
    simp [Rps.len h]
theorem Rps.append : ∀ {l m : List T} {az bs : List Value}, Rps D w l az → Rps D w m bs → Rps D w (l ++ m) (az ++ bs)
  | [], m, az, bs, h, k => by rw [Rps] at h; subst h; exact k
  | t :: l, m, az, bs, h, k => by
    rw [Rps] at h
    obtain ⟨a, az', rfl, h1, h2⟩ := h
    rw [List.cons_append, Rps]
    exact ⟨a, az' ++ bs, rfl, h1, Rps.append h2 k⟩
theorem Rps.nil : Rps D w [] [] := by rw [Rps]
theorem Rps.one {t : T} {a : Value} (h : Rp D w t a) : Rps D w [t] [a] := by
  rw [Rps]; exact ⟨a, [], rfl, h, Rps.nil⟩
theorem Rps.two {t u : T} {a b : Value} (h : Rp D w t a) (k : Rp D w u b) : Rps D w [t, u] [a, b] := by
  rw [Rps]; exact ⟨a, [b], rfl, h, Rps.one k⟩
theorem Rps.get : ∀ {l : List T} {az : List Value}, Rps D w l az → ∀ i (hi : i < l.length) (hj : i < az.length), Rp D w l[i] az[i]
  | [], az, _, i, hi, _ => absurd hi (Nat.not_lt_zero _)
  | t :: l, az, h, i, hi, hj => by
    rw [Rps] at h
    obtain ⟨a, az', rfl, h1, h2⟩ := h
    cases i with
    | zero => exact h1
    | succ i => exact Rps.get h2 i (by simpa using hi) (by simpa using hj)
mutual
theorem Rp.imp (hd : ∀ k, k < w.heap.size → D k → D' k) : ∀ {t : T} {a : Value}, Rp D w t a → Rp D' w t a
  | .leaf _ _ _, a, h => by rw [Rp] at h ⊢; exact h
  | .cmp _ l, a, h => by
    rw [Rp] at h ⊢
    obtain ⟨az, h1, h2, h3⟩ := h
    exact ⟨az, h1, fun g hg => hd g ((World.ownsRow.lt h1) g hg).2 (h2 g hg), Rps.imp hd h3⟩
theorem Rps.imp (hd : ∀ k, k < w.heap.size → D k → D' k) : ∀ {l : List T} {az : List Value}, Rps D w l az → Rps D' w l az
  | [], az, h => by rw [Rps] at h ⊢; exact h
  | t :: l, az, h => by
    rw [Rps] at h ⊢
    obtain ⟨a, az', h1, h2, h3⟩ := h
    exact ⟨a, az', h1, Rp.imp hd h2, Rps.imp hd h3⟩
end
end

/-! ### what is kept -/
/-- blocks of the type t lie az they lay -/
def Kt (t : TypeId) (w w' : World) : Prop := ∀ (k : Nat) (cs : Array Value) (fr : Nat × Nat), w.heap[k]? = some (.cells cs t fr) → w'.heap[k]? = some (.cells cs t fr)
theorem own_kept {w w' : World} {t : TypeId} {B z n : Nat} {v : Value} {xs : List Value} (h : w.ownsRow B t z v n xs) (hk : Kt t w w') : w'.ownsRow B t z v n xs := by
  refine ⟨h.1, ?_⟩
  rcases h.2 with hn | ⟨g, cap, cur, h1, h2, h3, h4⟩
  · exact .inl hn
  · exact .inr ⟨g, cap, cur, h1, h2, hk _ _ _ h3, h4⟩
/-- blocks of D of the type t lie as they lay -/
def Kd (D : Nat → Prop) (t : TypeId) (w w' : World) : Prop := ∀ (k : Nat) (cs : Array Value) (fr : Nat × Nat), D k → w.heap[k]? = some (.cells cs t fr) → w'.heap[k]? = some (.cells cs t fr)
theorem Kt.kd {t : TypeId} {w w' : World} (h : Kt t w w') (D : Nat → Prop) : Kd D t w w' := fun k cs fr _ hk => h k cs fr hk
theorem own_keptD {D : Nat → Prop} {w w' : World} {t : TypeId} {B z n : Nat} {v : Value} {xs : List Value} (h : w.ownsRow B t z v n xs) (hd : ∀ g, v.ownBlock = some g → D g) (hk : Kd D t w w') : w'.ownsRow B t z v n xs := by
  refine ⟨h.1, ?_⟩
  rcases h.2 with hn | ⟨g, cap, cur, h1, h2, h3, h4⟩
  · exact .inl hn
  · exact .inr ⟨g, cap, cur, h1, h2, hk _ _ _ (hd g (by rw [h1]; rfl)) h3, h4⟩
mutual
theorem Rp.keptD {D : Nat → Prop} {w w' : World} (hk : Kd D 24 w w') : ∀ {t : T} {a : Value}, Rp D w t a → Rp D w' t a
  | .leaf _ _ _, a, h => by rw [Rp] at h ⊢; exact h
  | .cmp _ l, a, h => by
    rw [Rp] at h ⊢
    obtain ⟨az, h2, h1, h3⟩ := h
    exact ⟨az, own_keptD h2 h1 hk, h1, Rps.keptD hk h3⟩
theorem Rps.keptD {D : Nat → Prop} {w w' : World} (hk : Kd D 24 w w') : ∀ {l : List T} {az : List Value}, Rps D w l az → Rps D w' l az
  | [], az, h => by rw [Rps] at h ⊢; exact h
  | t :: l, az, h => by
    rw [Rps] at h ⊢
    obtain ⟨a, az', h1, h2, h3⟩ := h
    exact ⟨a, az', h1, Rp.keptD hk h2, Rps.keptD hk h3⟩
end
theorem Rp.kept {D : Nat → Prop} {w w' : World} (hk : Kt 24 w w') {t : T} {a : Value} (h : Rp D w t a) : Rp D w' t a := h.keptD (hk.kd D)
theorem Rps.kept {D : Nat → Prop} {w w' : World} (hk : Kt 24 w w') {l : List T} {az : List Value} (h : Rps D w l az) : Rps D w' l az := h.keptD (hk.kd D)
theorem kd_set {D : Nat → Prop} {w : World} {t : TypeId} {p : Addr} (hp : ¬ D p.block) (v : Value) : Kd D t w (w.setCell p v) := fun k cs fr hd hk => by
  rw [Below.heap_setCell _ _ _ _ (fun e => by subst e; exact hp hd)]; exact hk
theorem Rp.set {D : Nat → Prop} {w : World} {t : T} {a : Value} (h : Rp D w t a) {p : Addr} (hp : ¬ D p.block) (v : Value) : Rp D (w.setCell p v) t a := h.keptD (kd_set hp v)
theorem Rps.set {D : Nat → Prop} {w : World} {l : List T} {az : List Value} (h : Rps D w l az) {p : Addr} (hp : ¬ D p.block) (v : Value) : Rps D (w.setCell p v) l az := h.keptD (kd_set hp v)
theorem lt_of {w : World} {k : Nat} {o : Obj} (h : w.heap[k]? = some o) : k < w.heap.size := (Array.getElem?_eq_some_iff.1 h).1
theorem Kt.alloc {t : TypeId} {w w' : World} (h : Kt t w w') (o : Obj) : Kt t w (w'.alloc o) := fun k cs fr hk => by
  have := h k cs fr hk
  rw [Lib.alloc_old w' o k (lt_of this)]; exact this
theorem Kt.refl (t : TypeId) (w : World) : Kt t w w := fun _ _ _ h => h
theorem Kt.trans {t : TypeId} {a b c : World} (h : Kt t a b) (k : Kt t b c) : Kt t a c := fun i cs fr hi => k i cs fr (h i cs fr hi)
theorem Kt.below {t : TypeId} {w w' : World} (h : Below w.heap.size w w') : Kt t w w' := fun k cs fr hk => by
  rw [h.block k (lt_of hk)]; exact hk

/-! ### tokens that may come -/
structure Good (L : List Tok) : Prop where
  len : L.length ≤ 1000
  text : ∀ t ∈ L, t.text.length ≤ 4096
  frm : ∀ t ∈ L, t.frm ≤ 4096
  to : ∀ t ∈ L, t.to ≤ 4096
  digs : ∀ t ∈ L, t.kind = 3 → t.text ≠ []
  kind : ∀ t ∈ L, 1 ≤ t.kind ∧ t.kind ≤ 6

/-! ### the reader -/
/-- what the reader's functions keep: all but the reader itself and the strings from b on -/
structure Fr (r b : Nat) (w w' : World) : Prop where
  os : w'.os = w.os
  tape : w'.tape = w.tape
  output : w'.output = w.output
  size : w.heap.size ≤ w'.heap.size
  block : ∀ k, k < w.heap.size → k ≠ r → (k < b ∨ ∀ cs fr, w.heap[k]? ≠ some (.cells cs 9 fr)) → w'.heap[k]? = w.heap[k]?
section
variable {r b e i : Nat} {tk nv nv' nv'' : Value} {L : List Tok} {nm : List (List UInt8)} {w w' w'' : World}
theorem Fr.refl (r b : Nat) (w : World) : Fr r b w w := ⟨rfl, rfl, rfl, Nat.le_refl _, fun _ _ _ _ => rfl⟩
theorem Fr.trans (h : Fr r b w w') (k : Fr r b w' w'') : Fr r b w w'' :=
  ⟨k.os.trans h.os, k.tape.trans h.tape, k.output.trans h.output, Nat.le_trans h.size k.size,
    fun j hj hr hn => (k.block j (Nat.lt_of_lt_of_le hj h.size) hr (hn.imp id fun hs cs fr e => hs cs fr (by rw [← h.block j hj hr hn]; exact e))).trans (h.block j hj hr hn)⟩
theorem Fr.of_below (h : Below w.heap.size w w') : Fr r b w w' := ⟨h.os, h.tape, h.output, h.size, fun k hk _ _ => h.block k hk⟩
theorem Fr.alloc (h : Fr r b w w') (o : Obj) : Fr r b w (w'.alloc o) := h.trans (Fr.of_below ((Below.refl _ _).alloc (Nat.le_refl _) o))
theorem Fr.drew (h : Fr r b w w') (k : Nat) : Fr r b w (w'.drewN k) := h.trans (Fr.of_below ⟨rfl, rfl, rfl, Nat.le_refl _, fun _ _ => rfl⟩)
theorem Fr.set (h : Fr r b w w') {p : Addr} (hp : p.block = r ∨ w.heap.size ≤ p.block) (v : Value) : Fr r b w (w'.setCell p v) :=
  ⟨h.os, h.tape, h.output, by simpa [World.setCell] using h.size, fun k hk hr hn => (Below.heap_setCell _ _ _ _ (by rcases hp with h1 | h1 <;> omega)).trans (h.block k hk hr hn)⟩
theorem Fr.own {B : Nat} (h : Fr r b w w') (hb : Below B w' w'') (hB : w.heap.size ≤ B) : Fr r b w w'' :=
  ⟨hb.os.trans h.os, hb.tape.trans h.tape, hb.output.trans h.output, Nat.le_trans h.size hb.size, fun k hk hr hn => (hb.block k (by omega)).trans (h.block k hk hr hn)⟩
theorem kt_set {t u : TypeId} {p : Addr} {v : Value} {cs : Array Value} {fr : Nat × Nat} (hp : w.heap[p.block]? = some (.cells cs u fr)) (hn : t ≠ u) : Kt t w (w.setCell p v) := fun k cs' fr' hk => by
  rw [Below.heap_setCell _ _ _ _ (fun e => by subst e; rw [hp] at hk; cases hk; exact hn rfl)]; exact hk
theorem heap_set_at {w : World} {k j : Nat} {v : Value} {cs : Array Value} {t : TypeId} (h : w.heap[k]? = some (.cells cs t (0, 0))) : (w.setCell ⟨k, j, none⟩ v).heap[k]? = some (.cells (cs.setIfInBounds j v) t (0, 0)) := by
  simp [World.setCell, Array.getElem?_modify, h]
end
/-- the token at place i, behind the last one none -/
def tokAt (L : List Tok) (e i : Nat) : Tok := L.getD i ⟨0, [], e, e⟩
theorem nx_tok (L : List Tok) (e i : Nat) : (nx ((ab L).drop i)).kind = (tokAt L e i).kind ∧ (nx ((ab L).drop i)).text = (tokAt L e i).text := by
  induction L generalizing i with
  | nil => simp [ab, nx, tokAt, K0]
  | cons a L ih =>
    cases i with
    | zero => cases L <;> simp [ab, nx, tokAt]
    | succ i =>
      have h1 : (ab (a :: L)).drop (i + 1) = (ab L).drop i := by cases L <;> simp [ab]
      rw [h1]; simpa [tokAt] using ih i
theorem ab_len (L : List Tok) : (ab L).length = L.length := by
  induction L with
  | nil => rfl
  | cons a L ih => cases L <;> simp_all [ab]
theorem nx_near (L : List Tok) (e i : Nat) (hi : i + 1 < L.length) : (nx ((ab L).drop i)).near = nearB (tokAt L e i) (tokAt L e (i + 1)) := by
  induction L generalizing i with
  | nil => simp at hi
  | cons a L ih =>
    cases i with
    | zero =>
      cases L with
      | nil => simp at hi
      | cons b L => simp [ab, nx, tokAt]
    | succ i =>
      have h1 : (ab (a :: L)).drop (i + 1) = (ab L).drop i := by cases L <;> simp [ab]
      rw [h1]; simpa [tokAt] using ih i (by simpa using hi)
theorem nx_nil (L : List Tok) (i : Nat) (h : L.length ≤ i) : nx ((ab L).drop i) = K0 := by
  rw [List.drop_eq_nil_of_le (by rw [ab_len]; exact h)]; rfl
theorem lt_of_kind {L : List Tok} {e i : Nat} (h : (tokAt L e i).kind ≠ 0) : i < L.length := by
  rcases Nat.lt_or_ge i L.length with h1 | h1
  · exact h1
  · exfalso; apply h; simp [tokAt, List.getElem?_eq_none h1]

/-! ### what the functions give -/
end Go.Proofs.Ytpihmockcjdafaa.rd
end
section
/- The program's reader: next, here, isMark, passes, expect. -/
namespace Go.Proofs.Ytpihmockcjdafaa.rd
open Go.RowKit
open Go.Proofs.Ytpihmockcjdafaa.op (bs strC Both Tb)
open Go.Proofs.Ytpihmockcjdafaa.lx (Tok Tk tcell tcells cell_at)
set_option maxRecDepth 20000

theorem term_info : (Try.prog.info? 24).map (·.size) = some 4 := by kernel_rfl
theorem tok_info : (Try.prog.info? 48).map (·.size) = some 4 := by kernel_rfl
theorem set4 {W : World} {g : Nat} {t : TypeId} {a0 a1 a2 a3 : Value} (h : W.heap[g]? = some (.cells #[a0, a1, a2, a3] t (0, 0))) (a b c d : Value) :
    ((((W.setCell ⟨g, 0, none⟩ a).setCell ⟨g, 1, none⟩ b).setCell ⟨g, 2, none⟩ c).setCell ⟨g, 3, none⟩ d).heap[g]? = some (.cells #[a, b, c, d] t (0, 0)) :=
  heap_set_at (heap_set_at (heap_set_at (heap_set_at h)))
theorem cells4 {W : World} {g : Nat} {t : TypeId} {a b c d : Value} (h : W.heap[g]? = some (.cells #[a, b, c, d] t (0, 0))) :
    W.cell? ⟨g, 0, none⟩ = some a ∧ W.cell? ⟨g, 1, none⟩ = some b ∧ W.cell? ⟨g, 2, none⟩ = some c ∧ W.cell? ⟨g, 3, none⟩ = some d ∧ ∀ j, W.frozen? ⟨g, j, none⟩ = false :=
  ⟨by rw [cell_at h]; rfl, by rw [cell_at h]; rfl, by rw [cell_at h]; rfl, by rw [cell_at h]; rfl, fun j => by simp [World.frozen?, h]⟩
theorem ret_tok {fn : Func} {p : Tmp} (h : fn.results = #[.cell p 48]) (tmps : Array Value) (w : World) {g : Nat} {a b c d : Value} (hp : tmps.getD p undef = .pointer (some ⟨g, 0, none⟩)) (hg : w.heap[g]? = some (.cells #[a, b, c, d] 48 (0, 0))) :
    (results fn tmps).run Try.prog w = .ok (.agg #[a, b, c, d]) w := results_cell_row h tmps w g _ _ _ _ hp hg Try.underlying48 rfl tok_info
theorem ret_term {fn : Func} {p : Tmp} (h : fn.results = #[.cell p 24]) (tmps : Array Value) (w : World) {g : Nat} {a b c d : Value} (hp : tmps.getD p undef = .pointer (some ⟨g, 0, none⟩)) (hg : w.heap[g]? = some (.cells #[a, b, c, d] 24 (0, 0))) :
    (results fn tmps).run Try.prog w = .ok (.agg #[a, b, c, d]) w := results_cell_row h tmps w g _ _ _ _ hp hg Try.underlying24 rfl term_info
theorem field_k (a b c d : Value) (w : World) : (Instr.field 48 (.agg #[a, b, c, d]) 0).run Try.prog w = .ok a w := by kernel_rfl
theorem field_x (a b c d : Value) (w : World) : (Instr.field 48 (.agg #[a, b, c, d]) 1).run Try.prog w = .ok b w := by kernel_rfl
theorem field_f (a b c d : Value) (w : World) : (Instr.field 48 (.agg #[a, b, c, d]) 2).run Try.prog w = .ok c w := by kernel_rfl

def tokV (t : Tok) : Value := .agg #[.int .i64 (t.kind : Nat), .string (bs t.text), .int .i64 (t.frm : Nat), .int .i64 (t.to : Nat)]
theorem below4 {B g : Nat} {w W : World} (h : Below B w W) (hg : B ≤ g) (a b c d : Value) : Below B w ((((W.setCell ⟨g, 0, none⟩ a).setCell ⟨g, 1, none⟩ b).setCell ⟨g, 2, none⟩ c).setCell ⟨g, 3, none⟩ d) :=
  (((h.setCell (p := ⟨g, 0, none⟩) hg _).setCell (p := ⟨g, 1, none⟩) hg _).setCell (p := ⟨g, 2, none⟩) hg _).setCell (p := ⟨g, 3, none⟩) hg _
theorem below_drawn (B : Nat) (w : World) (k : Nat) : Below B w (w.drewN k) := ⟨rfl, rfl, rfl, Nat.le_refl _, fun _ _ => rfl⟩
end Go.Proofs.Ytpihmockcjdafaa.rd
end
section
/- The program's reader: expect, atom, compound, infix, mayBegin. -/
namespace Go.Proofs.Ytpihmockcjdafaa.rd
open Go.RowKit
open Go.Proofs.Ytpihmockcjdafaa.op (bs strC Both Tb progI progP tupI)
open Go.Proofs.Ytpihmockcjdafaa.lx (Tok Tk tcell tcells cell_at ieq_yes ieq_no)
set_option maxRecDepth 20000

theorem both_low {w w' : World} (_ : Both w) (_ : Below 0 w w') : Both w' := trivial
end Go.Proofs.Ytpihmockcjdafaa.rd
end
section
/- The program's reader: integer, variable. -/
namespace Go.Proofs.Ytpihmockcjdafaa.rd
open Go.RowKit
open Go.Proofs.Ytpihmockcjdafaa.op (bs strC Both Tb progI progP tupI)
open Go.Proofs.Ytpihmockcjdafaa.lx (Tok Tk tcell tcells cell_at ieq_yes ieq_no)
open Go.Proofs.Ytpihmockcjdafaa.tx (parseV parseE)
set_option maxRecDepth 20000

theorem trim_eq (l : List UInt8) : Lib.trimLeftB l 48 = trim l := rfl
theorem tokAt_text {L : List Tok} {e i : Nat} (h : Good L) : (tokAt L e i).text.length ≤ 4096 := by
  unfold tokAt
  rcases Nat.lt_or_ge i L.length with h1 | h1
  · simp [h1]; exact h.text _ (List.getElem_mem h1)
  · simp [List.getElem?_eq_none h1]
theorem trim_len (l : List UInt8) : (trim l).length ≤ l.length := (List.dropWhile_suffix _).length_le
/-- one token on, as the list of what is left -/
theorem tail_drop (l : List K) (i : Nat) : (l.drop i).tail = l.drop (i + 1) := by rw [List.tail_drop]
theorem bs_empty : bs [] = ⟨#[]⟩ := rfl
theorem bs_append (a b : List UInt8) : bs a ++ bs b = bs (a ++ b) := by unfold bs; apply ByteArray.ext; simp
theorem bs_isEmpty (d : List UInt8) : (bs d).toList.isEmpty = d.isEmpty := by
  rw [ByteArray.toList_eq]; rfl
/-- where the name stands among the names, or -1 -/
def idxV (nm : List (List UInt8)) (name : List UInt8) : Int := if nm.idxOf name = nm.length then -1 else ((nm.idxOf name : Nat) : Int)
theorem idx_eq (nm : List (List UInt8)) (name : List UInt8) : Lib.idxOfS ((nm.map bs).take nm.length) (bs name) = idxV nm name := by
  unfold idxV
  have hg : ∀ j, j < nm.length → (nm.map bs).getD j ByteArray.empty = bs (nm.getD j []) := fun j hj => by simp [hj]
  by_cases h : nm.idxOf name = nm.length
  · rw [if_pos h]
    refine Lib.idxOfS_miss _ _ _ fun j hj e => ?_
    rw [hg j hj, op.bs_inj] at e
    have hm : name ∈ nm := by rw [← e]; simp [hj]
    exact absurd h (by have := List.idxOf_lt_length_iff.2 hm; omega)
  · rw [if_neg h]
    have hle : nm.idxOf name ≤ nm.length := List.idxOf_le_length
    have hk : nm.idxOf name < nm.length := by omega
    refine Lib.idxOfS_hit _ _ _ _ hk (by simp) ?_ fun j hj e => ?_
    · rw [hg _ hk, op.bs_inj]; simp [hk]
    · rw [hg j (by omega), op.bs_inj] at e
      have h1 := List.not_of_lt_findIdx (xs := nm) (p := (· == name)) (i := j) hj
      simp at h1
      exact h1 (by simpa [show j < nm.length by omega] using e)
/-- one name more -/
theorem wpList_name {ops : Array Oper} {rest : List Oper} {o : Oper} {a : Act} {Q : Exit → Act → World → Prop} (hgd : o.guard = none) (s x : Operand)
    (ho : o.op = .call { callee := .builtin .append, args := #[s, x], argTypes := #[27, 27] })
    (B : Nat) (w : World) (v : Value) (z : List (List UInt8)) (t : List UInt8) (hs : a.eval s = v) (hown : w.ownsRow B 9 1 v z.length (strC (z.map bs)))
    (hx : a.eval x = .slice (some ⟨w.heap.size, 0, none⟩) 1 1) (hlen : z.length ≤ 100000) (hB : B ≤ w.heap.size)
    (h : ∀ g' cap' w', w'.ownsRow B 9 1 (.slice (some ⟨g', 0, none⟩) (z.length + 1) cap') (z ++ [t]).length (strC ((z ++ [t]).map bs)) → (w.alloc (.cells #[.string (bs t)] 9)).grownBy w' v.ownBlock →
      wpList Try.prog ops Q rest (a.put o.dst (.slice (some ⟨g', 0, none⟩) (z.length + 1) cap')) w') :
    wpList Try.prog ops Q (o :: rest) a (w.alloc (.cells #[.string (bs t)] 9)) := by
  obtain ⟨i0, hi, hz0, hz1, hz2⟩ := info_parts op.str_info
  have hb0 : (w.alloc (.cells #[.string (bs t)] 9)).heap[w.heap.size]? = some (.cells #[.string (bs t)] 9 (0, 0)) := heap_alloc_new w _
  refine wpList_append_own _ hgd s x 27 ho B 9 i0 (.string ⟨#[]⟩) 1 16 Try.underlying27 hi hz0 hz1 hz2 rfl (by decide) v z.length (strC (z.map bs)) hs (World.ownsRow.alloc hown _) ⟨w.heap.size, 0, none⟩ 1 1 [.string (bs t)] hx rfl ?_ ?_ ?_ ?_ ?_ ?_
  · intro j u hj
    rw [op.addr_add, cell_at hb0, ← Array.getElem?_toList]; exact hj
  · intro u hu; simp at hu; subst hu; rfl
  · unfold maxLen; omega
  · omega
  · show B ≤ (w.heap.push _).size; simp; omega
  · intro v' w' hown' hgr _
    have e1 : strC (z.map bs) ++ [.string (bs t)] = strC ((z ++ [t]).map bs) := by simp [strC]
    rw [e1] at hown'
    rcases hown'.2 with ⟨_, h2⟩ | ⟨g', cap', cur, h1, h2⟩
    · omega
    · subst h1
      refine h g' cap' w' ?_ hgr
      rw [List.length_append]; exact hown'
end Go.Proofs.Ytpihmockcjdafaa.rd
end
section
/- The program's reader: variable. -/
namespace Go.Proofs.Ytpihmockcjdafaa.rd
open Go.RowKit
open Go.Proofs.Ytpihmockcjdafaa.op (bs strC Both Tb progI progP tupI)
open Go.Proofs.Ytpihmockcjdafaa.lx (Tok Tk tcell tcells cell_at ieq_yes ieq_no)
set_option maxRecDepth 20000

theorem idxOf_le (nm : List (List UInt8)) (n : List UInt8) : nm.idxOf n ≤ nm.length := List.idxOf_le_length
theorem name_beq (n : List UInt8) : ((bs n).toList == [95]) = decide (n = [95]) := by
  rw [ByteArray.toList_eq]
  show (n == [95]) = _
  by_cases h : n = [95] <;> simp [h]
end Go.Proofs.Ytpihmockcjdafaa.rd
end
section
/- The program's reader: bracketed, row. -/
namespace Go.Proofs.Ytpihmockcjdafaa.rd
open Go.RowKit
open Go.Proofs.Ytpihmockcjdafaa.op (bs strC Both Tb progI progP tupI)
open Go.Proofs.Ytpihmockcjdafaa.lx (Tok Tk tcell tcells cell_at ieq_yes ieq_no)
set_option maxRecDepth 20000

theorem term_info3 : (Try.prog.info? 24).map (fun i => (i.zero, i.size, i.bytes)) = some (some (.agg #[.int .i64 0, .int .i64 0, .string ⟨#[]⟩, .slice none 0 0]), 4, 56) := by kernel_rfl
/-- a row of terms that may grow: its block g, and terms that lie in others -/
def Rw (D : Nat → Prop) (w : World) (g cap : Nat) (l : List T) : Prop :=
  ∃ az : List Value, w.ownsRow 0 24 4 (.slice (some ⟨g, 0, none⟩) l.length cap) l.length (tvs (l.zip az)) ∧ D g ∧ Rps (fun k => D k ∧ k ≠ g) w l az
theorem Rw.kept {D : Nat → Prop} {w w' : World} {g cap : Nat} {l : List T} (h : Rw D w g cap l) (hk : Kt 24 w w') : Rw D w' g cap l := by
  obtain ⟨az, h1, h2, h3⟩ := h
  exact ⟨az, own_kept h1 hk, h2, h3.kept hk⟩
theorem Rw.lt {D : Nat → Prop} {w : World} {g cap : Nat} {l : List T} (h : Rw D w g cap l) : g < w.heap.size := by
  obtain ⟨az, h1, _⟩ := h
  exact ((World.ownsRow.lt h1) g rfl).2
theorem Rw.imp {D D' : Nat → Prop} {w : World} {g cap : Nat} {l : List T} (h : Rw D w g cap l) (hd : ∀ k, k < w.heap.size → D k → D' k) : Rw D' w g cap l := by
  have hg := h.lt
  obtain ⟨az, h1, h2, h3⟩ := h
  exact ⟨az, h1, hd g hg h2, h3.imp fun k hk hh => ⟨hd k hk hh.1, hh.2⟩⟩
theorem Rw.one {D : Nat → Prop} {w : World} {t : T} {a : Value} (h : Rp (fun k => D k) w t a) (hD : D w.heap.size) : Rw D (w.alloc (.cells (tv t a).toArray 24)) w.heap.size 1 [t] := by
  refine ⟨[a], ⟨rfl, .inr ⟨w.heap.size, 1, (tv t a).toArray, rfl, Nat.zero_le _, heap_alloc_new w _, Nat.le_refl _, by unfold maxLen; omega, rfl, ?_⟩⟩, hD, Rps.one ?_⟩
  · simp [tvs, tv]
  · exact Rp.kept (Kt.alloc (Kt.refl _ _) _) (h.imp fun k hk hd => ⟨hd, by omega⟩)
theorem Rw.two {D : Nat → Prop} {w : World} {t u : T} {a c : Value} (h : Rp D w t a) (h2 : Rp D w u c) (hD : D w.heap.size) : Rw D (w.alloc (.cells (tv t a ++ tv u c).toArray 24)) w.heap.size 2 [t, u] := by
  refine ⟨[a, c], ⟨rfl, .inr ⟨w.heap.size, 2, (tv t a ++ tv u c).toArray, rfl, Nat.zero_le _, heap_alloc_new w _, Nat.le_refl _, by unfold maxLen; omega, rfl, ?_⟩⟩, hD, Rps.two ?_ ?_⟩
  · simp [tvs, tv]
  · exact Rp.kept (Kt.alloc (Kt.refl _ _) _) (h.imp fun k hk hd => ⟨hd, by omega⟩)
  · exact Rp.kept (Kt.alloc (Kt.refl _ _) _) (h2.imp fun k hk hd => ⟨hd, by omega⟩)
theorem Rw.block {D : Nat → Prop} {w : World} {g cap : Nat} {l : List T} (h : Rw D w g cap l) : D g ∧ ∃ cs, w.heap[g]? = some (.cells cs 24 (0, 0)) := by
  obtain ⟨az, h1, h2, _⟩ := h
  rcases h1.2 with ⟨h3, _⟩ | ⟨g', cap', cur, h3, _, h4, _⟩
  · cases h3
  · cases h3; exact ⟨h2, cur, h4⟩
/-- behind an append to a row of terms all else lies as it lay -/
theorem grown_kt {w w4 : World} {o : Obj} {g : Nat} {cs : Array Value} {t u : TypeId} (hg : w.heap[g]? = some (.cells cs u (0, 0))) (h : (w.alloc o).grownBy w4 (some g)) (hn : t ≠ u) : Kt t w w4 := fun k ds fr hk => by
  rw [h.block k (by have := lt_of hk; simp; omega) (fun e => by cases e; rw [hg] at hk; cases hk; exact hn rfl), Lib.alloc_old w _ k (lt_of hk)]; exact hk
theorem grown_below {w w4 : World} {o : Obj} {g B : Nat} (h : (w.alloc o).grownBy w4 (some g)) (hB : B ≤ g) (hw : B ≤ w.heap.size) : Below B w w4 :=
  ⟨h.os, h.tape, h.output, Nat.le_trans (by simp) h.size, fun k hk => by rw [h.block k (by simp; omega) (fun e => by cases e; omega), Lib.alloc_old w _ k (by omega)]⟩
/-- a row as the parts of a term -/
theorem Rw.cmp {D : Nat → Prop} {w : World} {g cap : Nat} {l : List T} (h : Rw D w g cap l) (s : List UInt8) : Rp D w (.cmp s l) (.slice (some ⟨g, 0, none⟩) l.length cap) := by
  obtain ⟨az, h1, h2, h3⟩ := h
  rw [Rp]
  exact ⟨az, h1, fun k hk => by cases hk; exact h2, h3.imp fun k _ hk => hk.1⟩
theorem zip_snoc {α β : Type} (l : List α) (m : List β) (a : α) (c : β) (h : m.length = l.length) : (l ++ [a]).zip (m ++ [c]) = l.zip m ++ [(a, c)] := by
  rw [List.zip_append h.symm]; rfl
/-- one term more -/
theorem wpList_term {ops : Array Oper} {rest : List Oper} {o : Oper} {A : Act} {Q : Exit → Act → World → Prop} (hgd : o.guard = none) (s x : Operand)
    (ho : o.op = .call { callee := .builtin .append, args := #[s, x], argTypes := #[22, 22] })
    (D : Nat → Prop) (w : World) (g cap : Nat) (l : List T) (t : T) (a : Value) (hs : A.eval s = .slice (some ⟨g, 0, none⟩) l.length cap) (hw : Rw D w g cap l) (hT : Rp (fun k => D k ∧ k ≠ g) w t a) (ha : a.oneCell' = true)
    (hD : ∀ k, w.heap.size ≤ k → D k) (hx : A.eval x = .slice (some ⟨w.heap.size, 0, none⟩) 1 1) (hlen : l.length ≤ 100000)
    (h : ∀ g' cap' w', Rw D w' g' cap' (l ++ [t]) → (w.alloc (.cells (tv t a).toArray 24)).grownBy w' (some g) →
      wpList Try.prog ops Q rest (A.put o.dst (.slice (some ⟨g', 0, none⟩) (l.length + 1) cap')) w') :
    wpList Try.prog ops Q (o :: rest) A (w.alloc (.cells (tv t a).toArray 24)) := by
  obtain ⟨i0, hi, hz0, hz1, hz2⟩ := info_parts term_info3
  have hb0 : (w.alloc (.cells (tv t a).toArray 24)).heap[w.heap.size]? = some (.cells (tv t a).toArray 24 (0, 0)) := heap_alloc_new w _
  obtain ⟨az, h1, h2, h3⟩ := hw
  have hg := ((World.ownsRow.lt h1) g rfl).2
  refine wpList_append_lies _ hgd s x 22 ho 0 24 i0 _ 4 56 Try.underlying22 hi hz0 hz1 hz2 rfl (by decide) (.slice (some ⟨g, 0, none⟩) l.length cap) l.length (tvs (l.zip az)) hs (World.ownsRow.alloc h1 _) ⟨w.heap.size, 0, none⟩ 1 1 (tv t a) hx rfl ?_ ?_ (by omega) ?_ ?_ (Nat.zero_le _) _ rfl ?_
  · intro j u hj
    rw [op.addr_add, cell_at hb0, ← Array.getElem?_toList]; exact hj
  · intro u hu; simp [tv] at hu; rcases hu with rfl | rfl | rfl | rfl <;> first | rfl | exact ha
  · unfold maxLen; omega
  · omega
  · intro g' cap' w' hown' hgr hat hlt
    refine h g' cap' w' ?_ hgr
    have e1 : tvs (l.zip az) ++ tv t a = tvs ((l ++ [t]).zip (az ++ [a])) := by rw [zip_snoc _ _ _ _ h3.len, tvs_append]; simp [tvs]
    rw [e1] at hown'
    have hkd : Kd (fun k => D k ∧ k ≠ g ∧ k < w.heap.size) 24 w w' := fun k cs fr hd hk => by
      rw [hgr.block k (by simp; omega) (fun e => hd.2.1 (by cases e; rfl)), Lib.alloc_old w _ k hd.2.2]; exact hk
    have hgg : g' = g ∨ g' = w.heap.size + 1 := by
      rcases hat with e | e
      · left; cases e; rfl
      · right; rw [e]; simp
    refine ⟨az ++ [a], by rw [List.length_append]; exact hown', ?_, ?_⟩
    · rcases hgg with rfl | rfl
      · exact h2
      · exact hD _ (by omega)
    · refine (Rps.append ((h3.imp (D' := fun k => D k ∧ k ≠ g ∧ k < w.heap.size) fun k hk hd => ⟨hd.1, hd.2, hk⟩).keptD hkd) (Rps.one ((hT.imp (D' := fun k => D k ∧ k ≠ g ∧ k < w.heap.size) fun k hk hd => ⟨hd.1, hd.2, hk⟩).keptD hkd))).imp fun k _ hd => ⟨hd.1, ?_⟩
      rcases hgg with rfl | rfl
      · exact hd.2.1
      · have := hd.2.2; omega
theorem Rp.shape {D : Nat → Prop} {w : World} {t : T} {a : Value} (h : Rp D w t a) : ∃ p n c, a = .slice p n c := by
  cases t with
  | leaf k n s => rw [Rp] at h; exact ⟨_, _, _, h⟩
  | cmp s l =>
    rw [Rp] at h
    obtain ⟨az, h1, _⟩ := h
    rcases h1.2 with ⟨h1, h2⟩ | ⟨g', cap, cur, h1, _⟩ <;> exact ⟨_, _, _, h1⟩
theorem rowGo_no (x : W) (f : Nat) (l : List T) (s : St) (h : isM (nx s.1) [44] = false) : rowGo x f l s = .ok (l, s) := by
  cases f with
  | zero => rfl
  | succ f => rw [rowGo, h]; rfl
theorem rowGo_err (x : W) (f : Nat) (l : List T) (s : St) {k : Nat} (h : isM (nx s.1) [44] = true) (hx : x 999 (s.1.tail, s.2) = .error k) : rowGo x (f + 1) l s = .error k := by
  rw [rowGo, if_pos h, hx]
theorem rowGo_yes (x : W) (f : Nat) (l : List T) (s : St) {t : T} {s' : St} (h : isM (nx s.1) [44] = true) (hx : x 999 (s.1.tail, s.2) = .ok (t, s')) : rowGo x (f + 1) l s = rowGo x f (l ++ [t]) s' := by
  rw [rowGo, if_pos h, hx]
theorem isM_lt {L : List Tok} {i : Nat} {m : List UInt8} (h : isM (nx ((ab L).drop i)) m = true) : i < L.length := by
  rcases Nat.lt_or_ge i L.length with h1 | h1
  · exact h1
  · rw [nx_nil L i h1] at h; simp [isM, K0] at h

theorem size_alloc (w : World) (o : Obj) : (w.alloc o).heap.size = w.heap.size + 1 := by simp
end Go.Proofs.Ytpihmockcjdafaa.rd
end
section
/- slices.Backward over a row of terms: what its closure yields, from the last one to the first. -/
namespace Go.Proofs.Ytpihmockcjdafaa.rd
open Go.RowKit Go.Shelf
open Go.Proofs.Ytpihmockcjdafaa.op (bs)
open Go.Proofs.Ytpihmockcjdafaa.lx (cell_at)
set_option maxRecDepth 20000
attribute [local go_sem] Oper.semAt_some

/-- an element's place -/
abbrev Ix (N : Nat) := { i : Nat // i < N }
/-- the last k places, the last one first -/
def dn (N k : Nat) (h : k ≤ N) : List (Ix N) := (List.range k).attach.map fun j => ⟨N - 1 - j.1, by have := List.mem_range.1 j.2; omega⟩
theorem dn_len (N k : Nat) (h : k ≤ N) : (dn N k h).length = k := by simp [dn]
theorem dn_succ (N k : Nat) (h : k + 1 ≤ N) : dn N (k + 1) h = dn N k (by omega) ++ [⟨N - 1 - k, by omega⟩] := by
  apply List.ext_getElem
  · simp [dn]
  · intro i h1 h2
    rw [dn_len] at h1
    rcases Nat.lt_or_ge i k with h3 | h3
    · rw [List.getElem_append_left (by rw [dn_len]; exact h3)]; simp [dn]
    · obtain rfl : i = k := by omega
      rw [List.getElem_append_right (by rw [dn_len]; exact Nat.le_refl _)]; simp [dn]
/-- what is yielded at a place -/
def encT (l : List T) (az : List Value) (i : Nat) : Array Value := #[.int .i64 (i : Nat), .agg #[.int .i64 ((l.getD i (.leaf 0 0 [])).k : Nat), .int .i64 (l.getD i (.leaf 0 0 [])).n, .string (bs (l.getD i (.leaf 0 0 [])).s), az.getD i undef]]
/-- the cells of a row of terms -/
def RowC (W : World) (g : Nat) (l : List T) (az : List Value) : Prop := ∀ i, i < l.length → W.cell? ⟨g, i * 4, none⟩ = some (.int .i64 ((l.getD i (.leaf 0 0 [])).k : Nat)) ∧ W.cell? ⟨g, i * 4 + 1, none⟩ = some (.int .i64 (l.getD i (.leaf 0 0 [])).n) ∧
  W.cell? ⟨g, i * 4 + 2, none⟩ = some (.string (bs (l.getD i (.leaf 0 0 [])).s)) ∧ W.cell? ⟨g, i * 4 + 3, none⟩ = some (az.getD i undef)
/-- the row's block and the box of the slice lie as they lay -/
def Kb (g Bs : Nat) (A B : World) : Prop := B.heap[g]? = A.heap[g]? ∧ B.heap[Bs]? = A.heap[Bs]?
theorem Kb.refl (g Bs : Nat) (A : World) : Kb g Bs A A := ⟨rfl, rfl⟩
theorem Kb.trans {g Bs : Nat} {A B C : World} (h : Kb g Bs A B) (k : Kb g Bs B C) : Kb g Bs A C := ⟨k.1.trans h.1, k.2.trans h.2⟩
theorem RowC.kb {g Bs : Nat} {A B : World} {l : List T} {az : List Value} (h : RowC A g l az) (hb : Kb g Bs A B) : RowC B g l az := fun i hi => by
  have e : ∀ j, B.cell? ⟨g, j, none⟩ = A.cell? ⟨g, j, none⟩ := fun j => World.cell?_of_block hb.1
  rw [e, e, e, e]; exact h i hi
end Go.Proofs.Ytpihmockcjdafaa.rd
end
section
/- A term in a cell of the function's own beside its result's cell: what a loop of the reader's carries. -/
namespace Go.Proofs.Ytpihmockcjdafaa.rd
open Go.RowKit
open Go.Proofs.Ytpihmockcjdafaa.op (bs)
open Go.Proofs.Ytpihmockcjdafaa.lx (Tok cell_at)
set_option maxRecDepth 20000

end Go.Proofs.Ytpihmockcjdafaa.rd
end
section
/- What the rounds over a row of terms carry, where each puts one more ahead of the rest. -/
namespace Go.Proofs.Ytpihmockcjdafaa.rd
open Go.RowKit Go.Shelf
open Go.Proofs.Ytpihmockcjdafaa.op (bs)
open Go.Proofs.Ytpihmockcjdafaa.lx (Tok cell_at)
set_option maxRecDepth 20000

abbrev dfT : T := .leaf 0 0 []
/-- the rest, the terms at these places put ahead of it -/
def Rf (l : List T) (rt : T) (pre : List (Ix l.length)) : T := pre.foldl (fun r x => .cmp [46] [l.getD x.1 dfT, r]) rt
theorem Rf_snoc (l : List T) (rt : T) (pre : List (Ix l.length)) (x : Ix l.length) : Rf l rt (pre ++ [x]) = .cmp [46] [l.getD x.1 dfT, Rf l rt pre] := by simp [Rf]
theorem Rf_dn (l : List T) (rt : T) : ∀ k (h : k ≤ l.length), Rf l rt (dn l.length k h) = consAll (l.drop (l.length - k)) rt
  | 0, h => by rw [Nat.sub_zero, List.drop_length]; rfl
  | k + 1, h => by
    rw [dn_succ, Rf_snoc, Rf_dn l rt k (by omega)]
    have h1 : l.drop (l.length - (k + 1)) = l[l.length - 1 - k]'(by omega) :: l.drop (l.length - k) := by
      rw [show l.length - (k + 1) = l.length - 1 - k by omega, List.drop_eq_getElem_cons (by omega), show l.length - 1 - k + 1 = l.length - k by omega]
    rw [h1]
    simp only [consAll, List.foldr_cons]
    congr 2
    simp [show l.length - 1 - k < l.length by omega]
theorem Rf_all (l : List T) (rt : T) : Rf l rt (dn l.length l.length (Nat.le_refl _)) = consAll l rt := by rw [Rf_dn]; simp
section
variable {r b cb cd B0 B5 g Bs d e j : Nat} {tk nv : Value} {L : List Tok} {nm : List (List UInt8)} {l : List T} {az : List Value} {w W0 W W' : World} {t : T} {a : Value}
theorem keeps_below (hb : Below W.heap.size W W') : KeepsOthers W W' :=
  KeepsOthers.of_grownBy (row := none) ⟨hb.os, hb.tape, hb.output, hb.size, fun k hk _ => hb.block k hk⟩ (fun j o e => by cases e)
end
/-- the cells of a row of terms -/
theorem Rw.cellsC {D : Nat → Prop} {w : World} {g cap : Nat} {l : List T} (h : Rw D w g cap l) : ∃ az : List Value, RowC w g l az ∧ (∀ i, i < l.length → Rp (fun k => D k ∧ k ≠ g) w (l.getD i dfT) (az.getD i undef)) ∧ D g ∧ g < w.heap.size := by
  have hlt := h.lt
  obtain ⟨az, h1, h2, h3⟩ := h
  have hl := h3.len
  have hc := World.ownsRow.cells h1 (g := g) rfl
  refine ⟨az, fun i hi => ?_, fun i hi => ?_, h2, hlt⟩
  · have key : ∀ m u, m < 4 → (tv l[i] (az[i]'(by omega)))[m]? = some u → w.cell? ⟨g, i * 4 + m, none⟩ = some u := fun m u hm hu => by
      have h4 := tvs_get (l.zip az) i m (by simp; omega) hm
      rw [List.getElem_zip] at h4
      have := hc (i * 4 + m) u (by rw [h4]; exact hu)
      rwa [op.addr_add] at this
    have e1 : l.getD i dfT = l[i] := by simp [hi]
    have e2 : az.getD i undef = az[i]'(by omega) := by simp [show i < az.length by omega]
    rw [show (T.leaf 0 0 []) = dfT from rfl, e1, e2]
    exact ⟨key 0 _ (by omega) rfl, key 1 _ (by omega) rfl, key 2 _ (by omega) rfl, key 3 _ (by omega) rfl⟩
  · have := h3.get i hi (by omega)
    have e1 : l.getD i dfT = l[i] := by simp [hi]
    have e2 : az.getD i undef = az[i]'(by omega) := by simp [show i < az.length by omega]
    rw [e1, e2]; exact this
end Go.Proofs.Ytpihmockcjdafaa.rd
end
section
/- The program's reader: list. -/
namespace Go.Proofs.Ytpihmockcjdafaa.rd
open Go.RowKit Go.Shelf
open Go.Proofs.Ytpihmockcjdafaa.op (bs strC Both Tb)
open Go.Proofs.Ytpihmockcjdafaa.lx (cell_at)
set_option maxRecDepth 20000
attribute [local go_sem] Oper.semAt_some

/-- a function whose body holds a range over a function: its body may be walked as any other, but for the post -/
theorem calls_marks {P : Program} {f : FuncId} {fn : Func} {c : Code} {args : Array Value} {w : World} {R : Ending → World → Prop} (hf : P.funcs[f]? = some fn) (hb : fn.body = some c)
    (h : c.wp P (bodyPostM Fence.wide 3 P fn R) { tmps := args ++ Array.replicate (fn.ntmps - args.size) undef, defers := [] } w) : Calls P f args w R :=
  callsIn_wide.1 (callsIn_of_wp_marks hf hb trivial (wpIn_wide.2 h) rfl)
theorem postM {P : Program} {fn : Func} {R : Ending → World → Prop} {tmps : Array Value} {w : World} {e : Exit} (h : bodyPost P fn R e { tmps := tmps, defers := [] } w) : bodyPostM Fence.wide 3 P fn R e { tmps := tmps, defers := [] } w := by
  cases e with
  | normal => exact h.2
  | ret => exact h.2
  | panic c => exact h.2
  | outgrown => exact h
  | exit id => exact h
  | goto l => exact h
theorem Rw.keptD {D : Nat → Prop} {w w' : World} {g cap : Nat} {l : List T} (h : Rw D w g cap l) (hk : Kd D 24 w w') : Rw D w' g cap l := by
  obtain ⟨az, h1, h2, h3⟩ := h
  exact ⟨az, own_keptD h1 (fun g' e => by cases e; exact h2) hk, h2, h3.keptD fun k cs fr hd hk' => hk k cs fr hd.1 hk'⟩
theorem listP_eq (x : W) (L : List lx.Tok) (i : Nat) (nm : List (List UInt8)) : listP x ((ab L).drop i, nm) =
    if isM (nx ((ab L).drop i)) [93] = true then .ok (nilT, ((ab L).drop (i + 1), nm)) else
      match rowP x ((ab L).drop i, nm) with
      | .error k => .error k
      | .ok (l, s1) =>
        match (if isM (nx s1.1) [124] = true then x 999 (s1.1.tail, s1.2) else .ok (nilT, s1) : Res T) with
        | .error k => .error k
        | .ok (r, s2) => if isM (nx s2.1) [93] = true then .ok (consAll l r, (s2.1.tail, s2.2)) else .error 50 := by
  unfold listP
  simp only [tail_drop]
  split
  · rfl
  · rcases rowP x ((ab L).drop i, nm) with k | ⟨l, s1⟩
    · rfl
    · dsimp only
      rcases (if isM (nx s1.1) [124] = true then x 999 (s1.1.tail, s1.2) else .ok (nilT, s1) : Res T) with k | ⟨r, s2⟩
      · rfl
      · dsimp only
        unfold expectP
        cases isM (nx s2.1) [93] <;> rfl
end Go.Proofs.Ytpihmockcjdafaa.rd
end
section
/- The program's reader: marked. -/
namespace Go.Proofs.Ytpihmockcjdafaa.rd
open Go.RowKit
open Go.Proofs.Ytpihmockcjdafaa.op (bs strC Both Tb progI progP tupI)
open Go.Proofs.Ytpihmockcjdafaa.lx (Tok Tk tcell tcells cell_at ieq_yes ieq_no)
set_option maxRecDepth 20000

end Go.Proofs.Ytpihmockcjdafaa.rd
end
