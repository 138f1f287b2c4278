/- Texts of integers: num's Print. -/
import Derived.Test.YtpfkcllincfpkaaNumText
namespace Go.Proofs.Ytpfkcllincfpkaa.tx
open Go.RowKit Go.Proofs.Ytpfkcllincfpkaa.nm

theorem mag_neg {a : Int} (h : a < 0) (h2 : -9223372036854775808 ≤ a) : Ending.returned (.int .u64 (IntKind.u64.wrap (-IntKind.u64.wrap a))) = .returned (.int .u64 (a.natAbs : Nat)) := by
  rw [IntKind.wrap_u64, IntKind.wrap_u64]; congr 2; omega
theorem mag_pos {a : Int} (h : ¬ a < 0) : Ending.returned (.int .u64 a) = .returned (.int .u64 (a.natAbs : Nat)) := by
  congr 2; omega

/-- the digits that stand in the room, from place f on -/
structure Room (w : World) (B f : Nat) (r : List UInt8) (cur : Array Value) : Prop where
  block : w.heap[B]? = some (.cells cur 46 (0, 0))
  size : cur.size = 20
  get : ∀ i (h : i < r.length), cur[f + i]? = some (.int .u8 (r[i].toNat : Nat))
theorem Room.cell {w : World} {B f : Nat} {r : List UInt8} {cur : Array Value} (h : Room w B f r cur) (k : Nat) (hk : k < 20) : ∃ v, w.cell? ⟨B, k, none⟩ = some v := by
  rw [cell_of_row w B k cur _ _ h.block]
  exact ⟨cur[k]'(by rw [h.size]; exact hk), by simp [h.size, hk]⟩
theorem Room.free {w : World} {B f : Nat} {r : List UInt8} {cur : Array Value} (h : Room w B f r cur) (k : Nat) : w.frozen? ⟨B, k, none⟩ = false := frozen_of_row w B k cur _ h.block
theorem Room.store {w : World} {B k : Nat} {r : List UInt8} {cur : Array Value} (h : Room w B (k + 1) r cur) (hk : k < 20) (c : UInt8) {e : Int} (he : e = (c.toNat : Nat)) :
    Room (w.setCell ⟨B, k, none⟩ (.int .u8 e)) B k (c :: r) (cur.setIfInBounds k (.int .u8 e)) := by
  subst he
  refine ⟨heap_setCell_same w B k cur _ _ h.block, by simpa using h.size, fun i hi => ?_⟩
  cases i with
  | zero => simp [h.size, hk]
  | succ i =>
    have := h.get i (by simpa using hi)
    rw [Array.getElem?_setIfInBounds_ne (by omega), show k + (i + 1) = k + 1 + i from by omega, this]
    rfl
theorem room_start (w : World) : Room (w.alloc (.cells #[.int .u8 0, .int .u8 0, .int .u8 0, .int .u8 0, .int .u8 0, .int .u8 0, .int .u8 0, .int .u8 0, .int .u8 0, .int .u8 0, .int .u8 0, .int .u8 0, .int .u8 0, .int .u8 0, .int .u8 0, .int .u8 0, .int .u8 0, .int .u8 0, .int .u8 0, .int .u8 0] 46)) w.heap.size 20 [] #[.int .u8 0, .int .u8 0, .int .u8 0, .int .u8 0, .int .u8 0, .int .u8 0, .int .u8 0, .int .u8 0, .int .u8 0, .int .u8 0, .int .u8 0, .int .u8 0, .int .u8 0, .int .u8 0, .int .u8 0, .int .u8 0, .int .u8 0, .int .u8 0, .int .u8 0, .int .u8 0] :=
  ⟨heap_alloc_new _ _, rfl, fun _ hi => absurd hi (Nat.not_lt_zero _)⟩
theorem Room.conv {w : World} {B f : Nat} {r : List UInt8} {cur : Array Value} (h : Room w B f r cur) (hf : 20 - f = r.length) :
    (convert 49 9 (.slice (some ⟨B, f, none⟩) (20 - f) (20 - f))).run Try.prog w = .ok (.string (str r)) w := by
  have := run_convert_bytes_arg (P := Try.prog) w 49 5 Try.underlying49 Try.underlying5 B f (20 - f) (20 - f) (r.map fun c => (c.toNat : Int)) (by simp [hf]) (fun i hi => by
    rw [cell_of_row w B (f + i) cur _ _ h.block, h.get i (by omega)]
    simp [show i < r.length by omega]) 9 Try.underlying9
  rw [this]
  congr 2
  unfold strOfNums str
  simp only [List.map_map]
  rw [show ((fun n : Int => UInt8.ofNat n.toNat) ∘ fun c : UInt8 => (c.toNat : Int)) = id from funext fun c => by simp, List.map_id]
theorem slice_room (B q : Nat) (hq : q < 20) (w : World) :
    (Instr.sliceAt 46 (.pointer (some ⟨B, 0, none⟩)) (some (.int .i64 (q : Int))) none none).run Try.prog w = .ok (.slice (some ⟨B, q, none⟩) (20 - q) (20 - q)) w := by
  have hal : Try.prog.arrayLen 46 = 20 := by kernel_rfl
  have hel : Try.prog.elem 46 = 5 := by kernel_rfl
  have hsz : ∀ w, (sizeOf 5).run Try.prog w = .ok 1 w := fun _ => by kernel_rfl
  rw [run_sliceAt_array_l w 46 ⟨B, 0, none⟩ (by kernel_rfl) .i64 q (by omega) (by rw [hal]; omega), hel, hsz, hal]
  simp [Result.andThen, slicedAt, show ¬ (20 = q) from by omega, Addr.add]
  try omega

theorem magnitude_c (a : Int) (ha : Fit a) (w : World) :
    Calls Try.prog 54 #[.int .i64 a] w fun e w' => e = .returned (.int .u64 (a.natAbs : Nat)) ∧ w = w' := by
  unfold Fit at ha
  by_cases h0 : a < 0
  · go_enter Try.func54, Try.ntmps54
    go_wp2
    go_ret
    exact ⟨mag_neg h0 ha.1, rfl⟩
  · go_enter Try.func54, Try.ntmps54
    go_wp2
    go_ret
    exact ⟨mag_pos (by omega), rfl⟩

theorem print_c (a : Int) (ha : Fit a) (w : World) :
    Calls Try.prog 39 #[.int .i64 a] w fun e w' => e = .returned (.string (str (text a))) ∧ Below w.heap.size w w' := by
  have hN := Lib.hid (dec_len a.natAbs (by unfold Fit at ha; omega))
  have hm := magnitude_c a ha
  have hN2 : a.natAbs ≤ 9223372036854775808 := by unfold Fit at ha; omega
  go_enter Try.func39, Try.ntmps39
  go_wp2_with (go_at_call 54; refine (hm _).mono ?_; rintro e w' ⟨rfl, rfl⟩)
  go_loopw [4, 5, 8] (fun f n c wr => ∃ (k j m : Nat) (r : List UInt8) (cur : Array Value), f = .int .i64 k ∧ n = .int .u64 m ∧ c = .int .i64 j ∧ k + j ≤ 20 ∧ 20 ≤ k + j ∧ Hid (r.length = j) ∧ Hid (dec a.natAbs = decTo m r) ∧ m ≤ 9223372036854775808 ∧ Hid (Room wr w.heap.size k r cur) ∧ Below w.heap.size w wr) (fun _ _ c _ => 19 - (intOf c).toNat)
  case atStart =>
    exact ⟨20, 0, a.natAbs, [], _, rfl, rfl, rfl, by omega, by omega, Lib.hid rfl, Lib.hid rfl, hN2, Lib.hid (room_start w), by go_grown⟩
  case round =>
    obtain ⟨k, j, m, r, cur, rfl, rfl, rfl, hk1, hk2, hrl, hD, hm2, hR, hb⟩ := hrel
    have hj : j ≤ 18 := by
      have h1 := hN.out; rw [hD.out, decTo_append, List.length_append, hrl.out] at h1
      have h2 := dec_ne m
      rcases hd : dec m with _ | ⟨x, l⟩
      · exact absurd hd h2
      · rw [hd] at h1; simp at h1; omega
    obtain ⟨p, rfl⟩ : ∃ p, k = p + 2 := ⟨k - 2, by omega⟩
    obtain ⟨v0, c0⟩ := hR.out.cell (p + 1) (by omega)
    have f0 := hR.out.free (p + 1)
    have hR' := Lib.hid (hR.out.store (k := p + 1) (by omega) (dig m) (e := 48 + (m : Int) % 10) (by rw [dig_nat]; omega))
    by_cases h10 : m < 10
    · have hz : m / 10 = 0 := by omega
      have hD' := Lib.hid (show dec a.natAbs = dig m :: r by rw [hD.out, decTo_lt h10])
      have hln : (dec a.natAbs).length = r.length + 1 := by rw [hD'.out]; rfl
      by_cases h0 : a < 0
      · obtain ⟨v1, c1⟩ := hR.out.cell p (by omega)
        have f1 := hR.out.free p
        have hR2 := hR'.out.store (k := p) (by omega) 45 (e := 45) rfl
        rw [← hD'.out, ← text_neg h0] at hR2
        have hcv := hR2.conv (by rw [text_neg h0, List.length_cons, hln, hrl.out]; omega)
        have hsl : ∀ W, (Instr.sliceAt 46 (.pointer (some ⟨w.heap.size, 0, none⟩)) (some (.int .i64 ((p : Int) + 2 - 1 - 1))) none none).run Try.prog W = .ok (.slice (some ⟨w.heap.size, p, none⟩) (20 - p) (20 - p)) W := by
          rw [show ((p : Int) + 2 - 1 - 1) = (p : Nat) from by omega]; exact slice_room w.heap.size p (by omega)
        have hb2 : Below w.heap.size w (((wr.setCell ⟨w.heap.size, p + 1, none⟩ (.int .u8 (48 + (m : Int) % 10))).setCell ⟨w.heap.size, p, none⟩ (.int .u8 45))) := (hb.setCell (Nat.le_refl _) _).setCell (Nat.le_refl _) _
        clear hR2 hD hD' hln
        go_wp2
        go_ret
        exact ⟨rfl, hb2⟩
      · have hR2 := hR'.out
        rw [← hD'.out, ← text_pos h0] at hR2
        have hcv := hR2.conv (by rw [text_pos h0, hln, hrl.out]; omega)
        rw [show 20 - (p + 1) = 19 - p from by omega] at hcv
        have hsl : ∀ W, (Instr.sliceAt 46 (.pointer (some ⟨w.heap.size, 0, none⟩)) (some (.int .i64 ((p : Int) + 2 - 1))) none none).run Try.prog W = .ok (.slice (some ⟨w.heap.size, p + 1, none⟩) (19 - p) (19 - p)) W := by
          rw [show ((p : Int) + 2 - 1) = ((p + 1 : Nat) : Int) from by omega, show 19 - p = 20 - (p + 1) from by omega]; exact slice_room w.heap.size (p + 1) (by omega)
        have hb2 : Below w.heap.size w (wr.setCell ⟨w.heap.size, p + 1, none⟩ (.int .u8 (48 + (m : Int) % 10))) := hb.setCell (Nat.le_refl _) _
        clear hR2 hD hD' hln
        go_wp2
        go_ret
        exact ⟨rfl, hb2⟩
    · have hz : 0 < m / 10 := by omega
      have hD' := Lib.hid (show dec a.natAbs = decTo (m / 10) (dig m :: r) by rw [hD.out, decTo_ge h10])
      go_wp2
      exact ⟨⟨p + 1, j + 1, m / 10, dig m :: r, _, by go_num, by go_num, by go_num, by omega, by omega, Lib.hid (by rw [List.length_cons, hrl.out]), hD', by omega, hR', hb.setCell (Nat.le_refl _) _⟩, by simp [intOf]; omega⟩
end Go.Proofs.Ytpfkcllincfpkaa.tx
