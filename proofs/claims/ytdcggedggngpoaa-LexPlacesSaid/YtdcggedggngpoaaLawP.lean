/- LexPlaces: its walk. -/
import Derived.Test.YtdcggedggngpoaaLawA
namespace Go.Proofs.Ytdcggedggngpoaa.lx
open Go.RowKit

theorem lastTo_take (ts : List Tok) (i : Nat) (h : i < ts.length) : lastTo (ts.take (i + 1)) = ts[i].to := by
  rw [List.take_succ_eq_append_getElem h, lastTo_snoc]
theorem getD_bA (s : ByteArray) (k : Nat) : s.data.toList.getD k 0 = bA s k := rfl

set_option maxRecDepth 100000 in
set_option maxHeartbeats 4000000 in
theorem places_w (s : ByteArray) (w : World) (hz : s.size ≤ 9223372036854775807) (hg : GM w) :
    Calls Try.prog 6 #[.string s] w fun e w' => e = .returned (.bool true) ∧ Below w.heap.size w w' := by
  by_cases hbig : s.size > 16384
  · clear hg
    go_enter Try.func6, Try.ntmps6
    go_wp2
    go_ret
    exact ⟨rfl, Below.refl _ _⟩
  have hbig2 : s.size ≤ 16384 := by omega
  have hsz : s.data.toList.length = s.size := by simp
  have Hsz := Lib.hid hsz
  clear hsz
  have hgt := get_bA s
  have k1 := ltoks s w hg hz
  have k2 := fun w => rtoks s w hz
  clear hg
  have hlen := outToks_len s.data.toList
  have Hpl := Lib.hid (outToks_pl s.data.toList)
  have Hend := Lib.hid (outE_toks s.data.toList)
  generalize toksD s.data.toList = o at *
  have e1 : ((outE o : Int) != (outE o : Int)) = false := by simp
  have e2 : ((outP o : Int) != (outP o : Int)) = false := by simp
  go_enter Try.func6, Try.ntmps6
  go_wp2_with fail
  refine k1.mono ?_
  rintro e w1 ⟨v1, rfl, hT1, hb1⟩
  go_wp2_with fail
  refine (k2 _).mono ?_
  rintro e w2 ⟨v2, rfl, hT2, hb2⟩
  have HT := Lib.hid (hT1.stay hb2)
  have HB := Lib.hid (hb1.trans (hb2.mono hb1.size))
  obtain ⟨a, cap, rfl⟩ := hT1.shape
  clear hT1 hT2 hb1 hb2 k1 k2
  generalize outToks o = ts at *
  go_wp2
  go_loopg [9, 10] ts.length (fun k x i wr => ∃ m : Nat, k = ts.length - m ∧ m ≤ ts.length ∧ x = .int .i64 (lastTo (ts.take m) : Nat) ∧ i = .int .i64 m ∧ Hid (Tk w.heap.size wr (.slice a ts.length cap) ts) ∧ Hid (Below w.heap.size w wr))
  case atStart => exact ⟨0, by omega, by omega, rfl, rfl, HT, HB⟩
  case round =>
    clear HT HB
    obtain ⟨m, hgk, hm, rfl, rfl, hT, hb⟩ := hrel
    by_cases hlt : m < ts.length
    · have hlt2 : (m : Int) < ts.length := by omega
      obtain ⟨g, gcap, hv, hgc, _, hgl, hcell⟩ := hT.out.row (by omega)
      obtain ⟨rfl, rfl⟩ : a = some ⟨g, 0, none⟩ ∧ cap = gcap := by simp at hv; exact ⟨hv.1, hv.2⟩
      clear hv
      obtain ⟨c0, c1, c2, c3⟩ := hcell m hlt
      obtain ⟨p1, p2, p3, p4, p5⟩ := Hpl.out m hlt
      rw [Hsz.out] at p3
      rw [getD_bA] at p4 p5
      have Hlt := Lib.hid (lastTo_take ts m hlt)
      generalize ht : ts[m] = t at *
      generalize hlast : lastTo (ts.take m) = en at *
      clear ht hlast hcell
      have P4 := Lib.hid p4
      have P5 := Lib.hid p5
      clear p4 p5
      have n1 : ¬ ((t.frm : Int) < (en : Int)) := by omega
      have n2 : ¬ ((t.to : Int) ≤ (t.frm : Int)) := by omega
      have n3 : ¬ ((s.size : Int) < (t.to : Int)) := by omega
      go_wp2
      generalize hW2 : World.alloc wr _ = W2
      have hblk : W2.heap[wr.heap.size]? = some (.cells #[.int .i64 (t.kind : Nat), .string ⟨t.text.toArray⟩, .int .i64 (t.frm : Nat), .int .i64 (t.to : Nat)] 29 (0, 0)) := by rw [← hW2]; exact heap_alloc_new wr _
      have d1 : W2.cell? ⟨wr.heap.size, 1, none⟩ = some (.string ⟨t.text.toArray⟩) := by rw [cell_at hblk]; rfl
      have d2 : W2.cell? ⟨wr.heap.size, 2, none⟩ = some (.int .i64 (t.frm : Nat)) := by rw [cell_at hblk]; rfl
      have d3 : W2.cell? ⟨wr.heap.size, 3, none⟩ = some (.int .i64 (t.to : Nat)) := by rw [cell_at hblk]; rfl
      have HT2 := Lib.hid (show Tk w.heap.size W2 (.slice (some ⟨g, 0, none⟩) ts.length cap) ts by rw [← hW2]; exact World.ownsRow.alloc hT.out _)
      have HB2 := Lib.hid (show Below w.heap.size w W2 by rw [← hW2]; exact hb.out.alloc hb.out.size _)
      clear hW2 hblk c0 c1 c2 c3 hT hb
      have m1 : t.frm < s.size := by omega
      have m2 : (t.frm : Int) < s.size := by omega
      by_cases h39 : bA s t.frm = 39
      · obtain ⟨a1, a2⟩ := ieq_yes (a := (bA s t.frm).toNat) 39 (by rw [h39]; rfl)
        clear h39
        go_wp2
        go_quiet (fail)
        go_wp2
        go_roundg (ts.length - (m + 1))
        case measure => omega
        case rel => exact ⟨m + 1, rfl, by omega, by rw [Hlt.out], by go_num, Lib.hid HT2.out, Lib.hid (HB2.out.trans (below_drawn ..))⟩
      · obtain ⟨a1, a2⟩ := ieq_no (a := (bA s t.frm).toNat) 39 (by intro e; exact h39 (UInt8.toNat_inj.1 (by simp; omega)))
        have hx : s.extract t.frm t.to = ⟨t.text.toArray⟩ := by
          rw [Lib.extract_eq, ← List.drop_take, P4.out h39]
        clear h39
        have m3 : (t.frm : Int) ≤ (t.to : Int) := by omega
        have m4 : (t.to : Int) ≤ s.size := by omega
        go_wp2
        go_quiet (fail)
        go_wp2
        go_roundg (ts.length - (m + 1))
        case measure => omega
        case rel => exact ⟨m + 1, rfl, by omega, by rw [Hlt.out], by go_num, Lib.hid HT2.out, Lib.hid (HB2.out.trans (below_drawn ..))⟩
    · have hlt2 : ¬ ((m : Int) < ts.length) := by omega
      go_wp2
      all_goals
        go_ret
        refine ⟨ret_b ?_, hb.out⟩
        rcases Hend.out with h | h <;> simp [h]
end Go.Proofs.Ytdcggedggngpoaa.lx
