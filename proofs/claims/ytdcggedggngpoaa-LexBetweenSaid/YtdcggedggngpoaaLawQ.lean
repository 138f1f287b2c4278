/- LexQuotes: its walk. -/
import Derived.Test.YtdcggedggngpoaaLawA
namespace Go.Proofs.Ytdcggedggngpoaa.lx
open Go.RowKit

theorem toksD_small {l : List UInt8} (h : l.length ≤ 4096) : toksD l = toks l := by unfold toksD; rw [if_neg (by omega)]

set_option maxRecDepth 100000 in
set_option maxHeartbeats 4000000 in
theorem quotes_w (s : ByteArray) (w : World) (hz : s.size ≤ 9223372036854775807) (hg : GM w) :
    Calls Try.prog 5 #[.string s] w fun e w' => e = .returned (.bool true) ∧ Below w.heap.size w w' := by
  by_cases hbig : s.size > 1024
  · clear hg
    go_enter Try.func5, Try.ntmps5
    go_wp2
    go_ret
    exact ⟨rfl, Below.refl _ _⟩
  have hp := heap_pos hg
  have hsz : s.data.toList.length = s.size := by simp
  have k1 := quote_c s w hg (by omega)
  have k2 := fun w => rquote_c s w (by omega)
  have hql := quote_len s.data.toList
  have hD := toksD_small (l := quoteS s.data.toList) (by omega)
  have Hg := Lib.hid hg
  clear hg
  by_cases hq : quoteS s.data.toList = []
  · rw [hq] at k1 k2
    clear hD hq hsz hql
    go_enter Try.func5, Try.ntmps5
    go_wp2_with fail
    refine k1.mono ?_
    rintro e w1 ⟨rfl, hb1⟩
    have HB1 := Lib.hid hb1
    clear hb1 k1
    go_wp2_with fail
    refine (k2 _).mono ?_
    rintro e w2 ⟨rfl, hb2⟩
    have HB2 := Lib.hid (HB1.out.trans (hb2.mono HB1.out.size))
    clear hb2 k2
    go_wp2
    go_ret
    exact ⟨rfl, HB2.out⟩
  · have ht := quote_toks hq
    have Hq := Lib.hid (show (⟨(quoteS s.data.toList).toArray⟩ : ByteArray).size ≠ 0 by
      simp only [ByteArray.size, List.size_toArray]
      intro e; exact hq (List.length_eq_zero_iff.1 e))
    generalize hQ : quoteS s.data.toList = Q at *
    have kt := fun w hg => ltoks ⟨Q.toArray⟩ w hg (by simp [ByteArray.size]; omega)
    rw [data_of, hD, ht] at kt
    have hQs : (ByteArray.mk Q.toArray).size = Q.length := by simp [ByteArray.size]
    have x1 : (s.data.toList == s.toList) = true := by rw [ByteArray.toList_eq]; simp
    have x2 : ((ByteArray.mk Q.toArray).toList == ([] : List UInt8)) = false := by
      rw [ByteArray.toList_eq]
      cases Q with
      | nil => exact absurd rfl hq
      | cons b r => rfl
    have x3 : (ByteArray.mk Q.toArray).toList.isEmpty = false := by
      rw [ByteArray.toList_eq]
      cases Q with
      | nil => exact absurd rfl hq
      | cons b r => rfl
    rw [← hQs] at kt
    generalize ByteArray.mk Q.toArray = qs at *
    clear hD ht hq hsz hql hQ hQs
    go_enter Try.func5, Try.ntmps5
    go_wp2_with fail
    refine k1.mono ?_
    rintro e w1 ⟨rfl, hb1⟩
    have HB1 := Lib.hid hb1
    clear hb1 k1
    go_wp2_with fail
    refine (k2 _).mono ?_
    rintro e w2 ⟨rfl, hb2⟩
    have HB2 := Lib.hid (HB1.out.trans (hb2.mono HB1.out.size))
    clear hb2 k2
    go_wp2_with fail
    refine (kt _ (Hg.out.below HB2.out hp)).mono ?_
    rintro e w3 ⟨v, rfl, hT, hb3⟩
    obtain ⟨g, cap, rfl, hcap, _, _, hcell⟩ := hT.row (by simp [outToks])
    obtain ⟨c0, c1, c2, c3⟩ := hcell 0 (by simp [outToks])
    simp only [outToks, List.getElem_cons_zero, Nat.zero_mul, Nat.zero_add, List.length_singleton] at c0 c1 c2 c3 hcap
    have HB3 := Lib.hid (HB2.out.trans (hb3.mono HB2.out.size))
    clear hb3 hT kt hcell
    simp only [outToks, outE, outP, List.length_singleton]
    go_wp2
    go_ret
    exact ⟨rfl, HB3.out⟩
end Go.Proofs.Ytdcggedggngpoaa.lx
