/- LexAtoms: its walk. -/
import Derived.Test.YtdcggedggngpoaaLawB
import Derived.Test.YtdcggedggngpoaaStr
namespace Go.Proofs.Ytdcggedggngpoaa.lx
open Go.RowKit

theorem ba_ext {a b : ByteArray} (h : a.data.toList = b.data.toList) : a = b := by
  cases a; cases b; simp at h; rw [h]

set_option maxRecDepth 100000 in
set_option maxHeartbeats 4000000 in
theorem atoms_w (a : Option Addr) (cap : Nat) (z : List ByteArray) (w : World) (hz : SRow w a cap z) (hg : GM w) :
    Calls Try.prog 4 #[.slice a z.length cap] w fun e w' => e = .returned (.bool true) ∧ Below w.heap.size w w' := by
  have hp := heap_pos hg
  have hzl : z.length ≤ 9223372036854775807 := by have h1 := hz.1; have h2 := hz.2.1; unfold maxLen at h2; omega
  have Hg := Lib.hid hg
  have HZ := Lib.hid hz
  clear hg hz
  go_enter Try.func4, Try.ntmps4
  go_wp2
  go_loopg [3, 4] z.length (fun k n i wr => ∃ m D : Nat, k = z.length - m ∧ m ≤ z.length ∧ n = .int .i64 D ∧ i = .int .i64 m ∧ Hid (D = z.length + many (z.take m)) ∧ (m = 0 ∨ D ≤ 1049600) ∧ D ≤ 9223372036854775807 ∧ Hid (Below w.heap.size w wr))
  case atStart => exact ⟨0, z.length, by omega, by omega, rfl, rfl, Lib.hid (by simp [many]), .inl rfl, hzl, Lib.hid (Below.refl _ _)⟩
  case round =>
    obtain ⟨m, D, hgk, hm, rfl, rfl, hD, hD0, hDl, hw⟩ := hrel
    by_cases hbig : D ≤ 1024
    · by_cases hlt : m < z.length
      · have hlt2 : (m : Int) < z.length := by omega
        have hD2 : (D : Int) ≤ 1024 := by omega
        obtain ⟨ad, rfl, hc⟩ := (HZ.out.kept hw.out rfl).cells hlt
        have hD3 := Lib.hid (show D + min z[m].size 1048576 = z.length + many (z.take (m + 1)) by rw [many_take z m hlt, hD.out]; omega)
        have hsz := HZ.out.2.2.1 z[m] (List.getElem_mem hlt)
        unfold maxLen at hsz
        generalize z[m] = t at *
        have hmin : min (t.size : Int) 1048576 = ((min t.size 1048576 : Nat) : Int) := by omega
        go_wp2
        go_roundg (z.length - (m + 1))
        case measure => omega
        case rel => exact ⟨m + 1, D + min t.size 1048576, rfl, by omega, by go_num, by go_num, hD3, .inr (by omega), by omega, hw⟩
      · have hlt2 : ¬ ((m : Int) < z.length) := by omega
        have hD2 : ¬ (1024 : Int) < (D : Int) := by omega
        have hsum : z.length + many z ≤ 1024 := by have h1 := hD.out; rw [List.take_of_length_le (by omega)] at h1; omega
        have hall := Lib.hid (many_each z (by omega))
        have hcl := Lib.hid (catQ_len z hall.out)
        have hzl3 : z.length ≤ 1024 := by omega
        have Hsum := Lib.hid hsum
        clear hsum hD hD0 hDl hgk
        go_wp2
        have hE := Lib.hid (Sk.empty w.heap.size wr hw.out.size)
        have hB0 := Lib.hid (hw.out.alloc hw.out.size (.cells #[] 9))
        generalize World.alloc wr _ = W0 at *
        generalize wr.heap.size = b0 at *
        clear hw
        go_loopg [5, 6, 7, 8] z.length (fun k s v i _ wr => ∃ m g cp : Nat, k = z.length - m ∧ m ≤ z.length ∧ s = .string ⟨(catQ (z.take m)).toArray⟩ ∧ v = .slice (some ⟨g, 0, none⟩) (wants (z.take m)).length cp ∧ i = .int .i64 m ∧ Hid (Sk w.heap.size wr g cp (wants (z.take m))) ∧ Hid (Below w.heap.size w wr))
        case atStart => exact ⟨0, b0, 0, by omega, by omega, rfl, rfl, rfl, hE, hB0⟩
        case round =>
          clear hE hB0
          obtain ⟨m, g, cp, hgk, hm, rfl, rfl, rfl, hS, hB⟩ := hrel
          by_cases hlt : m < z.length
          · have hlt2 : (m : Int) < z.length := by omega
            have hzr := Lib.hid (HZ.out.kept hB.out rfl)
            obtain ⟨ad, rfl, hc⟩ := hzr.out.cells hlt
            have Hca := Lib.hid (catQ_take z m hlt)
            have Hwa := Lib.hid (wants_take z m hlt)
            have hCz : (catQ (z.take m)).length ≤ 3072 := by
              have h1 := congrArg (fun l => (catQ l).length) (List.take_append_drop m z)
              simp only [catQ_append, List.length_append] at h1
              have := hcl.out
              have := Hsum.out
              omega
            have hV : (wants (z.take m)).length ≤ 1024 := by
              have h1 := wants_len (z.take m)
              rw [List.length_take] at h1; omega
            have hsz := hall.out z[m] (List.getElem_mem hlt)
            have k1 := quote_c z[m] wr (Hg.out.below hB.out hp) hsz
            have k2 := fun w => rquote_c z[m] w hsz
            have Hc2 := Lib.hid (fun (w' : World) (h : Below wr.heap.size wr w') => show w'.cell? (ad.add m) = some (.string z[m]) from by rw [h.cell (World.block_lt_of_cell? wr _ hc)]; exact hc)
            have hqe : qB z[m] = quoteS z[m].data.toList := rfl
            have hQz : (qB z[m]).length ≤ 2050 := by
              have h1 := quote_len z[m].data.toList
              have h2 : z[m].data.toList.length = z[m].size := by simp
              rw [hqe]; omega
            rw [← hqe] at k1 k2
            clear hqe
            generalize z[m] = t at *
            generalize catQ (z.take m) = C at *
            generalize wants (z.take m) = V at *
            generalize qB t = Q at *
            by_cases hq : Q = []
            · subst hq
              rw [if_pos rfl, List.append_nil] at Hca Hwa
              go_wp2_with fail
              refine k1.mono ?_
              rintro e w1 ⟨rfl, hb1⟩
              have hc1 := Hc2.out w1 hb1
              have HS1 := Lib.hid (hS.out.stay hb1)
              have HB1 := Lib.hid (hB.out.trans (hb1.mono hB.out.size))
              have Hb1 := Lib.hid hb1
              clear hb1 k1 hc
              go_wp2_with fail
              refine (k2 _).mono ?_
              rintro e w2 ⟨rfl, hb2⟩
              have HS2 := Lib.hid (HS1.out.stay hb2)
              have HB2 := Lib.hid (HB1.out.trans (hb2.mono HB1.out.size))
              clear hb2 k2 hc1
              go_wp2
              go_roundg (z.length - (m + 1))
              case measure => omega
              case rel => exact ⟨m + 1, g, cp, rfl, by omega, by rw [Hca.out], by rw [Hwa.out], by go_num, Lib.hid (by rw [Hwa.out]; exact HS2.out), HB2⟩
            · rw [if_neg hq] at Hca Hwa
              have hC2 := Lib.hid (show (⟨C.toArray⟩ ++ ⟨Q.toArray⟩ ++ ⟨#[32]⟩ : ByteArray) = ⟨(catQ (z.take (m + 1))).toArray⟩ from ba_ext (by rw [cat_data, cat_data, Hca.out]; simp))
              have x2 : ((ByteArray.mk Q.toArray).toList == ([] : List UInt8)) = false := by
                rw [ByteArray.toList_eq]
                cases Q with
                | nil => exact absurd rfl hq
                | cons b r => rfl
              have x3 : (ByteArray.mk Q.toArray).toList.isEmpty = false := by
                rw [ByteArray.toList_eq]
                cases Q with
                | nil => exact absurd rfl hq
                | cons b r => rfl
              have hq1 : (ByteArray.mk Q.toArray).size ≤ 2050 := by simpa [ByteArray.size] using hQz
              have hc1 : (ByteArray.mk C.toArray).size ≤ 3072 := by simpa [ByteArray.size] using hCz
              generalize ByteArray.mk Q.toArray = qs at *
              generalize ByteArray.mk C.toArray = cs at *
              clear hq hQz hCz
              go_wp2_with fail
              refine k1.mono ?_
              rintro e w1 ⟨rfl, hb1⟩
              have hc1 := Hc2.out w1 hb1
              have HS1 := Lib.hid (hS.out.stay hb1)
              have HB1 := Lib.hid (hB.out.trans (hb1.mono hB.out.size))
              have Hb1 := Lib.hid hb1
              clear hb1 k1 hc
              go_wp2_with fail
              refine (k2 _).mono ?_
              rintro e w2 ⟨rfl, hb2⟩
              have hc2 := Hc2.out w2 (Hb1.out.trans (hb2.mono Hb1.out.size))
              have HS2 := Lib.hid (HS1.out.stay hb2)
              have HB2 := Lib.hid (HB1.out.trans (hb2.mono HB1.out.size))
              have hsz2 := Lib.hid HB2.out.size
              clear hb2 k2 hc1
              go_wp2_with (at_builtin; refine wpList_pushS rfl _ _ rfl w.heap.size w2 g cp V t rfl HS2.out rfl (by omega) hsz2.out ?_; intro g3 cap3 w3 hY3 hb3'; have HS3 := Lib.hid hY3; have HB3 := Lib.hid (HB2.out.trans hb3'); clear hY3 hb3')
              rw [hC2.out]
              go_roundg (z.length - (m + 1))
              case measure => omega
              case rel => exact ⟨m + 1, g3, cap3, rfl, by omega, rfl, by rw [Hwa.out, List.length_append]; rfl, by go_num, Lib.hid (by rw [Hwa.out]; exact HS3.out), HB3⟩
          · have hlt2 : ¬ ((m : Int) < z.length) := by omega
            rw [List.take_of_length_le (by omega)] at hS ⊢
            have hCl : (catQ z).length ≤ 3072 := by have := hcl.out; have := Hsum.out; omega
            have hVl : (wants z).length ≤ 1024 := by have := wants_len z; omega
            have hcz : (ByteArray.mk (catQ z).toArray).size ≤ 3072 := by simpa [ByteArray.size] using hCl
            have Hpure := Lib.hid (fun h => atoms_toks (z := z) (by omega) h)
            have HlT := Lib.hid (ltoks ⟨(catQ z).toArray⟩ wr (Hg.out.below hB.out hp) (by omega))
            rw [data_of] at HlT
            generalize wants z = V at *
            generalize ByteArray.mk (catQ z).toArray = cs at *
            by_cases hV : V.length ≤ 1000
            · have hV2 : ¬ (1000 : Int) < (V.length : Int) := by omega
              obtain ⟨A, hA, hAl, hAk⟩ := Hpure.out hV
              rw [hA] at HlT
              have k1 := HlT.out
              have HAk := Lib.hid hAk
              have hne : ((A.length : Int) != (V.length : Int)) = false := by rw [hAl]; simp
              clear hA hAk HlT hCl
              go_wp2_with fail
              refine k1.mono ?_
              rintro e w1 ⟨v, rfl, hT, hb1⟩
              simp only [oT_ok, oE_ok, oP_ok] at hT ⊢
              obtain ⟨a5, cap5, rfl⟩ := hT.shape
              have HT := Lib.hid hT
              have HS1 := Lib.hid (hS.out.stay hb1)
              have HB1 := Lib.hid (hB.out.trans (hb1.mono hB.out.size))
              clear hT hb1 k1 hS hB
              go_wp2
              go_loopg [12] A.length (fun k i wq => ∃ m : Nat, k = A.length - m ∧ m ≤ A.length ∧ i = .int .i64 m ∧ Hid (Below w1.heap.size w1 wq))
              case atStart => exact ⟨0, by omega, by omega, rfl, Lib.hid (Below.refl _ _)⟩
              case round =>
                obtain ⟨j, hgk, hj, rfl, hw⟩ := hrel
                have HTb := Lib.hid (HT.out.stay hw.out)
                have HSb := Lib.hid (HS1.out.stay hw.out)
                by_cases hlj : j < A.length
                · have hlj2 : (j : Int) < A.length := by omega
                  have hjv : j < V.length := by omega
                  have hjv2 : (j : Int) < V.length := by omega
                  have hroom := HSb.out.room
                  obtain ⟨g5, gc5, hv5, hgc5, _, hgl5, hcell5⟩ := HTb.out.row (by omega)
                  obtain ⟨rfl, rfl⟩ : a5 = some ⟨g5, 0, none⟩ ∧ cap5 = gc5 := by simp at hv5; exact ⟨hv5.1, hv5.2⟩
                  obtain ⟨c0, c1, _, _⟩ := hcell5 j hlj
                  obtain ⟨y0, y1⟩ := HAk.out j hlj hjv
                  have d0 := HSb.out.cell j hjv
                  rw [y0] at c0
                  rw [y1] at c1
                  obtain ⟨x0, x1⟩ := ieq_yes (a := 1) 1 rfl
                  clear hv5 hcell5 y0 y1
                  generalize V[j] = t at *
                  go_wp2
                  go_quiet (fail)
                  go_wp2
                  go_roundg (A.length - (j + 1))
                  case measure => omega
                  case rel => exact ⟨j + 1, rfl, by omega, by go_num, Lib.hid (hw.out.trans (below_drawn ..))⟩
                · have hlj2 : ¬ ((j : Int) < A.length) := by omega
                  have HW := Lib.hid (HB1.out.trans (hw.out.mono HB1.out.size))
                  go_wp2
                  go_ret
                  exact ⟨rfl, HW.out⟩
            · have hV2 : (1000 : Int) < (V.length : Int) := by omega
              clear HlT hCl
              go_wp2
              go_ret
              exact ⟨rfl, hB.out⟩
    · have hD2 : (1024 : Int) < (D : Int) := by omega
      have hD3 : ¬ (D : Int) ≤ 1024 := by omega
      by_cases hlt : m < z.length
      · have hlt2 : (m : Int) < z.length := by omega
        go_wp2
        go_ret
        exact ⟨rfl, hw.out⟩
      · have hlt2 : ¬ ((m : Int) < z.length) := by omega
        go_wp2
        go_ret
        exact ⟨rfl, hw.out⟩
end Go.Proofs.Ytdcggedggngpoaa.lx
