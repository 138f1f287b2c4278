/- WriteNames: its walk.; WriteAtoms: its walk. -/
import Derived.Test.YtpihmockcjdafaaQ25
set_option linter.unusedVariables false
set_option linter.unusedSimpArgs false
section
/- WriteNames: its walk. -/
namespace Go.Proofs.Ytpihmockcjdafaa.wr
open Go.RowKit
open Go.Proofs.Ytpihmockcjdafaa.rd
open Go.Proofs.Ytpihmockcjdafaa.ls (Any any)
open Go.Proofs.Ytpihmockcjdafaa.op (bs strC Both)
open Go.Proofs.Ytpihmockcjdafaa.nm (Fit)
open Go.Proofs.Ytpihmockcjdafaa.lx (Qn GM txT cell_at)
set_option maxRecDepth 20000

set_option maxHeartbeats 16000000 in
theorem names_w (s : ByteArray) (w : World) (hz : s.size ≤ 9223372036854775807) (hg : GM w) :
    Calls Try.prog 7 #[.string s] w fun e w' => e = .returned (.bool true) ∧ Below w.heap.size w w' := by
  by_cases hbig : s.size > 2048
  · clear hg
    go_enter Try.func7, Try.ntmps7
    go_wp2
    go_ret
    exact ⟨rfl, Below.refl _ _⟩
  have hb1 : s.size ≤ 2048 := by omega
  have hsl : s.data.toList.length ≤ 2048 := by simpa using hb1
  have k1 := rr.rone_c s w (both_t w) (Nat.zero_le _) (by omega)
  have kr := fun s' w' h => rr.rone_c s' w' (both_t w') (Nat.zero_le _) h
  have HK := Lib.hid kr
  have Hg := Lib.hid hg
  have hp := lx.heap_pos hg
  have hone := fun x h => one_rdd (l := s.data.toList) (x := x) h hsl
  have herr := fun k h => ls.one_err (l := s.data.toList) (k := k) h
  have hvar := fun x h => one_vars (l := s.data.toList) (x := x) h
  have hlen := fun x h => one_len (l := s.data.toList) (x := x) h
  have hnms := fun x h hn => one_names (s := s.data.toList) (x := x) h hn
  generalize oneP s.data.toList = X at *
  have HO := Lib.hid hone
  have HE := Lib.hid herr
  have HV := Lib.hid hvar
  have HL := Lib.hid hlen
  have HM := Lib.hid hnms
  clear hg kr hz hsl hone herr hvar hlen hnms
  go_enter Try.func7, Try.ntmps7
  go_wp2_with fail
  refine k1.mono ?_
  clear k1
  rcases X with k | x
  · rintro e w1 ⟨z, rfl, hb⟩
    have hk0 := HE.out k rfl
    have HB1 := Lib.hid hb
    have hbx := heap_alloc_new w1 (.cells #[.int .i64 0, .int .i64 0, .string ⟨#[]⟩, .slice none 0 0, .slice none 0 0] 29)
    obtain ⟨c0, c1, c2, c3, c4⟩ := cells5 hbx
    have hb2 := (Below.refl w1.heap.size w1).alloc (Nat.le_refl _) (.cells #[.int .i64 0, .int .i64 0, .string ⟨#[]⟩, .slice none 0 0, .slice none 0 0] 29)
    have HX := Lib.hid hbx
    have HB2 := Lib.hid (HB1.out.trans (hb2.mono HB1.out.size))
    have hru : ∀ W : World, Ru W.heap.size W (.mk 0 0 [] []) (.slice none 0 0) := fun W => by rw [Ru]; exact ⟨none, 0, rfl, Nat.le_refl _, Nat.zero_le _, fit0, by rw [Rus]; trivial⟩
    have hqn : qnU (.mk 0 0 [] []) := by rw [qnU, qnUL]; exact ⟨.inl (by simp), trivial⟩
    have kw := named_c (Hg.out.below HB2.out hp) (hru _) hqn nm_nil (nr_nil _)
    have kv := fun W => rnamed_c (hru W) hqn nm_nil (nr_nil W)
    rw [wrX_no no_good, bs_empty] at kw kv
    rw [show ([] : List (List UInt8)).length = 0 from rfl] at kw kv
    unfold uV at kw kv
    clear hb hb2 hbx hru hqn HO HE HK HV HL HM
    go_wp2_with fail
    refine kw.mono ?_
    rintro e w3 ⟨rfl, hb3⟩
    have hX3 := (hb3.block w1.heap.size (lt_of HX.out)).trans HX.out
    have HB3 := Lib.hid (HB2.out.trans (hb3.mono HB2.out.size))
    clear kw hb3 c0 c1 c2 c3 c4
    obtain ⟨c0, c1, c2, c3, c4⟩ := cells5 hX3
    go_wp2_with fail
    refine (kv _).mono ?_
    rintro e w4 ⟨rfl, hb4⟩
    have HB4 := Lib.hid (HB3.out.trans (hb4.mono HB3.out.size))
    have e1 : ((k : Int) != 0) = true := bne_iff_ne.2 (by omega)
    have e2 : ((k : Int) == 0) = false := beq_eq_false_iff_ne.2 (by omega)
    clear kv hb4 c0 c1 c2 c3 c4 hX3 hk0
    go_wp2
    go_ret
    exact ⟨rfl, HB4.out⟩
  · rintro e w1 ⟨a, nvs, rfl, hH, hb⟩
    obtain ⟨p, m, c, rfl⟩ := hH.1.shape
    obtain ⟨q, n, d, rfl⟩ := own_shape hH.2
    have hnr := nr_own hH.2
    obtain ⟨rfl, hnr⟩ := hnr
    have hR := HO.out x rfl
    have hN4 : NmOk x.2 := HL.out x rfl
    have hVx := HV.out x rfl
    have hMx := HM.out x rfl
    have hr1 := any hH.1
    have HB1 := Lib.hid hb
    have hbx := heap_alloc_new w1 (.cells #[.int .i64 (x.1.k : Nat), .int .i64 x.1.n, .string (bs x.1.s), .slice p m c, .slice q x.2.length d] 29)
    obtain ⟨c0, c1, c2, c3, c4⟩ := cells5 hbx
    have hb2 := (Below.refl w1.heap.size w1).alloc (Nat.le_refl _) (.cells #[.int .i64 (x.1.k : Nat), .int .i64 x.1.n, .string (bs x.1.s), .slice p m c, .slice q x.2.length d] 29)
    have HX := Lib.hid hbx
    have HB2 := Lib.hid (HB1.out.trans (hb2.mono HB1.out.size))
    have hr2 := hr1.kept (Kt.below hb2)
    have hnr2 := (hnr.stay hb2).up hb2.size
    have kw := named_c (Hg.out.below HB2.out hp) (ru_uV hr2 hR.fx) hR.qn hN4 hnr2
    have kv := fun W h1 h2 => rnamed_c (w := W) (ru_uV (a := .slice p m c) h1 hR.fx) hR.qn hN4 (p := q) (cap := d) h2
    rw [uV_emb] at kw kv
    have HR2 := Lib.hid hr2
    have HN2 := Lib.hid hnr2
    have HR := Lib.hid hR
    have HVX := Lib.hid hVx
    have HMX := Lib.hid hMx
    have HN4 := Lib.hid hN4
    clear hb hb2 hbx HO HE HV HL HM hH hr1 hr2 hR hnr hnr2 hVx hMx hN4
    have hcase : goodU (emb x.1) ∨ ¬ goodU (emb x.1) := Classical.em _
    go_wp2_with fail
    refine kw.mono ?_
    rintro e w3 ⟨rfl, hb3⟩
    have hX3 := (hb3.block w1.heap.size (lt_of HX.out)).trans HX.out
    have HX3 := Lib.hid hX3
    have HB3 := Lib.hid (HB2.out.trans (hb3.mono HB2.out.size))
    have HR3 := Lib.hid (HR2.out.kept (Kt.below hb3))
    have HN3 := Lib.hid ((HN2.out.stay hb3).up hb3.size)
    have kv3 := kv _ HR3.out HN3.out
    clear kw kv hb3 c0 c1 c2 c3 c4 HX HR2 HN2
    obtain ⟨c0, c1, c2, c3, c4⟩ := cells5 hX3
    clear hX3
    go_wp2_with fail
    refine kv3.mono ?_
    rintro e w4 ⟨rfl, hb4⟩
    have HX4 := Lib.hid ((hb4.block w1.heap.size (lt_of HX3.out)).trans HX3.out)
    have HB4 := Lib.hid (HB3.out.trans (hb4.mono HB3.out.size))
    have HR4 := Lib.hid (HR3.out.kept (Kt.below hb4))
    have HN4' := Lib.hid ((HN3.out.stay hb4).up hb4.size)
    have e1 : ((bs (wrX x.2 (emb x.1))).toList != (bs (wrX x.2 (emb x.1))).toList) = false := by simp
    clear kv3 hb4 c0 c1 c2 c3 c4 HX3 HR3 HN3
    rcases hcase with hgd | hgd
    · have hne := tx_ne (nm := x.2) (emb x.1) hgd.1 (fun n _ => varX_ne n)
      have hlen := fx_len HN4.out hgd HR.out.qn (Ru.fx (ru_uV HR4.out HR.out.fx))
      rw [er_emb _ hgd.1] at hne hlen
      have hgdT := ok_gd (fun n h => var_nm HVX.out h) x.1 hgd.1
      have hback := backP hgdT HR.out.ft
      have hl1 := lv_sz x.1
      have hl2 := hgd.2
      rw [good_txt hgd] at e1 ⊢
      have ko := fun W => HK.out (bs (txT x.2 x.1)) W (by rw [bs_sz]; omega)
      rw [show (bs (txT x.2 x.1)).data.toList = txT x.2 x.1 from rfl] at ko
      have z1 : (bs (txT x.2 x.1)).toList.isEmpty = false := by rw [isE]; simpa using hne
      have z2 : ¬ (bs (txT x.2 x.1)).toList = [] := by rw [ByteArray.toList_eq]; exact hne
      generalize bs (txT x.2 x.1) = tx at *
      generalize oneP (txT x.2 x.1) = Y at *
      have HGT := Lib.hid hgdT
      have HBK := Lib.hid hback
      have HLv := Lib.hid (show lvT x.1 ≤ 1000000 by omega)
      have HKO := Lib.hid ko
      have hmx := HN4'.out.max
      unfold maxLen at hmx
      have hnle := HN4'.out.le
      clear hgd hne hlen hback hl1 hl2 HK hgdT ko
      go_wp2
      go_loopg [7] x.2.length (fun k v7 wr => ∃ i : Nat, k = x.2.length - i ∧ i ≤ x.2.length ∧ v7 = .int .i64 i ∧ Hid (Below w4.heap.size w4 wr) ∧ Hid (∀ j, j < i → x.2.getD j [] ≠ [95]))
      case atStart => exact ⟨0, by omega, by omega, rfl, Lib.hid (Below.refl _ _), Lib.hid fun j hj => absurd hj (Nat.not_lt_zero _)⟩
      case round =>
        obtain ⟨i, hgk, hi, rfl, HW, HJ⟩ := hrel
        have hXr := (HW.out.block w1.heap.size (lt_of HX4.out)).trans HX4.out
        obtain ⟨c0, c1, c2, c3, c4⟩ := cells5 hXr
        have HXR := Lib.hid hXr
        clear hXr
        by_cases hlt : i < x.2.length
        · have hlt2 : (i : Int) < x.2.length := by omega
          have i4 : (0 : Int) ≤ (i : Int) := by omega
          obtain ⟨g, o, hqe, hgl, d0⟩ := ((HN4'.out.stay HW.out)).el i hlt
          subst hqe
          by_cases h95 : x.2.getD i [] = [95]
          · rw [h95, show bs [95] = ⟨#[95]⟩ from rfl] at d0
            clear HJ h95
            go_wp2
            go_ret
            exact ⟨rfl, HB4.out.trans (HW.out.mono HB4.out.size)⟩
          · have y1 : ((bs (x.2.getD i [])).toList == [95]) = false := by rw [ByteArray.toList_eq]; exact beq_eq_false_iff_ne.2 h95
            have HJ2 : Hid (∀ j, j < i + 1 → x.2.getD j [] ≠ [95]) := Lib.hid fun j hj => by
              rcases Nat.lt_or_ge j i with h | h
              · exact HJ.out j h
              · have : j = i := by omega
                rw [this]; exact h95
            generalize bs (x.2.getD i []) = zz at *
            clear HJ h95
            go_wp2
            go_roundg (x.2.length - (i + 1))
            case measure => omega
            case rel => exact ⟨i + 1, rfl, by omega, by go_num, HW, HJ2⟩
        · have hlt2 : ¬ ((i : Int) < x.2.length) := by omega
          have hMX := HMX.out (fun y hy => by
            obtain ⟨j, hj, rfl⟩ := List.getElem_of_mem hy
            have := HJ.out j (by omega)
            rwa [getD_at _ _ _ hj] at this)
          have HB5 := Lib.hid (HB4.out.trans (HW.out.mono HB4.out.size))
          have HR5 := Lib.hid (HR4.out.kept (Kt.below HW.out))
          have HN5 := Lib.hid ((HN4'.out.stay HW.out).up HW.out.size)
          have ko := HKO.out wr
          have HMM := Lib.hid hMX
          clear HJ HX4 HR4 HN4' HB4 HMX HKO hMX HW
          go_wp2_with fail
          refine ko.mono ?_
          clear ko
          rcases Y with k | ⟨y1, y2⟩
          · rintro e w5 ⟨z, rfl, hb5⟩
            have HB6 := Lib.hid (HB5.out.trans (hb5.mono HB5.out.size))
            have hk : k = 52 ∨ k = 33 ∨ k = 34 := by
              rcases HBK.out with h | ⟨e', h, hw⟩
              · cases h
              · cases h; rcases hw with h | h | h; exact .inl h.1; exact .inr (.inl h.1); exact .inr (.inr h.1)
            clear hb5 HBK HR HR5 HN5
            rcases hk with rfl | rfl | rfl
            all_goals
              go_wp2
              go_ret
              exact ⟨rfl, HB6.out.alloc HB6.out.size _⟩
          · rintro e w5 ⟨a2, nvs2, rfl, hH2, hb5⟩
            obtain ⟨p2, m2, c2', rfl⟩ := hH2.1.shape
            obtain ⟨q2, n2, d2, rfl⟩ := own_shape hH2.2
            have hy : (y1, y2) = rnT x.2 x.1 [] := by
              rcases HBK.out with h | ⟨e', h, hw⟩
              · exact Except.ok.inj h
              · cases h
            obtain ⟨hy2, pr, hal, heq⟩ := back_names HMM.out.1 HMM.out.2 HGT.out
            obtain rfl : y2 = x.2 := by have := congrArg Prod.snd hy; rw [hy2] at this; exact this
            have hy1 : y1 = (rnT x.2 x.1 []).1 := congrArg Prod.fst hy
            obtain ⟨rfl, hnr2⟩ := nr_own hH2.2
            have hX5 := (hb5.block w1.heap.size (lt_of HXR.out)).trans HXR.out
            have hX6 := (Lib.alloc_old w5 (.cells #[.int .i64 (y1.k : Nat), .int .i64 y1.n, .string (bs y1.s), .slice p2 m2 c2', .slice q2 x.2.length d2] 29) _ (lt_of hX5)).trans hX5
            have hY6 := heap_alloc_new w5 (.cells #[.int .i64 (y1.k : Nat), .int .i64 y1.n, .string (bs y1.s), .slice p2 m2 c2', .slice q2 x.2.length d2] 29)
            have hb6 := (Below.refl w5.heap.size w5).alloc (Nat.le_refl _) (.cells #[.int .i64 (y1.k : Nat), .int .i64 y1.n, .string (bs y1.s), .slice p2 m2 c2', .slice q2 x.2.length d2] 29)
            have HX6 := Lib.hid hX6
            have HY6 := Lib.hid hY6
            have HB6 := Lib.hid ((HB5.out.trans (hb5.mono HB5.out.size)).trans (hb6.mono (HB5.out.trans (hb5.mono HB5.out.size)).size))
            have HR6 := Lib.hid ((HR5.out.kept (Kt.below hb5)).kept (Kt.below hb6))
            have HS6 := Lib.hid ((any hH2.1).kept (Kt.below hb6))
            have HN6 := Lib.hid (((HN5.out.stay hb5).up hb5.size |>.stay hb6).up hb6.size)
            have HM6 := Lib.hid ((hnr2.stay hb6).up hb6.size)
            have hle2 := hnr2.le
            have hmx2 := hnr2.max
            unfold maxLen at hmx2
            have HAL := Lib.hid hal
            have HEQ := Lib.hid heq
            have HNK := Lib.hid (show nkT y1 by rw [hy1]; exact nk_rn _ _ _)
            have HY1 := Lib.hid hy1
            have e4 : ((x.2.length : Int) != (x.2.length : Int)) = false := by simp
            clear c0 c1 c2 c3 c4
            obtain ⟨c0, c1, c2, c3, c4⟩ := cells5 hX6
            obtain ⟨f0, f1, f2, f3, f4⟩ := cells5 hY6
            clear hy hy2 hal heq hy1 hH2 hb5 hX5 hX6 hY6 hb6 HBK HR5 HN5 HMM HGT hnr2 HB5 HXR
            go_wp2
            generalize (w5.alloc (.cells #[.int .i64 (y1.k : Nat), .int .i64 y1.n, .string (bs y1.s), .slice p2 m2 c2', .slice q2 x.2.length d2] 29)) = W6 at *
            clear e4 c0 c1 c2 c3 c4 f0 f1 f2 f3 f4
            go_loopg [11] x.2.length (fun k v11 wq => ∃ j : Nat, k = x.2.length - j ∧ j ≤ x.2.length ∧ v11 = .int .i64 j ∧ Hid (Below W6.heap.size W6 wq))
            case atStart => exact ⟨0, by omega, by omega, rfl, Lib.hid (Below.refl _ _)⟩
            case round =>
              obtain ⟨j, hgj, hj, rfl, HQ⟩ := hrel
              have hXq := (HQ.out.block w1.heap.size (lt_of HX6.out)).trans HX6.out
              have hYq := (HQ.out.block w5.heap.size (lt_of HY6.out)).trans HY6.out
              obtain ⟨c0, c1, c2, c3, c4⟩ := cells5 hXq
              obtain ⟨f0, f1, f2, f3, f4⟩ := cells5 hYq
              by_cases hjl : j < x.2.length
              · have hjl2 : (j : Int) < x.2.length := by omega
                have j4 : (0 : Int) ≤ (j : Int) := by omega
                obtain ⟨g1, o1, hq1, hgl1, d1⟩ := (HN6.out.stay HQ.out).el j hjl
                obtain ⟨g2, o2, hq2, hgl2, d2'⟩ := (HM6.out.stay HQ.out).el j hjl
                subst hq1 hq2
                generalize bs (x.2.getD j []) = zz at *
                have ez : (zz.toList != zz.toList) = false := by simp
                have ez2 : (zz.data.toList != zz.data.toList) = false := by simp
                clear hXq hYq
                go_wp2
                go_quiet (fail)
                go_wp2
                go_roundg (x.2.length - (j + 1))
                case measure => omega
                case rel => exact ⟨j + 1, rfl, by omega, by go_num, Lib.hid (HQ.out.trans (dN _ _ _))⟩
              · have hjl2 : ¬ ((j : Int) < x.2.length) := by omega
                have kal := alike_all x.1 y1 _ _ _ [] _ HR.out.nk HNK.out (HR6.out.kept (Kt.below HQ.out)) (HS6.out.kept (Kt.below HQ.out)) (pw_nil _) (by simpa using HLv.out)
                rw [HY1.out, HAL.out, ← HY1.out] at kal
                unfold ls.tV at kal
                have HB7 := Lib.hid (HB6.out.trans (HQ.out.mono HB6.out.size))
                clear hXq hYq HQ HR6 HS6 HN6 HM6
                go_wp2_with fail
                refine kal.mono ?_
                rintro e w7 ⟨v7, rfl, hp7, hb7⟩
                have HB8 := Lib.hid (HB7.out.trans (hb7.mono HB7.out.size))
                have hp7' : Pw 0 w7 v7 pr := hp7
                have HP7 := Lib.hid hp7'
                have hvs : ∃ pv cv, v7 = .slice pv pr.length cv := by
                  rcases hp7'.shape with ⟨h, h'⟩ | ⟨g, cap, h, _⟩
                  · exact ⟨none, 0, by rw [h, h']; rfl⟩
                  · exact ⟨_, _, h⟩
                obtain ⟨pv, cv, rfl⟩ := hvs
                have hplen : pr.length ≤ 1000000 := by
                  have := (al_len x.1 (rnT x.2 x.1 []).1 []).2
                  rw [HAL.out] at this
                  have := HLv.out
                  simp at *
                  omega
                have HPL := Lib.hid hplen
                clear hb7 hp7 hp7' kal HNK HAL HY1 HLv HB7 c0 c1 c2 c3 c4 f0 f1 f2 f3 f4
                go_wp2
                go_loopg [13, 14] pr.length (fun k v13 v14 wp => ∃ i : Nat, k = pr.length - i ∧ i ≤ pr.length ∧ v13 = .bool true ∧ v14 = .int .i64 i ∧ Hid (Below w7.heap.size w7 wp))
                case atStart => exact ⟨0, by omega, by omega, rfl, rfl, Lib.hid (Below.refl _ _)⟩
                case round =>
                  obtain ⟨i, hgi, hi, rfl, rfl, HZ⟩ := hrel
                  by_cases hlt : i < pr.length
                  · have hlt2 : (i : Int) < pr.length := by omega
                    have i4 : (0 : Int) ≤ (i : Int) := by omega
                    have hpl := HPL.out
                    rcases (HP7.out.stay HZ.out).shape with ⟨_, h'⟩ | ⟨g, cap, h, h', _, hc⟩
                    · rw [h'] at hlt; exact absurd hlt (Nat.not_lt_zero _)
                    · injection h with e1 _ e3
                      subst e1 e3
                      obtain ⟨d1, d2'⟩ := hc i hlt
                      have hq := HEQ.out pr[i] (List.getElem_mem hlt)
                      rw [← hq] at d2'
                      generalize pr[i].1 = zz at d1 d2'
                      have ez : (zz == zz) = true := by simp
                      clear hc hq
                      go_wp2
                      go_quiet (fail)
                      go_wp2
                      go_roundg (pr.length - (i + 1))
                      case measure => omega
                      case rel => exact ⟨i + 1, rfl, by omega, rfl, by go_num, Lib.hid (HZ.out.trans (dN _ _ _))⟩
                  · have hlt2 : ¬ ((i : Int) < pr.length) := by omega
                    go_wp2
                    go_ret
                    exact ⟨rfl, HB8.out.trans (HZ.out.mono HB8.out.size)⟩
    · rw [wrX_no hgd, bs_empty] at e1 ⊢
      clear hgd
      go_wp2
      go_ret
      exact ⟨rfl, HB4.out⟩
end Go.Proofs.Ytpihmockcjdafaa.wr
end
section
/- WriteAtoms: its walk. -/
namespace Go.Proofs.Ytpihmockcjdafaa.wr
open Go.RowKit
open Go.Proofs.Ytpihmockcjdafaa.rd
open Go.Proofs.Ytpihmockcjdafaa.ls (Any any)
open Go.Proofs.Ytpihmockcjdafaa.op (bs strC Both)
open Go.Proofs.Ytpihmockcjdafaa.nm (Fit)
open Go.Proofs.Ytpihmockcjdafaa.lx (Qn GM txT cell_at)
set_option maxRecDepth 20000

/-- an atom, and a term of its name -/
def atT (name : List UInt8) (n : Int) : T := .cmp name [.leaf 2 n [], .leaf 3 0 name]
theorem at_rp {W : World} {g : Nat} {name : List UInt8} {n : Int} (h : W.heap[g]? = some (.cells #[.int .i64 2, .int .i64 n, .string ⟨#[]⟩, .slice none 0 0, .int .i64 3, .int .i64 0, .string (bs name), .slice none 0 0] 24 (0, 0))) :
    Rp Any W (atT name n) (.slice (some ⟨g, 0, none⟩) 2 2) := by
  unfold atT
  rw [Rp]
  refine ⟨[.slice none 0 0, .slice none 0 0], ⟨rfl, .inr ⟨g, 2, _, rfl, Nat.zero_le _, h, Nat.le_refl _, by unfold maxLen; omega, rfl, rfl⟩⟩, fun _ _ => trivial, ?_⟩
  rw [Rps]
  refine ⟨.slice none 0 0, [.slice none 0 0], rfl, by rw [Rp], ?_⟩
  rw [Rps]
  exact ⟨.slice none 0 0, [], rfl, by rw [Rp], by rw [Rps]⟩
theorem at_fx {name : List UInt8} {n : Int} (hn : Fit n) : fxT (atT name n) := by
  unfold atT
  rw [fxT, fxL, fxL, fxL, fxT, fxT]; exact ⟨hn, fit0, trivial⟩
theorem at_nk (name : List UInt8) (n : Int) : nkT (atT name n) := by
  unfold atT
  rw [nkT, nkL, nkL, nkL, nkT, nkT]; exact ⟨by decide, by decide, trivial⟩
theorem at_qn {name : List UInt8} {n : Int} (hl : name.length ≤ 512) : qnU (emb (atT name n)) := by
  unfold atT
  simp only [emb, embL, qnU, qnUL]
  exact ⟨.inl (by omega), ⟨.inl (by simp), trivial⟩, ⟨.inl (by omega), trivial⟩, trivial⟩
theorem at_good {name : List UInt8} {n : Int} : goodU (emb (atT name n)) ↔ lx.quoteS name ≠ [] := by
  unfold goodU atT
  simp only [emb, embL, okU, okUL, szU, szUL]
  constructor
  · rintro ⟨h, _⟩
    rcases h with ⟨h, _⟩ | h | ⟨h, _⟩ | ⟨_, h, _⟩
    · omega
    · omega
    · omega
    · exact h
  · intro h
    refine ⟨.inr (.inr (.inr ⟨trivial, h, by simp, .inr (.inl rfl), .inr (.inr (.inl ⟨rfl, h⟩)), trivial⟩)), ?_⟩
    simp
set_option maxHeartbeats 8000000 in
theorem atoms_w (s : ByteArray) (n : Int) (w : World) (hz : s.size ≤ 9223372036854775807) (hn : Fit n) (hg : GM w) :
    Calls Try.prog 3 #[.string s, .int .i64 n] w fun e w' => e = .returned (.bool true) ∧ Below w.heap.size w w' := by
  by_cases hbig : s.size > 512
  · clear hg
    go_enter Try.func3, Try.ntmps3
    go_wp2
    go_ret
    exact ⟨rfl, Below.refl _ _⟩
  have hb1 : s.size ≤ 512 := by omega
  obtain ⟨name, rfl⟩ : ∃ name, s = bs name := ⟨s.data.toList, (Lib.mk_data s).symm⟩
  have hsl : name.length ≤ 512 := by rw [bs_sz] at hb1; exact hb1
  have hp := lx.heap_pos hg
  have hx1 := heap_alloc_new w (.cells #[.int .i64 2, .int .i64 n, .string ⟨#[]⟩, .slice none 0 0, .int .i64 3, .int .i64 0, .string (bs name), .slice none 0 0] 24)
  have hbA := (Below.refl w.heap.size w).alloc (Nat.le_refl _) (.cells #[.int .i64 2, .int .i64 n, .string ⟨#[]⟩, .slice none 0 0, .int .i64 3, .int .i64 0, .string (bs name), .slice none 0 0] 24)
  have hbB := hbA.alloc hbA.size (.cells #[.int .i64 4, .int .i64 0, .string (bs name), .slice (some ⟨w.heap.size, 0, none⟩) 2 2] 24)
  have hx2 := (Lib.alloc_old _ (.cells #[.int .i64 4, .int .i64 0, .string (bs name), .slice (some ⟨w.heap.size, 0, none⟩) 2 2] 24) _ (lt_of hx1)).trans hx1
  have hy2 := heap_alloc_new (w.alloc (.cells #[.int .i64 2, .int .i64 n, .string ⟨#[]⟩, .slice none 0 0, .int .i64 3, .int .i64 0, .string (bs name), .slice none 0 0] 24)) (.cells #[.int .i64 4, .int .i64 0, .string (bs name), .slice (some ⟨w.heap.size, 0, none⟩) 2 2] 24)
  rw [size_al] at hy2
  have hcase : goodU (emb (atT name n)) ∨ ¬ goodU (emb (atT name n)) := Classical.em _
  have kwr := fun W (h : GM W) h2 => write_c (w := W) h (ru_uV (a := .slice (some ⟨w.heap.size, 0, none⟩) 2 2) (t := atT name n) h2 (at_fx hn)) (at_qn hsl)
  have krr := fun W h2 => rwrite_c (w := W) (ru_uV (a := .slice (some ⟨w.heap.size, 0, none⟩) 2 2) (t := atT name n) h2 (at_fx hn)) (at_qn hsl)
  have kgd := fun W (h : GM W) h2 => good_c (w := W) h (ru_uV (a := .slice (some ⟨w.heap.size, 0, none⟩) 2 2) (t := atT name n) h2 (at_fx hn)) (at_qn hsl)
  have hbox : uV (emb (atT name n)) (.slice (some ⟨w.heap.size, 0, none⟩) 2 2) = .agg #[.int .i64 4, .int .i64 0, .string (bs name), .slice (some ⟨w.heap.size, 0, none⟩) 2 2] := by rw [uV_emb]; rfl
  rw [hbox] at kwr krr kgd
  have kal := fun (u : T) c W h1 h2 h3 => alike_all (atT name n) u (.slice (some ⟨w.heap.size, 0, none⟩) 2 2) c (.slice none 0 0) [] W (at_nk name n) h1 h2 h3 (pw_nil _) (by unfold atT; simp only [lvT, lvL]; decide)
  rw [show ls.tV (atT name n) (.slice (some ⟨w.heap.size, 0, none⟩) 2 2) = .agg #[.int .i64 4, .int .i64 0, .string (bs name), .slice (some ⟨w.heap.size, 0, none⟩) 2 2] from rfl] at kal
  have HX := Lib.hid hx2
  have HY := Lib.hid hy2
  have HB := Lib.hid hbB
  have HG := Lib.hid hg
  have HWR := Lib.hid kwr
  have HRR := Lib.hid krr
  have HGD := Lib.hid kgd
  have HAL := Lib.hid kal
  have hN := bs_sz name
  clear hx1 hx2 hy2 hbA hbB hg kwr krr kgd kal hbox
  rcases hcase with hgd | hgd
  · have hq := at_good.1 hgd
    obtain ⟨hone, pr, hpr⟩ := atoms_back hq hsl hn
    change oneP (txT [] (atT name n)) = .ok (rnT [] (atT name n) []) at hone
    change alT (atT name n) (rnT [] (atT name n) []).1 [] = (pr, true) at hpr
    have hlen := fx_len nm_nil hgd (at_qn hsl) (Ru.fx (ru_uV (at_rp HX.out) (at_fx hn)))
    have hne := tx_ne (nm := []) (emb (atT name n)) hgd.1 (fun n _ => varX_ne n)
    rw [er_emb _ hgd.1] at hlen hne
    have hwx : wrX [] (emb (atT name n)) = txT [] (atT name n) := good_txt hgd
    rw [hwx] at HWR HRR
    rw [decide_eq_true hgd] at HGD
    have ko := fun W => rr.rone_c (bs (txT [] (atT name n))) W (both_t W) (Nat.zero_le _) (by rw [bs_sz]; omega)
    rw [show (bs (txT [] (atT name n))).data.toList = txT [] (atT name n) from rfl, hone] at ko
    have z1 : (bs (txT [] (atT name n))).toList.isEmpty = false := by rw [isE]; simpa using hne
    have z2 : ¬ (bs (txT [] (atT name n))).toList = [] := by rw [ByteArray.toList_eq]; exact hne
    generalize bs (txT [] (atT name n)) = tx at *
    have e1 : (tx.toList != tx.toList) = false := by simp
    have HPR := Lib.hid hpr
    have hnr : Hid (nkT (rnT [] (atT name n) []).1) := Lib.hid (nk_rn _ _ _)
    generalize rnT [] (atT name n) [] = Y at *
    clear hq hone hlen hne hwx hgd hpr
    go_enter Try.func3, Try.ntmps3
    go_wp2_with fail
    refine (HWR.out _ (HG.out.below HB.out hp) (at_rp HX.out)).mono ?_
    rintro e w3 ⟨rfl, hb3⟩
    have HB3 := Lib.hid (HB.out.trans (hb3.mono HB.out.size))
    have HX3 := Lib.hid ((hb3.block _ (lt_of HX.out)).trans HX.out)
    have HY3 := Lib.hid ((hb3.block _ (lt_of HY.out)).trans HY.out)
    obtain ⟨x0, x1, x2, x3, _⟩ := cells4 HY3.out
    clear hb3 HB HX HY
    go_wp2_with fail
    refine (HRR.out _ (at_rp HX3.out)).mono ?_
    rintro e w4 ⟨rfl, hb4⟩
    clear x0 x1 x2 x3
    have HB4 := Lib.hid (HB3.out.trans (hb4.mono HB3.out.size))
    have HX4 := Lib.hid ((hb4.block _ (lt_of HX3.out)).trans HX3.out)
    have HY4 := Lib.hid ((hb4.block _ (lt_of HY3.out)).trans HY3.out)
    obtain ⟨x0, x1, x2, x3, _⟩ := cells4 HY4.out
    clear hb4 HB3 HX3 HY3
    go_wp2_with fail
    refine (HGD.out _ (HG.out.below HB4.out hp) (at_rp HX4.out)).mono ?_
    rintro e w5 ⟨rfl, hb5⟩
    clear x0 x1 x2 x3
    have HB5 := Lib.hid (HB4.out.trans (hb5.mono HB4.out.size))
    have HX5 := Lib.hid ((hb5.block _ (lt_of HX4.out)).trans HX4.out)
    have HY5 := Lib.hid ((hb5.block _ (lt_of HY4.out)).trans HY4.out)
    obtain ⟨x0, x1, x2, x3, _⟩ := cells4 HY5.out
    clear hb5 HB4 HX4 HY4 HWR HRR HGD
    go_wp2_with fail
    refine (ko _).mono ?_
    rintro e w6 ⟨a2, nvs2, rfl, hH2, hb6⟩
    obtain ⟨p2, m2, c2, rfl⟩ := hH2.1.shape
    obtain ⟨q2, n2, d2, rfl⟩ := own_shape hH2.2
    clear x0 x1 x2 x3
    have HB6 := Lib.hid (HB5.out.trans (hb6.mono HB5.out.size))
    have HX6 := Lib.hid ((hb6.block _ (lt_of HX5.out)).trans HX5.out)
    have HY6 := Lib.hid ((hb6.block _ (lt_of HY5.out)).trans HY5.out)
    obtain ⟨x0, x1, x2, x3, _⟩ := cells4 HY6.out
    have hb7 := (Below.refl w6.heap.size w6).alloc (Nat.le_refl _) (.cells #[.int .i64 (Y.1.k : Nat), .int .i64 Y.1.n, .string (bs Y.1.s), .slice p2 m2 c2, .slice q2 n2 d2] 29)
    have hz7 := heap_alloc_new w6 (.cells #[.int .i64 (Y.1.k : Nat), .int .i64 Y.1.n, .string (bs Y.1.s), .slice p2 m2 c2, .slice q2 n2 d2] 29)
    obtain ⟨f0, f1, f2, f3, _⟩ := cells5 hz7
    clear x0 x1 x2 x3
    have HB7 := Lib.hid (HB6.out.trans (hb7.mono HB6.out.size))
    have HX7 := Lib.hid ((hb7.block _ (lt_of HX6.out)).trans HX6.out)
    have HY7 := Lib.hid ((hb7.block _ (lt_of HY6.out)).trans HY6.out)
    obtain ⟨x0, x1, x2, x3, _⟩ := cells4 HY7.out
    have kal := HAL.out Y.1 _ _ hnr.out (at_rp HX7.out) ((any hH2.1).kept (Kt.below hb7))
    rw [HPR.out] at kal
    unfold ls.tV at kal
    clear hb6 hb7 hH2 hz7 ko HB5 HX5 HY5 HB6 HX6 HY6 HAL HPR hnr z1 z2
    go_wp2_with fail
    refine kal.mono ?_
    rintro e w8 ⟨v8, rfl, _, hb8⟩
    have HB8 := Lib.hid (HB7.out.trans (hb8.mono HB7.out.size))
    clear hb8 kal
    go_wp2
    go_ret
    exact ⟨rfl, HB8.out⟩
  · rw [wrX_no hgd, bs_empty] at HWR HRR
    rw [decide_eq_false hgd] at HGD
    clear hgd HAL
    go_enter Try.func3, Try.ntmps3
    go_wp2_with fail
    refine (HWR.out _ (HG.out.below HB.out hp) (at_rp HX.out)).mono ?_
    rintro e w3 ⟨rfl, hb3⟩
    have HB3 := Lib.hid (HB.out.trans (hb3.mono HB.out.size))
    have HX3 := Lib.hid ((hb3.block _ (lt_of HX.out)).trans HX.out)
    have HY3 := Lib.hid ((hb3.block _ (lt_of HY.out)).trans HY.out)
    obtain ⟨x0, x1, x2, x3, _⟩ := cells4 HY3.out
    clear hb3 HB HX HY
    go_wp2_with fail
    refine (HRR.out _ (at_rp HX3.out)).mono ?_
    rintro e w4 ⟨rfl, hb4⟩
    clear x0 x1 x2 x3
    have HB4 := Lib.hid (HB3.out.trans (hb4.mono HB3.out.size))
    have HX4 := Lib.hid ((hb4.block _ (lt_of HX3.out)).trans HX3.out)
    have HY4 := Lib.hid ((hb4.block _ (lt_of HY3.out)).trans HY3.out)
    obtain ⟨x0, x1, x2, x3, _⟩ := cells4 HY4.out
    clear hb4 HB3 HX3 HY3
    go_wp2_with fail
    refine (HGD.out _ (HG.out.below HB4.out hp) (at_rp HX4.out)).mono ?_
    rintro e w5 ⟨rfl, hb5⟩
    clear x0 x1 x2 x3
    have HB5 := Lib.hid (HB4.out.trans (hb5.mono HB4.out.size))
    have HX5 := Lib.hid ((hb5.block _ (lt_of HX4.out)).trans HX4.out)
    have HY5 := Lib.hid ((hb5.block _ (lt_of HY4.out)).trans HY4.out)
    obtain ⟨x0, x1, x2, x3, _⟩ := cells4 HY5.out
    clear hb5 HB4 HX4 HY4 HWR HRR HGD
    go_wp2
    go_ret
    exact ⟨rfl, HB5.out⟩
end Go.Proofs.Ytpihmockcjdafaa.wr
end
