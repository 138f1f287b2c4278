/- The reference's Vars; the law's own sameInts.; The program's Vars: a set of numbers, and their row.; Terms that are read: how many parts they have, which variables; no junk in fields that do not count. Plain lists. -/
import Derived.Test.YtjccohcigopdfaaQ22
import Derived.Maps.OwnSet
import Derived.Test.YtjccohcigopdfaaQ21
import Derived.Test.YtjccohcigopdfaaQ20
import Derived.Test.YtjccohcigopdfaaQ16
set_option linter.unusedVariables false
set_option linter.unusedSimpArgs false
section
/- The reference's Vars; the law's own sameInts. -/
namespace Go.Proofs.Ytjccohcigopdfaa.tm
open Go.RowKit
open Go.Proofs.Ytjccohcigopdfaa.wr
open Go.Proofs.Ytjccohcigopdfaa.rd
open Go.Proofs.Ytjccohcigopdfaa.op (bs strC)
open Go.Proofs.Ytjccohcigopdfaa.lx (cell_at)
open Go.Proofs.Ytjccohcigopdfaa.nm (Fit)
set_option maxRecDepth 20000

set_option maxHeartbeats 2000000 in
theorem sameInts_c {w : World} {v v' : Value} {l m : List Int} (h : Iw 0 w v l) (h' : Iw 0 w v' m) (hl : l.length ≤ 2000000) (hm : m.length ≤ 2000000) :
    Calls Try.prog 19 #[v, v'] w fun e w' => e = .returned (.bool (decide (l = m))) ∧ Below w.heap.size w w' := by
  obtain ⟨p, cap, rfl⟩ := h.sl
  obtain ⟨q, cap', rfl⟩ := h'.sl
  have H := Lib.hid h
  have H' := Lib.hid h'
  generalize hr : decide (l = m) = r
  have HR : Hid (l = m ↔ r = true) := Lib.hid (by rw [← hr]; simp)
  clear h h' hr
  by_cases hlen : l.length = m.length
  · have e4 : ((l.length : Int) != (m.length : Int)) = false := by rw [hlen]; simp
    have e4' : ((l.length : Int) == (m.length : Int)) = true := by rw [hlen]; simp
    have Hlen := Lib.hid hlen
    clear hlen
    go_enter Try.func19, Try.ntmps19
    go_wp2
    clear e4 e4'
    go_loopg [5] l.length (fun k v5 wr => ∃ i : Nat, k = l.length - i ∧ i ≤ l.length ∧ v5 = .int .i64 i ∧ Hid (Below w.heap.size w wr) ∧ Hid (l.take i = m.take i))
    case atStart => exact ⟨0, by omega, by omega, rfl, Lib.hid (Below.refl _ _), Lib.hid rfl⟩
    case round =>
      obtain ⟨i, hgk, hi, rfl, HW, HT⟩ := hrel
      by_cases hlt : i < l.length
      · have hlt2 : (i : Int) < l.length := by omega
        have hlt3 : i < m.length := by have := Hlen.out; omega
        have hlt4 : (i : Int) < m.length := by omega
        have i4 : (0 : Int) ≤ (i : Int) := by omega
        obtain ⟨g, rfl, hcap, c0⟩ : ∃ g, p = some ⟨g, 0, none⟩ ∧ l.length ≤ cap ∧ wr.cell? ⟨g, i, none⟩ = some (.int .i64 l[i]) := by
          rcases (H.out.stay HW.out).shape with ⟨_, e⟩ | ⟨g, cap', e, h1, _, h2⟩
          · rw [e] at hlt; exact absurd hlt (Nat.not_lt_zero _)
          · injection e with e1 _ e3
            exact ⟨g, e1, by rw [e3]; exact h1, h2 i hlt⟩
        obtain ⟨g', rfl, hcap', c1⟩ : ∃ g, q = some ⟨g, 0, none⟩ ∧ m.length ≤ cap' ∧ wr.cell? ⟨g, i, none⟩ = some (.int .i64 m[i]) := by
          rcases (H'.out.stay HW.out).shape with ⟨_, e⟩ | ⟨g, cap', e, h1, _, h2⟩
          · rw [e] at hlt3; exact absurd hlt3 (Nat.not_lt_zero _)
          · injection e with e1 _ e3
            exact ⟨g, e1, by rw [e3]; exact h1, h2 i hlt3⟩
        by_cases he : l[i] = m[i]
        · have e1 : (l[i] != m[i]) = false := by simp [he]
          have HT2 : Hid (l.take (i + 1) = m.take (i + 1)) := Lib.hid (by
            rw [List.take_succ_eq_append_getElem hlt, List.take_succ_eq_append_getElem hlt3, HT.out, he])
          clear he HT
          generalize l[i] = x at *
          generalize m[i] = y at *
          go_wp2
          go_quiet (fail)
          go_wp2
          go_roundg (l.length - (i + 1))
          case measure => omega
          case rel => exact ⟨i + 1, rfl, by omega, by go_num, Lib.hid (HW.out.trans (dN _ _ _)), HT2⟩
        · have e1 : (l[i] != m[i]) = true := by simp [he]
          obtain rfl : r = false := by
            cases r with
            | false => rfl
            | true => have := HR.out.2 rfl; subst this; exact absurd rfl he
          clear he HT HR
          generalize l[i] = x at *
          generalize m[i] = y at *
          go_wp2
          go_quiet (fail)
          go_wp2
          go_ret
          exact ⟨rfl, HW.out.trans (dN _ _ _)⟩
      · have hlt2 : ¬ ((i : Int) < l.length) := by omega
        obtain rfl : r = true := HR.out.1 (by
          have h1 := HT.out
          have h2 := Hlen.out
          rwa [List.take_of_length_le (by omega), List.take_of_length_le (by omega)] at h1)
        go_wp2
        go_ret
        exact ⟨rfl, HW.out⟩
  · have e4 : ((l.length : Int) != (m.length : Int)) = true := bne_iff_ne.2 (by omega)
    obtain rfl : r = false := by
      cases r with
      | false => rfl
      | true => have := HR.out.2 rfl; subst this; exact absurd rfl hlen
    go_enter Try.func19, Try.ntmps19
    go_wp2
    go_ret
    exact ⟨rfl, Below.refl _ _⟩

/-! ### Vars -/
theorem new1 (w : World) (v : Value) : (w.alloc (.cells #[v] 3)).cell? ⟨w.heap.size, 0, none⟩ = some v := by rw [cell_at (heap_alloc_new w _)]; rfl
/-- what the parts add, one behind the other -/
theorem vsL_at {l : List U} {i : Nat} (hi : i < l.length) : vsL (l.drop i) = vsU (l.getD i dfU) ++ vsL (l.drop (i + 1)) := by rw [drop_cons hi, vsL]
theorem addVs_vars (acc : List Int) (u : U) : addVs acc (varsU u) = addVs acc (vsU u) := by
  unfold varsU; rw [addVs_addVs]; rfl
abbrev VarsOk (u : U) : Prop := ∀ (a : Value) (w : World), Ru w.heap.size w u a → szU u ≤ 100000 →
  Calls Try.prog 14 #[uV u a] w fun e w' => ∃ v, e = .returned v ∧ Iw w.heap.size w' v (varsU u) ∧ Below w.heap.size w w'
set_option maxHeartbeats 4000000 in
theorem vars_step (u : U) (ih : ∀ i, i < u.l.length → VarsOk (u.l.getD i dfU)) : VarsOk u := by
  intro a w ha hz
  obtain ⟨p, cap, rfl, _, hP⟩ := ha.parts
  have hl := hP.max
  have hl' := hP.le
  unfold maxLen at hl
  obtain ⟨b0, b1, bz, bb⟩ := box2 w (.cells #[.int .i64 u.k, .int .i64 u.n, .string (bs u.s), .slice p u.l.length cap] 25) (.cells #[] 3)
  have hi0 : Iw (w.heap.size + 1) ((w.alloc (.cells #[.int .i64 u.k, .int .i64 u.n, .string (bs u.s), .slice p u.l.length cap] 25)).alloc (.cells #[] 3)) (.slice (some ⟨w.heap.size + 1, 0, none⟩) 0 0) [] := by
    have := Iw.new (w := w.alloc (.cells #[.int .i64 u.k, .int .i64 u.n, .string (bs u.s), .slice p u.l.length cap] 25))
    rwa [sizeA] at this
  have hV : varsU u = addVs [] (if u.k = 1 then [u.n] else if u.k = 4 then vsL u.l else []) := by rw [varsU, vsU_eq]
  have hS := szU_eq u
  have hsp0 : u.k = 4 → ∀ i, i < u.l.length → szU (u.l.getD i dfU) < szU u := fun h i hi => sz_part h hi
  have HP := Lib.hid hP
  have HB := Lib.hid bb
  have HB0 := Lib.hid b0
  have HI0 := Lib.hid hi0
  have HBz := Lib.hid bz
  have IH := Lib.hid ih
  have hvl := vars_len u
  unfold uV
  clear ha hP ih bb hi0 bz
  by_cases h1 : u.k = 1
  · obtain ⟨x0, x1, x2, x3, _⟩ := cells4 b0
    rw [if_pos h1, addVs_cons, addVs_nil, addV, if_neg (by simp)] at hV
    rw [hV]
    have HI1 := Lib.hid (HI0.out.stay (allocB _ (.cells #[.int .i64 u.n] 3)))
    have hcn := new1 ((w.alloc (.cells #[.int .i64 u.k, .int .i64 u.n, .string (bs u.s), .slice p u.l.length cap] 25)).alloc (.cells #[] 3)) (.int .i64 u.n)
    rw [HBz.out] at hcn
    have HCn := Lib.hid hcn
    have HB1 := Lib.hid (HB.out.alloc (by rw [HBz.out]; omega) (.cells #[.int .i64 u.n] 3))
    generalize hl3 : u.l.length = l at *
    clear hl3 hsp0 IH HP hcn
    generalize bs u.s = s1 at *
    generalize u.n = n1 at *
    generalize u.k = k1 at *
    subst h1
    clear b0 b1
    go_enter Try.func14, Try.ntmps14
    go_wp2_with (at_builtin; refine wpList_i1 rfl _ _ rfl (w.heap.size + 1) _ (.slice (some ⟨w.heap.size + 1, 0, none⟩) 0 0) [] rfl HI1.out (w.heap.size + 1 + 1) 1 n1 rfl HCn.out (by simp) (by simp) ?_; intro g9 c9 w9 hv9 hb9 _; have HV9 := Lib.hid hv9; have HB9 := Lib.hid (HI1.out.grown hb9 (by simp)); clear hv9 hb9)
    go_ret
    exact ⟨_, rfl, HV9.out.mono (by omega), HB1.out.trans (HB9.out.mono (by omega))⟩
  have e1 : (u.k == 1) = false := by simp [h1]
  rw [if_neg h1] at hV
  by_cases h4 : u.k = 4
  · rw [if_pos h4] at hV hS
    have hsp := Lib.hid (fun i hi => Nat.le_trans (Nat.le_of_lt (hsp0 h4 i hi)) hz)
    have hvl2 := vsL_sz u.l
    obtain ⟨x0, x1, x2, x3, _⟩ := cells4 b0
    have hvt := Lib.hid (show (vsL u.l).length ≤ 100000 by omega)
    generalize hl3 : u.l = l at *
    clear hl3 hsp0
    generalize bs u.s = s1 at *
    generalize u.n = n1 at *
    have HV := Lib.hid hV
    generalize varsU u = z at *
    generalize u.k = k1 at *
    subst h4
    clear hV b0 b1 hS hvl hvl2
    go_enter Try.func14, Try.ntmps14
    go_wp2
    clear x0 x1 x2 x3
    generalize World.alloc (World.alloc w _) _ = W at *
    go_loopg [3, 4] l.length (fun k v3 v4 wr => ∃ (i : Nat) (v : Value) (acc : List Int), k = l.length - i ∧ i ≤ l.length ∧ v = v3 ∧ v4 = .int .i64 i ∧ Hid (Below (w.heap.size + 1) W wr) ∧ Hid (Iw (w.heap.size + 1) wr v acc) ∧ Hid (addVs acc (vsL (l.drop i)) = z) ∧ Hid (acc.length + (vsL (l.drop i)).length ≤ 100000))
    case atStart => exact ⟨0, _, [], by omega, by omega, rfl, rfl, Lib.hid (Below.refl _ _), HI0, Lib.hid HV.out.symm, Lib.hid (by have := hvt.out; simpa using this)⟩
    case round =>
      obtain ⟨i, v, acc, hgk, hi, rfl, rfl, HW, HI, HA, HL⟩ := hrel
      have hbo := (HW.out.block w.heap.size (by omega)).trans HB0.out
      obtain ⟨x0, x1, x2, x3, _⟩ := cells4 hbo
      clear hbo
      by_cases hlt : i < l.length
      · have hlt2 : (i : Int) < l.length := by omega
        have i4 : (0 : Int) ≤ (i : Int) := by omega
        have hww : Below w.heap.size w wr := HB.out.trans (HW.out.mono (by omega))
        obtain ⟨g, o, p', c', hpe, hgl, d0, d1, d2, d3, hR⟩ := at_pu (HP.out.stay hww) hlt
        subst hpe
        have kx := IH.out i hlt _ wr (hR.up hww.size) (hsp.out i hlt)
        have h2 := HA.out
        have h3 := HL.out
        rw [vsL_at hlt, addVs_app, ← addVs_vars] at h2
        rw [vsL_at hlt, List.length_append] at h3
        have h5 := addVs_len (vsU (l.getD i dfU)) []
        rw [show addVs [] (vsU (l.getD i dfU)) = varsU (l.getD i dfU) from rfl] at h5
        have HA2 := Lib.hid h2
        have HL2 : Hid (acc.length + (varsU (l.getD i dfU)).length + (vsL (l.drop (i + 1))).length ≤ 100000) := Lib.hid (by simp only [List.length_nil, Nat.zero_add] at h5; omega)
        generalize hzx : varsU (l.getD i dfU) = zx at *
        clear hzx h2 h3 h5
        generalize l.getD i dfU = x at *
        unfold uV at kx
        clear hR hww hsp
        go_wp2_with fail
        refine kx.mono ?_
        rintro en w2 ⟨vx, rfl, hix, hb⟩
        obtain ⟨px, cx, rfl⟩ := hix.sl
        have HIx := Lib.hid hix
        have HW0 := Lib.hid HW.out
        have HW1 := Lib.hid hb
        have HI1 := Lib.hid HI.out
        have HW2 := Lib.hid (HW.out.trans (hb.mono (by have h1 := HW.out.size; have h2 := HBz.out; omega)))
        have HI2 := Lib.hid (HI.out.stay hb)
        clear hb kx hix x0 x1 x2 x3 d0 d1 d2 d3 HI HW HA HL
        go_wp2
        obtain ⟨z0, hz0⟩ : ∃ z0, z0 = wr.heap.size := ⟨_, rfl⟩
        have hwz : Hid (w.heap.size + 1 ≤ z0 ∧ z0 ≤ w2.heap.size) := Lib.hid ⟨by have h1 := HW0.out.size; have h2 := HBz.out; omega, by have := HW1.out.size; omega⟩
        have hob : Hid (∀ k, v.ownBlock = some k → k < z0 ∨ w2.heap.size ≤ k) := Lib.hid fun k hk => .inl (by have := (HI1.out.lt k hk).2; omega)
        have hix2 : Hid (Iw z0 w2 (.slice px zx.length cx) zx) := Lib.hid (by rw [hz0]; exact HIx.out)
        have hac : Hid (acc.length + zx.length ≤ 100000) := Lib.hid (by have := HL2.out; omega)
        have hzl : zx.length ≤ 100000 := by have := hac.out; omega
        clear hz0 HIx HI1 HW0 HW1
        go_loopg [3, 6] zx.length (fun k v3 v6 ws => ∃ (j : Nat) (v : Value) (ac : List Int), k = zx.length - j ∧ j ≤ zx.length ∧ v = v3 ∧ v6 = .int .i64 j ∧ Hid (Below (w.heap.size + 1) W ws) ∧ Hid (w2.heap.size ≤ ws.heap.size ∧ ∀ q, z0 ≤ q → q < w2.heap.size → ws.heap[q]? = w2.heap[q]?) ∧ Hid (Iw (w.heap.size + 1) ws v ac) ∧
          Hid (∀ k, v.ownBlock = some k → k < z0 ∨ w2.heap.size ≤ k) ∧ Hid (addVs ac (zx.drop j) = addVs acc zx) ∧ Hid (ac.length ≤ acc.length + j))
        case atStart => exact ⟨0, v, acc, by omega, by omega, rfl, rfl, HW2, Lib.hid ⟨Nat.le_refl _, fun _ _ _ => rfl⟩, HI2, hob, Lib.hid rfl, Lib.hid (by omega)⟩
        case round =>
          obtain ⟨j, v', ac, hgj, hj, rfl, rfl, HWs, HQ, HIs, HO, HAs, HLs⟩ := hrel
          by_cases hjt : j < zx.length
          · have hjt2 : (j : Int) < zx.length := by omega
            have j4 : (0 : Int) ≤ (j : Int) := by omega
            obtain ⟨g1, rfl, hcap1, c0⟩ : ∃ g, px = some ⟨g, 0, none⟩ ∧ zx.length ≤ cx ∧ wr.cell? ⟨g, j, none⟩ = some (.int .i64 zx[j]) := by
              have hlt := hix2.out.lt
              rcases hix2.out.shape with ⟨_, e⟩ | ⟨g, cap', e, h1, h3, h2⟩
              · rw [e] at hjt; exact absurd hjt (Nat.not_lt_zero _)
              · injection e with e1 _ e3
                refine ⟨g, e1, by rw [e3]; exact h1, ?_⟩
                rw [← h2 j hjt]
                exact World.cell?_of_block (HQ.out.2 g (hlt g (by rw [e1]; rfl)).1 h3)
            have hhas := has_c zx[j] (HIs.out.mono (Nat.zero_le _)) (by have h1 := HLs.out; have h2 := hac.out; omega)
            have h2 := HAs.out
            rw [List.drop_eq_getElem_cons hjt, addVs_cons] at h2
            have hadd : addV ac zx[j] = if zx[j] ∈ ac then ac else ac ++ [zx[j]] := rfl
            by_cases hin : zx[j] ∈ ac
            · have hd : decide (zx[j] ∈ ac) = true := by simp [hin]
              rw [hd] at hhas
              rw [hadd, if_pos hin] at h2
              have HA2 := Lib.hid h2
              clear hin hd hadd h2
              obtain ⟨pv, cv, rfl⟩ := HIs.out.sl
              generalize zx[j] = xj at *
              go_wp2_with fail
              refine hhas.mono ?_
              rintro en w3 ⟨rfl, hw3⟩
              subst hw3
              clear hhas
              go_wp2
              go_roundg (zx.length - (j + 1))
              case measure => omega
              case rel => exact ⟨j + 1, _, ac, rfl, by omega, rfl, by go_num, HWs, HQ, HIs, HO, HA2, Lib.hid (by have := HLs.out; omega)⟩
            · have hd : decide (zx[j] ∈ ac) = false := by simp [hin]
              rw [hd] at hhas
              rw [hadd, if_neg hin] at h2
              have HA2 := Lib.hid h2
              clear hin hd hadd h2
              obtain ⟨pv, cv, rfl⟩ := HIs.out.sl
              generalize zx[j] = xj at *
              have HIa := Lib.hid (HIs.out.stay (allocB _ (.cells #[.int .i64 xj] 3)))
              have HCn := Lib.hid (new1 wr (.int .i64 xj))
              have hlac : Hid (ac.length ≤ 2000000) := Lib.hid (by have h1 := HLs.out; have h2 := hac.out; omega)
              have hbz : Hid (w.heap.size + 1 ≤ wr.heap.size) := Lib.hid (by have h1 := HQ.out.1; have h2 := hwz.out; omega)
              have hbz2 : Hid (w.heap.size + 1 ≤ (wr.alloc (.cells #[.int .i64 xj] 3)).heap.size) := Lib.hid (by rw [sizeA]; have := hbz.out; omega)
              go_wp2_with (first
                | (go_at_call 34; refine hhas.mono ?_; rintro en wr ⟨rfl, hw3⟩; subst hw3; clear hhas)
                | (at_builtin; refine wpList_i1 rfl _ _ rfl (w.heap.size + 1) _ (.slice pv ac.length cv) ac rfl HIa.out wr.heap.size 1 xj rfl HCn.out hlac.out hbz2.out ?_; intro g9 c9 w9 hv9 hb9 ha9; have HV9 := Lib.hid hv9; have HG9 := Lib.hid hb9; have HA9 := Lib.hid ha9; clear hv9 hb9 ha9))
              go_roundg (zx.length - (j + 1))
              case measure => omega
              case rel =>
                refine ⟨j + 1, _, ac ++ [xj], rfl, by omega, rfl, by go_num, Lib.hid ?_, Lib.hid ⟨?_, fun q hq1 hq2 => ?_⟩, HV9, Lib.hid fun k hk => ?_, HA2, Lib.hid ?_⟩
                · exact HWs.out.trans (((allocB wr _).mono hbz.out).trans (HIa.out.grown HG9.out hbz2.out))
                · have h1 := HG9.out.size; have h2 := HQ.out.1; rw [sizeA] at h1; omega
                · have h1 := HQ.out.1
                  rw [HG9.out.block q (by rw [sizeA]; omega) (fun e => by have := HO.out q e.symm; omega), Lib.alloc_old wr _ q (by omega)]
                  exact HQ.out.2 q hq1 hq2
                · have h1 := HQ.out.1
                  rcases HA9.out with h | h
                  · exact HO.out k (by rw [h]; exact hk)
                  · rw [sizeA] at h
                    have : g9 = k := by injection hk
                    right; omega
                · have := HLs.out; simp; omega
          · have hjt2 : ¬ ((j : Int) < zx.length) := by omega
            have h2 := HAs.out
            rw [List.drop_eq_nil_of_le (by omega), addVs_nil] at h2
            go_wp2
            go_roundg (l.length - (i + 1))
            case measure => omega
            case rel => exact ⟨i + 1, v', ac, rfl, by omega, rfl, by go_num, HWs, HIs, Lib.hid (by rw [h2]; exact HA2.out), Lib.hid (by have h1 := HLs.out; have h2 := HL2.out; omega)⟩
      · have hlt2 : ¬ ((i : Int) < l.length) := by omega
        have hz2 : acc = z := by have := HA.out; rw [List.drop_eq_nil_of_le (by omega), vsL, addVs_nil] at this; exact this
        subst hz2
        go_wp2
        go_ret
        exact ⟨_, rfl, HI.out.mono (by omega), HB.out.trans (HW.out.mono (by omega))⟩
  · rw [if_neg h4, addVs_nil] at hV
    have e4 : (u.k == 4) = false := by simp [h4]
    rw [hV]
    generalize u.k = k1 at *
    generalize u.l = l at *
    clear hS hsp0 IH HP hV hvl
    obtain ⟨x0, x1, x2, x3, _⟩ := cells4 b0
    clear b0 b1
    go_enter Try.func14, Try.ntmps14
    go_wp2
    clear x0 x1 x2 x3
    generalize World.alloc (World.alloc w _) _ = W at *
    go_loopg [3, 4] 0 (fun k v3 v4 wr => v3 = .slice (some ⟨w.heap.size + 1, 0, none⟩) 0 0 ∧ v4 = .int .i64 0 ∧ Hid (Below W.heap.size W wr))
    case atStart => exact ⟨rfl, rfl, Lib.hid (Below.refl _ _)⟩
    case round =>
      obtain ⟨rfl, rfl, HW⟩ := hrel
      have hbo := (HW.out.block w.heap.size (by have := HBz.out; omega)).trans HB0.out
      obtain ⟨x0, x1, x2, x3, _⟩ := cells4 hbo
      clear hbo
      go_wp2
      go_ret
      exact ⟨_, rfl, (HI0.out.stay HW.out).mono (by omega), HB.out.trans (HW.out.mono HB.out.size)⟩
theorem rvars_c (u : U) : VarsOk u := all_parts (P := VarsOk) vars_step u
end Go.Proofs.Ytjccohcigopdfaa.tm
end
section
/- The program's Vars: a set of numbers, and their row. -/
namespace Go.Proofs.Ytjccohcigopdfaa.tm
open Go.RowKit
open Go.Shelf
open Go.Proofs.Ytjccohcigopdfaa.wr
open Go.Proofs.Ytjccohcigopdfaa.rd
open Go.Proofs.Ytjccohcigopdfaa.op (bs strC)
open Go.Proofs.Ytjccohcigopdfaa.lx (cell_at)
open Go.Proofs.Ytjccohcigopdfaa.nm (Fit)
set_option maxRecDepth 20000

/-! ### sets -/
theorem kint : Maps.Keyed Try.prog 3 := Maps.int_keyed Try.underlying3
theorem zeroS (w : World) : (zeroValue 57).run Try.prog w = .ok (.agg #[]) w := by kernel_rfl
theorem wf_fit {n : Int} (h : Fit n) : (Lit.int .i64 n).wf = true := by
  unfold Fit at h
  simp [Lit.wf, IntKind.min, IntKind.max, IntKind.signed, IntKind.bits]
  omega
theorem key_fit {n : Int} (h : Fit n) : keyOf Try.prog 3 (.int .i64 n) = some (.int .i64 n) := Maps.keyOf_int_mk Try.underlying3 (wf_fit h)
/-- block b is a set of these numbers -/
def Sw (w : World) (b n : Nat) (l : List Int) : Prop := ∃ D : DataW Unit, w.ownsMap Try.prog 3 unitElem b n D ∧ ∀ x, Maps.has D (.int .i64 x) = decide (x ∈ l)
theorem Sw.keep {w w' : World} {b n : Nat} {l : List Int} (h : Sw w b n l) (hb : w'.heap[b]? = w.heap[b]?) : Sw w' b n l := by
  obtain ⟨D, ⟨es, clock, h1, r⟩, h2⟩ := h
  exact ⟨D, ⟨es, clock, by rw [hb]; exact h1, r⟩, h2⟩
theorem Sw.mono {w : World} {b n m : Nat} {l : List Int} (h : Sw w b n l) (hm : n ≤ m) : Sw w b m l := by
  obtain ⟨D, h1, h2⟩ := h
  exact ⟨D, h1.mono hm, h2⟩
theorem Sw.lt {w : World} {b n : Nat} {l : List Int} (h : Sw w b n l) : b < w.heap.size := by obtain ⟨D, h1, h2⟩ := h; exact h1.lt
theorem Sw.new (w : World) : Sw (w.alloc (.map #[] 0)) w.heap.size 0 [] := ⟨.map [], World.ownsMap_made _ _ _ _, fun _ => rfl⟩
theorem has_put {D : DataW Unit} {l : List Int} (hD : Maps.IsMap D) (h : ∀ x, Maps.has D (.int .i64 x) = decide (x ∈ l)) (n x : Int) : Maps.has (D.put (.int .i64 n) (.agg [])) (.int .i64 x) = decide (x ∈ l ++ [n]) := by
  by_cases hx : x = n
  · subst hx
    rw [Maps.has_put_same (k := .int .i64 x) hD trivial]
    simp
  · rw [Maps.has_put_other (fun e => hx (by injection e)), h]
    simp [hx]
theorem Iw.keep {B : Nat} {w w' : World} {v : Value} {l : List Int} (h : Iw B w v l) (hk : ∀ k, v.ownBlock = some k → w'.heap[k]? = w.heap[k]?) : Iw B w' v l :=
  own_keptD (D := fun k => v.ownBlock = some k) h (fun _ hg => hg) (fun k cs fr hd he => by rw [hk k hd]; exact he)

/-! ### what is told -/
/-- the boxes of the row and of the set, the set, the row in blocks from N + 4 on -/
structure Vs (lb sb mb N : Nat) (acc : List Int) (w : World) : Prop where
  row : ∃ v, w.heap[lb]? = some (.cells #[v] 31 (0, 0)) ∧ Iw (N + 4) w v acc
  box : w.heap[sb]? = some (.cells #[.map (some mb)] 56 (0, 0))
  set : Sw w mb acc.length acc
theorem Vs.keep {lb sb mb N : Nat} {acc : List Int} {w w' : World} (h : Vs lb sb mb N acc w) (hl2 : lb < N) (hs2 : sb < N) (hm2 : mb < N) (hF : Fx (fun k => N ≤ k ∧ k < N + 4) w w') : Vs lb sb mb N acc w' := by
  obtain ⟨⟨v, hrow, hI⟩, hbox, hset⟩ := h
  exact ⟨⟨v, by rw [hF.block lb (lt_of hrow) (fun e => by omega)]; exact hrow, hI.keep fun k hk => hF.block k (hI.lt k hk).2 (fun e => by have := (hI.lt k hk).1; omega)⟩,
      by rw [hF.block sb (lt_of hbox) (fun e => by omega)]; exact hbox, hset.keep (hF.block mb hset.lt (fun e => by omega))⟩
theorem Iw.type {B k : Nat} {w : World} {v : Value} {l : List Int} (h : Iw B w v l) (hv : v.ownBlock = some k) : ∃ cs fr, w.heap[k]? = some (.cells cs 3 fr) := by
  rcases (show w.ownsRow B 3 1 v l.length (l.map (Value.int .i64)) from h).2 with ⟨e1, _⟩ | ⟨g, cap, cur, e1, _, e3, _⟩
  · rw [e1] at hv; cases hv
  · rw [e1] at hv; cases hv; exact ⟨_, _, e3⟩
theorem frz {w : World} {k j : Nat} {cs : Array Value} {t : TypeId} (h : w.heap[k]? = some (.cells cs t (0, 0))) : w.frozen? ⟨k, j, none⟩ = false := by simp [World.frozen?, h]
theorem und_set : Try.prog.underlying 56 = some (.map 3 57) := Try.underlying56
set_option maxHeartbeats 4000000 in
theorem vars1_c {lb sb mb b N : Nat} (hl : b ≤ lb) (hm : b ≤ mb) (hl2 : lb < N) (hs2 : sb < N) (hm2 : mb < N) (h1 : lb ≠ sb) (h2 : lb ≠ mb) (h3 : sb ≠ mb) :
    TellOk 36 #[.pointer (some ⟨sb, 0, none⟩), .pointer (some ⟨lb, 0, none⟩)] (fun k => k = lb ∨ k = mb) (Vs lb sb mb N) (fun m acc => acc.length ≤ m) addU b N where
  call u a d m acc w hd hm4 hp hst ha hw := by
    obtain ⟨p, cap, rfl, hfit, hP⟩ := ha.parts
    obtain ⟨⟨v, hrow, hI⟩, hbox, hset⟩ := hst
    have b0 := heap_alloc_new w (.cells #[.int .i64 u.k, .int .i64 u.n, .string (bs u.s), .slice p u.l.length cap] 25)
    have hB := allocB w (.cells #[.int .i64 u.k, .int .i64 u.n, .string (bs u.s), .slice p u.l.length cap] 25)
    have hke : addU u d acc = if u.k = 1 then addV acc u.n else acc := rfl
    by_cases hk : u.k = 1
    · rw [if_pos hk] at hke
      have hadd : addV acc u.n = if u.n ∈ acc then acc else acc ++ [u.n] := rfl
      rw [hke]
      have hV : Hid (Vs lb sb mb N acc w) := Lib.hid ⟨⟨v, hrow, hI⟩, hbox, hset⟩
      have hkey := key_fit hfit
      obtain ⟨D, hD, hhas⟩ := hset
      have hDt := Lib.hid (World.ownsMap.isMap hD)
      have hD0 : Hid ((w.alloc (.cells #[.int .i64 u.k, .int .i64 u.n, .string (bs u.s), .slice p u.l.length cap] 25)).ownsMap Try.prog 3 unitElem mb acc.length D) := Lib.hid (World.ownsMap.alloc hD _)
      have hhn := hhas u.n
      have Hhas := Lib.hid hhas
      obtain ⟨x0, x1, x2, x3, _⟩ := cells4 b0
      have s0 : (w.alloc (.cells #[.int .i64 u.k, .int .i64 u.n, .string (bs u.s), .slice p u.l.length cap] 25)).cell? ⟨sb, 0, none⟩ = some (.map (some mb)) := by rw [cell_at ((hB.block sb (lt_of hbox)).trans hbox)]; rfl
      have HB := Lib.hid hB
      have HB0 := Lib.hid b0
      have HP4 := Lib.hid hp
      unfold uV
      generalize u.n = nn at *
      generalize bs u.s = ss at *
      generalize u.l.length = ll at *
      generalize u.k = kk at *
      subst hk
      by_cases hin : nn ∈ acc
      · rw [hadd, if_pos hin]
        have hh : Maps.has D (.int .i64 nn) = true := by rw [hhn]; simp [hin]
        clear ha hP hI hrow hbox hD hhas hhn hadd hB b0 hin hke hp
        show Calls Try.prog _ #[_, _, _, _] w _
        go_enter Try.func36, Try.ntmps36
        go_wp2_with (at_lookup; refine wpList_lookup_own_unit _ rfl _ _ 56 rfl 3 57 kint und_set (zeroS _) mb acc.length D rfl hD0.out _ _ rfl hkey ?_; rw [hh])
        go_end0
        exact ⟨rfl, hV.out.keep hl2 hs2 hm2 (Fx.of (HB.out.alloc (by simp) _)), by have := HP4.out; omega, Fx.fi (Fx.of (HB.out.alloc (by simp) _))⟩
      · rw [hadd, if_neg hin]
        have hh : Maps.has D (.int .i64 nn) = false := by rw [hhn]; simp [hin]
        have hI0 := Lib.hid hI
        have hbk : Hid (∀ k, k < w.heap.size → k ≠ mb → ∀ w1, ((w.alloc (.cells #[.int .i64 1, .int .i64 nn, .string ss, .slice p ll cap] 25)).alloc (.cells #[] 57)).grownBy w1 (some mb) → w1.heap[k]? = w.heap[k]?) := Lib.hid fun k hk hkm w1 hg => by
          rw [hg.block k (by rw [sizeA, sizeA]; omega) (fun e => hkm (by injection e)), Lib.alloc_old _ _ _ (by rw [sizeA]; omega), Lib.alloc_old _ _ _ hk]
        have hbx : Hid (∀ w1, ((w.alloc (.cells #[.int .i64 1, .int .i64 nn, .string ss, .slice p ll cap] 25)).alloc (.cells #[] 57)).grownBy w1 (some mb) → w1.heap[w.heap.size]? = some (.cells #[.int .i64 1, .int .i64 nn, .string ss, .slice p ll cap] 25 (0, 0))) := Lib.hid fun w1 hg => by
          rw [hg.block _ (by rw [sizeA, sizeA]; omega) (fun e => by injection e; omega), Lib.alloc_old _ _ _ (by rw [sizeA]; omega)]
          exact HB0.out
        have Hrow := Lib.hid hrow
        have Hbox := Lib.hid hbox
        have hD1 := Lib.hid (World.ownsMap.alloc hD0.out (.cells #[] 57))
        have hml : Hid (acc.length < maxLen) := Lib.hid (by unfold maxLen; omega)
        have hl20 : Hid (acc.length ≤ 2000000) := Lib.hid (by omega)
        have s1 : ((w.alloc (.cells #[.int .i64 1, .int .i64 nn, .string ss, .slice p ll cap] 25)).alloc (.cells #[] 57)).cell? ⟨sb, 0, none⟩ = some (.map (some mb)) := by
          rw [cell_at (((Lib.alloc_old _ _ _ (by rw [sizeA]; omega)).trans (hB.block sb (lt_of hbox))).trans hbox)]; rfl
        have y1 : ((w.alloc (.cells #[.int .i64 1, .int .i64 nn, .string ss, .slice p ll cap] 25)).alloc (.cells #[] 57)).cell? ⟨w.heap.size, 1, none⟩ = some (.int .i64 nn) := by
          rw [cell_at ((Lib.alloc_old _ _ _ (by rw [sizeA]; omega)).trans b0)]; rfl
        have hN4 : Hid (N + 4 ≤ w.heap.size) := Lib.hid (by omega)
        clear ha hP hI hrow hbox hD hhas hhn hadd hB b0 hin hke hp
        show Calls Try.prog _ #[_, _, _, _] w _
        go_enter Try.func36, Try.ntmps36
        go_wp2_with (first
          | (at_lookup; refine wpList_lookup_own_unit _ rfl _ _ 56 rfl 3 57 kint und_set (zeroS _) mb acc.length D rfl hD0.out _ _ rfl hkey ?_; rw [hh])
          | (at_mapUpdate; refine wpList_mapUpdate_own _ rfl _ _ _ 56 rfl 3 57 kint und_set (unitElem (H := Unit)) mb acc.length D rfl hD1.out hml.out _ _ _ rfl rfl hkey (.agg []) [] unitElem_mk ?_; intro w1 hown1 hgrow1; have HO1 := Lib.hid hown1; have HG1 := Lib.hid hgrow1; have HX := Lib.hid (hbx.out w1 hgrow1); obtain ⟨z0, z1, z2, z3, _⟩ := cells4 (hbx.out w1 hgrow1); have HL := Lib.hid ((hbk.out lb (lt_of Hrow.out) h2 w1 hgrow1).trans Hrow.out); have l1 : w1.cell? ⟨lb, 0, none⟩ = some v := (cell_at HL.out 0).trans rfl; have HI1 : Hid (Iw (N + 4) (w1.alloc (.cells #[.int .i64 nn] 3)) v acc) := Lib.hid ((hI0.out.keep fun k hk => hbk.out k (hI0.out.lt k hk).2 (fun e => by have := (hI0.out.lt k hk).1; omega) w1 hgrow1).stay (allocB _ _)); have HC1 := Lib.hid (new1 w1 (.int .i64 nn)); have HZ1 : Hid (N + 4 ≤ (w1.alloc (.cells #[.int .i64 nn] 3)).heap.size) := Lib.hid (by rw [sizeA]; have := (lt_of HX.out); have := hN4.out; omega); have hL9 : Hid (∀ w9, (w1.alloc (.cells #[.int .i64 nn] 3)).grownBy w9 v.ownBlock → w9.heap[lb]? = some (.cells #[v] 31 (0, 0))) := Lib.hid (fun w9 hb9 => ((hb9.block lb (by rw [sizeA]; have := lt_of HL.out; omega) (fun e => by have := (HI1.out.lt lb e.symm).1; omega)).trans (Lib.alloc_old _ _ _ (lt_of HL.out))).trans HL.out); clear hown1 hgrow1)
          | (at_builtin; refine wpList_i1 rfl _ _ rfl (N + 4) _ v acc rfl HI1.out w1.heap.size 1 nn rfl HC1.out hl20.out HZ1.out ?_; intro g9 c9 w9 hv9 hb9 ha9; have HV9 := Lib.hid hv9; have HG9 := Lib.hid hb9; have HL9 := Lib.hid (hL9.out w9 hb9); have c9c : w9.cell? ⟨lb, 0, none⟩ = some v := (cell_at HL9.out 0).trans rfl; have f9 := frz (j := 0) HL9.out; clear hv9 hb9 ha9))
        go_end0
        have hz1 : w.heap.size < w1.heap.size := lt_of HX.out
        have hk9 : ∀ k, k < w.heap.size → k ≠ lb → k ≠ mb → v.ownBlock ≠ some k → (w9.setCell ⟨lb, 0, none⟩ (.slice (some ⟨g9, 0, none⟩) (acc.length + 1) c9)).heap[k]? = w.heap[k]? := fun k hk h1 h2 h3 => by
          rw [Below.heap_setCell _ _ _ _ (by show k ≠ lb; exact h1), HG9.out.block k (by rw [sizeA]; omega) (fun e => h3 e.symm), Lib.alloc_old _ _ _ (by omega)]
          exact hbk.out k hk h2 w1 HG1.out
        refine ⟨rfl, ⟨⟨_, by rw [heap_set_at HL9.out]; rfl, ?_⟩, ?_, ?_⟩, by have := HP4.out; simp; omega, ?_⟩
        · exact HV9.out.keep fun k hk => Below.heap_setCell _ _ _ _ (by show k ≠ lb; have := (HV9.out.lt k hk).1; omega)
        · rw [hk9 sb (lt_of Hbox.out) (by omega) h3 (fun e => by have := (hI0.out.lt sb e).1; omega)]; exact Hbox.out
        · have hm1 := HO1.out
          refine ⟨_, ?_, has_put hDt.out Hhas.out nn⟩
          rw [List.length_append, List.length_singleton]
          obtain ⟨es, clock, hb, r⟩ := hm1
          refine ⟨es, clock, ?_, r⟩
          have hm3 := lt_of hb
          rw [Below.heap_setCell _ _ _ _ (by show mb ≠ lb; omega), HG9.out.block mb (by rw [sizeA]; omega) (fun e => by have := (HI1.out.lt mb e.symm).1; omega), Lib.alloc_old _ _ _ hm3]
          exact hb
        · refine ⟨?_, ?_, ?_, ?_, fun k hk hn hor => ?_⟩
          · exact (HG9.out.os.trans (HG1.out.os))
          · exact (HG9.out.tape.trans (HG1.out.tape))
          · exact (HG9.out.output.trans (HG1.out.output))
          · have := HG9.out.size; rw [sizeA] at this; simp [World.setCell]; omega
          · refine hk9 k hk (fun e => hn (.inl e)) (fun e => hn (.inr e)) fun e => ?_
            obtain ⟨cs, fr, ht⟩ := hI0.out.type e
            rcases hor with h | h
            · have := (hI0.out.lt k e).1; omega
            · exact h cs fr ht
    · rw [if_neg hk] at hke
      rw [hke]
      have hV : Hid (Vs lb sb mb N acc w) := Lib.hid ⟨⟨v, hrow, hI⟩, hbox, hset⟩
      obtain ⟨x0, x1, x2, x3, _⟩ := cells4 b0
      have HB := Lib.hid hB
      have HP4 := Lib.hid hp
      have e1 : (u.k != 1) = true := by simp [hk]
      unfold uV
      generalize u.n = nn at *
      generalize bs u.s = ss at *
      generalize u.l.length = ll at *
      generalize u.k = kk at *
      clear ha hP hI hrow hbox hset hB b0 hke hp
      show Calls Try.prog _ #[_, _, _, _] w _
      go_enter Try.func36, Try.ntmps36
      go_wp2
      refine bodyPost_ret (results_none rfl _ _ _) rfl ?_
      exact ⟨rfl, hV.out.keep hl2 hs2 hm2 (Fx.of HB.out), by have := HP4.out; omega, Fx.fi (Fx.of HB.out)⟩
  keep acc w w' h hn hF := h.keep hl2 hs2 hm2 hF
  own k hk := by rcases hk with rfl | rfl; exact ⟨hl, hl2⟩; exact ⟨hm, hm2⟩
  bn := by omega
  enters := enters_of Try.func36 (by kernel_rfl) rfl
set_option maxHeartbeats 4000000 in
theorem vars_c {u : U} {a : Value} {w : World} (ha : Ru w.heap.size w u a) (hz : szU u ≤ 4000) :
    Calls Try.prog 20 #[uV u a] w fun e w' => ∃ v, e = .returned v ∧ Iw w.heap.size w' v (varsU u) ∧ Below w.heap.size w w' := by
  obtain ⟨p, cap, rfl, _, hP⟩ := ha.parts
  have hmf : ∀ (fn : Fn) (first cap : Array Value) (w : World), (Instr.makeFunc fn first cap).run Try.prog w = .ok (.func fn first cap) w := fun _ _ _ _ => rfl
  have hmm := @run_makeMap Try.prog
  have kx : ∀ W2, W2 = ((((w.alloc (.cells #[.int .i64 u.k, .int .i64 u.n, .string (bs u.s), .slice p u.l.length cap] 25)).alloc (.cells #[.slice none 0 0] 31)).alloc (.map #[] 0)).alloc (.cells #[.map (some (w.heap.size + 1 + 1))] 56)) →
      Below w.heap.size w W2 ∧ W2.heap[w.heap.size]? = some (.cells #[.int .i64 u.k, .int .i64 u.n, .string (bs u.s), .slice p u.l.length cap] 25 (0, 0)) ∧ Calls Try.prog 29 #[uV u (.slice p u.l.length cap), .func (.func 36) #[] #[.pointer (some ⟨w.heap.size + 1 + 1 + 1, 0, none⟩), .pointer (some ⟨w.heap.size + 1, 0, none⟩)]] W2
        fun e w' => e = .returned (.tuple #[]) ∧ Vs (w.heap.size + 1) (w.heap.size + 1 + 1 + 1) (w.heap.size + 1 + 1) W2.heap.size (fdU addU 1 u []) w' ∧ (fdU addU 1 u []).length ≤ szU u ∧ Fi (fun k => k = w.heap.size + 1 ∨ k = w.heap.size + 1 + 1) (W2.heap.size + 4) W2 w' := by
    rintro W2 rfl
    have hb : Below w.heap.size w _ := (((allocB w (.cells #[.int .i64 u.k, .int .i64 u.n, .string (bs u.s), .slice p u.l.length cap] 25)).alloc (by simp) (.cells #[.slice none 0 0] 31)).alloc (by simp; omega) (.map #[] 0)).alloc (by simp; omega) (.cells #[.map (some (w.heap.size + 1 + 1))] 56)
    refine ⟨hb, ?_, each_c (vars1_c (b := w.heap.size) (by omega) (by omega) (by simp) (by simp) (by simp) (by omega) (by omega) (by omega)) (ha.stay hb) hz (x := []) ⟨⟨.slice none 0 0, ?_, World.ownsRow_nil _ _ _ _⟩, ?_, ?_⟩ (Nat.zero_le _)⟩
    · rw [Lib.alloc_old _ _ _ (by simp <;> omega), Lib.alloc_old _ _ _ (by simp <;> omega), Lib.alloc_old _ _ _ (by simp <;> omega)]
      exact heap_alloc_new _ _
    · rw [Lib.alloc_old _ _ _ (by simp <;> omega), Lib.alloc_old _ _ _ (by simp <;> omega)]
      have := heap_alloc_new (w.alloc (.cells #[.int .i64 u.k, .int .i64 u.n, .string (bs u.s), .slice p u.l.length cap] 25)) (.cells #[.slice none 0 0] 31)
      rwa [sizeA] at this
    · have := heap_alloc_new (((w.alloc (.cells #[.int .i64 u.k, .int .i64 u.n, .string (bs u.s), .slice p u.l.length cap] 25)).alloc (.cells #[.slice none 0 0] 31)).alloc (.map #[] 0)) (.cells #[.map (some (w.heap.size + 1 + 1))] 56)
      rwa [sizeA, sizeA, sizeA] at this
    · have := Sw.new ((w.alloc (.cells #[.int .i64 u.k, .int .i64 u.n, .string (bs u.s), .slice p u.l.length cap] 25)).alloc (.cells #[.slice none 0 0] 31))
      rw [sizeA, sizeA] at this
      exact this.keep (Lib.alloc_old _ _ _ (by simp))
  obtain ⟨hb, hx0, kx⟩ := kx _ rfl
  rw [fd_vs] at kx
  have HB := Lib.hid hb
  obtain ⟨x0, x1, x2, x3, _⟩ := cells4 hx0
  unfold uV at kx ⊢
  clear ha hP hb hx0
  go_enter Try.func20, Try.ntmps20
  go_wp2_with fail
  refine kx.mono ?_
  rintro e w2 ⟨rfl, hst, _, hF⟩
  obtain ⟨⟨v, hrow, hI⟩, _, _⟩ := hst
  have c0 : w2.cell? ⟨w.heap.size + 1, 0, none⟩ = some v := (cell_at hrow 0).trans rfl
  have HI : Hid (Iw w.heap.size w2 v (varsU u)) := Lib.hid (hI.mono (by have := HB.out.size; omega))
  have HB2 : Hid (Below w.heap.size w w2) := Lib.hid (HB.out.trans (hF.below (b := w.heap.size) HB.out.size (by have := HB.out.size; omega) (fun k hk => by omega)))
  clear kx hI hF x0 x1 x2 x3 hrow
  go_wp2
  go_ret
  exact ⟨v, rfl, HI.out, HB2.out⟩
end Go.Proofs.Ytjccohcigopdfaa.tm
end
section
/- Terms that are read: how many parts they have, which variables; no junk in fields that do not count. Plain lists. -/
namespace Go.Proofs.Ytjccohcigopdfaa.tm
open Go.Proofs.Ytjccohcigopdfaa.wr
open Go.Proofs.Ytjccohcigopdfaa.rd
open Go.Proofs.Ytjccohcigopdfaa.op (progI progP bs)
open Go.Proofs.Ytjccohcigopdfaa.nm (Fit)
open Go.Proofs.Ytjccohcigopdfaa.tx (parseV parseE)
set_option maxRecDepth 20000

mutual
def szT : T → Nat
  | .leaf _ _ _ => 1
  | .cmp _ l => 1 + szTL l
def szTL : List T → Nat
  | [] => 0
  | t :: l => szT t + szTL l
end
mutual
def gzT (N : Nat) : T → Prop
  | .leaf k n s => (k = 1 ∧ 0 ≤ n ∧ n ≤ (N : Int) ∧ s = []) ∨ (k = 2 ∧ Fit n ∧ s = []) ∨ (k = 3 ∧ n = 0)
  | .cmp _ l => gzTL N l
def gzTL (N : Nat) : List T → Prop
  | [] => True
  | t :: l => gzT N t ∧ gzTL N l
end
section
variable {N : Nat}
theorem gzTL_app {l m : List T} (h : gzTL N l) (k : gzTL N m) : gzTL N (l ++ m) := by
  induction l with
  | nil => exact k
  | cons t l ih => rw [gzTL] at h; rw [List.cons_append, gzTL]; exact ⟨h.1, ih h.2⟩
theorem gzTL_one {t : T} (h : gzT N t) : gzTL N [t] := by rw [gzTL, gzTL]; exact ⟨h, trivial⟩
theorem gzTL_two {t u : T} (h : gzT N t) (k : gzT N u) : gzTL N [t, u] := by rw [gzTL]; exact ⟨h, gzTL_one k⟩
theorem szTL_app (l m : List T) : szTL (l ++ m) = szTL l + szTL m := by
  induction l with
  | nil => rw [szTL]; simp
  | cons t l ih => rw [List.cons_append, szTL, szTL, ih]; omega
theorem szTL_one (t : T) : szTL [t] = szT t := by rw [szTL, szTL]; omega
theorem gz_atom (s : List UInt8) : gzT N (.leaf 3 0 s) := by rw [gzT]; exact .inr (.inr ⟨rfl, rfl⟩)
theorem gz_cons {l : List T} {r : T} (hl : gzTL N l) (hr : gzT N r) : gzT N (consAll l r) := by
  induction l with
  | nil => exact hr
  | cons t l ih =>
    rw [gzTL] at hl
    show gzT N (.cmp [46] [t, consAll l r])
    rw [gzT]
    exact gzTL_two hl.1 (ih hl.2)
theorem sz_cons (l : List T) (r : T) : szT (consAll l r) = l.length + szTL l + szT r := by
  induction l with
  | nil => show szT r = _; rw [szTL]; simp
  | cons t l ih =>
    show szT (.cmp [46] [t, consAll l r]) = _
    rw [szT, szTL, szTL_one, ih, List.length_cons, szTL]; omega
theorem szT_pos (t : T) : 1 ≤ szT t := by cases t <;> rw [szT] <;> omega
end
/-- what comes of a state: its parts no more than the tokens gone, and c -/
def Gz {α : Type} (N : Nat) (sz : α → Nat) (ok : α → Prop) (c : Nat) (s : St) (x : Res α) : Prop :=
  s.2.length + s.1.length ≤ N → ∀ v s1, x = .ok (v, s1) → ok v ∧ sz v + s1.1.length ≤ c + s.1.length ∧ s1.2.length + s1.1.length ≤ N
def Gzw (N : Nat) (w : W) : Prop := ∀ most s, Gz N szT (gzT N) 0 s (w most s)
theorem nx_cons {l : List K} (h : (nx l).kind ≠ 0) : l.length = l.tail.length + 1 := by
  cases l with
  | nil => exact absurd rfl h
  | cons k l => simp
theorem isM_kind {k : K} {m : List UInt8} (h : isM k m = true) : k.kind = 5 := by unfold isM at h; simp at h; exact h.1
theorem isM_cons {l : List K} {m : List UInt8} (h : isM (nx l) m = true) : l.length = l.tail.length + 1 := nx_cons (by rw [isM_kind h]; decide)
theorem expect_z {m : List UInt8} {s s1 : St} (h : expectP m s = .ok s1) : s1.2 = s.2 ∧ s.1.length = s1.1.length + 1 := by
  unfold expectP at h
  split at h
  · rename_i hm; cases h; exact ⟨rfl, isM_cons hm⟩
  · cases h
section
variable {N : Nat} {w : W}
theorem loop_z (hw : Gzw N w) (most : Int) : ∀ (f : Nat) (t : T) (q : Int) (s : St), gzT N t → Gz N szT (gzT N) (szT t) s (loopP w most f t q s) := by
  intro f
  induction f with
  | zero => intro t q s ht hs v s1 h; rw [loopP] at h; cases h; exact ⟨ht, Nat.le_refl _, hs⟩
  | succ f ih =>
    intro t q s ht hs v s1 h
    rw [loopP] at h
    split at h
    · cases h; exact ⟨ht, Nat.le_refl _, hs⟩
    · rename_i hst
      cases hx : w (infixK (nx s.1)).2.2.1 (s.1.tail, s.2) with
      | error k => rw [hx] at h; cases h
      | ok us =>
        obtain ⟨u, s2⟩ := us
        rw [hx] at h
        have hk : s.1.length = s.1.tail.length + 1 := nx_cons fun e => by
          have : ¬ (infixK (nx s.1)).2.2.2 = false := fun e => hst (.inl e)
          unfold infixK at this
          split at this
          · rename_i hc
            rcases hc with hc | hc
            · omega
            · have := isM_kind hc; omega
          · exact absurd rfl this
        obtain ⟨h1, h2, h3⟩ := hw _ _ (by show s.2.length + s.1.tail.length ≤ N; omega) u s2 hx
        dsimp only at h2
        obtain ⟨k1, k2, k3⟩ := ih _ _ s2 (by rw [gzT]; exact gzTL_two ht h1) h3 v s1 h
        refine ⟨k1, ?_, k3⟩
        rw [szT, szTL, szTL_one] at k2
        omega
theorem rowGo_z (hw : Gzw N w) : ∀ (f : Nat) (l : List T) (s : St), gzTL N l → Gz N (fun l => l.length + szTL l) (gzTL N) (l.length + szTL l) s (rowGo w f l s) := by
  intro f
  induction f with
  | zero => intro l s hl hs v s1 h; rw [rowGo] at h; cases h; exact ⟨hl, Nat.le_refl _, hs⟩
  | succ f ih =>
    intro l s hl hs v s1 h
    rw [rowGo] at h
    split at h
    · rename_i hm
      have hk := isM_cons hm
      cases hx : w 999 (s.1.tail, s.2) with
      | error k => rw [hx] at h; cases h
      | ok us =>
        obtain ⟨u, s2⟩ := us
        rw [hx] at h
        obtain ⟨h1, h2, h3⟩ := hw _ _ (by show s.2.length + s.1.tail.length ≤ N; omega) u s2 hx
        dsimp only at h2
        obtain ⟨k1, k2, k3⟩ := ih _ s2 (gzTL_app hl (gzTL_one h1)) h3 v s1 h
        refine ⟨k1, ?_, k3⟩
        rw [szTL_app, szTL_one, List.length_append, List.length_singleton] at k2
        omega
    · cases h; exact ⟨hl, Nat.le_refl _, hs⟩
theorem row_z (hw : Gzw N w) (s : St) : Gz N (fun l => l.length + szTL l) (gzTL N) 1 s (rowP w s) := by
  intro hs v s1 h
  unfold rowP at h
  cases hx : w 999 s with
  | error k => rw [hx] at h; cases h
  | ok us =>
    obtain ⟨u, s2⟩ := us
    rw [hx] at h
    obtain ⟨h1, h2, h3⟩ := hw _ _ hs u s2 hx
    obtain ⟨k1, k2, k3⟩ := rowGo_z hw _ _ s2 (gzTL_one h1) h3 v s1 h
    refine ⟨k1, ?_, k3⟩
    rw [szTL_one, List.length_singleton] at k2
    omega
theorem bracket_z (hw : Gzw N w) (m : List UInt8) (s : St) (hs : s.2.length + s.1.length ≤ N) : ∀ v s1, bracketP w m s = .ok (v, s1) → gzT N v ∧ szT v + s1.1.length + 1 ≤ s.1.length ∧ s1.2.length + s1.1.length ≤ N := by
  intro v s1 h
  unfold bracketP at h
  cases hx : w 1200 s with
  | error k => rw [hx] at h; cases h
  | ok us =>
    obtain ⟨u, s2⟩ := us
    rw [hx] at h
    dsimp only at h
    obtain ⟨h1, h2, h3⟩ := hw _ _ hs u s2 hx
    cases he : expectP m s2 with
    | error k => rw [he] at h; cases h
    | ok s3 =>
      rw [he] at h; cases h
      obtain ⟨e1, e2⟩ := expect_z he
      exact ⟨h1, by omega, by rw [e1]; omega⟩
theorem list_z (hw : Gzw N w) (s : St) : Gz N szT (gzT N) 1 s (listP w s) := by
  intro hs v s1 h
  unfold listP at h
  split at h
  · rename_i hm
    have hk := isM_cons hm
    cases h
    refine ⟨gz_atom _, ?_, ?_⟩
    · show szT nilT + s.1.tail.length ≤ _
      have : szT nilT = 1 := by unfold nilT; rw [szT]
      omega
    · show s.2.length + s.1.tail.length ≤ N; omega
  · cases hr : rowP w s with
    | error k => rw [hr] at h; cases h
    | ok ls =>
      obtain ⟨l, s2⟩ := ls
      rw [hr] at h
      dsimp only at h
      obtain ⟨h1, h2, h3⟩ := row_z hw s hs l s2 hr
      dsimp only at h2
      cases hr2 : (if isM (nx s2.1) [124] = true then w 999 (s2.1.tail, s2.2) else .ok (nilT, s2) : Res T) with
      | error k => rw [hr2] at h; cases h
      | ok rs =>
        obtain ⟨r, s3⟩ := rs
        rw [hr2] at h
        dsimp only at h
        have h4 : gzT N r ∧ szT r + s3.1.length ≤ 1 + s2.1.length ∧ s3.2.length + s3.1.length ≤ N := by
          split at hr2
          · rename_i hm
            have hk := isM_cons hm
            obtain ⟨k1, k2, k3⟩ := hw _ _ (by show s2.2.length + s2.1.tail.length ≤ N; omega) r s3 hr2
            dsimp only at k2
            exact ⟨k1, by omega, k3⟩
          · cases hr2
            have : szT nilT = 1 := by unfold nilT; rw [szT]
            exact ⟨gz_atom _, by omega, h3⟩
        obtain ⟨k1, k2, k3⟩ := h4
        cases he : expectP [93] s3 with
        | error k => rw [he] at h; cases h
        | ok s4 =>
          rw [he] at h; cases h
          obtain ⟨e1, e2⟩ := expect_z he
          refine ⟨gz_cons h1 k1, ?_, by rw [e1]; omega⟩
          rw [sz_cons]
          omega
theorem marked_z (hw : Gzw N w) (s : St) : Gz N szT (gzT N) 0 s (markedP w s) := by
  intro hs v s1 h
  unfold markedP at h
  split at h
  · rename_i hm
    have hk := isM_cons hm
    obtain ⟨k1, k2, k3⟩ := bracket_z hw _ (s.1.tail, s.2) (by show s.2.length + s.1.tail.length ≤ N; omega) v s1 h
    dsimp only at k2
    exact ⟨k1, by omega, k3⟩
  split at h
  · rename_i hm
    have hk := isM_cons hm
    obtain ⟨k1, k2, k3⟩ := list_z hw (s.1.tail, s.2) (by show s.2.length + s.1.tail.length ≤ N; omega) v s1 h
    dsimp only at k2
    exact ⟨k1, by omega, k3⟩
  split at h
  · rename_i hm
    have hk := isM_cons hm
    split at h
    · rename_i hm2
      have hk2 := isM_cons hm2
      cases h
      refine ⟨gz_atom _, ?_, ?_⟩
      · show szT (.leaf 3 0 [123, 125]) + s.1.tail.tail.length ≤ _
        rw [szT]; omega
      · show s.2.length + s.1.tail.tail.length ≤ N; omega
    · cases hb : bracketP w [125] (s.1.tail, s.2) with
      | error k => rw [hb] at h; cases h
      | ok us =>
        obtain ⟨u, s2⟩ := us
        rw [hb] at h
        obtain ⟨k1, k2, k3⟩ := bracket_z hw _ (s.1.tail, s.2) (by show s.2.length + s.1.tail.length ≤ N; omega) u s2 hb
        dsimp only at k2
        cases h
        refine ⟨by rw [gzT]; exact gzTL_one k1, ?_, k3⟩
        rw [szT, szTL_one]; omega
  · cases h
theorem zero_z {c : Nat} {s : St} {x : Res T} (h : Gz N szT (gzT N) c s x) : Gz N (fun v : T × Int => szT v.1) (fun v => gzT N v.1) c s (zeroP x) := by
  intro hs v s1 hx
  unfold zeroP at hx
  cases x with
  | error k => cases hx
  | ok us => obtain ⟨u, s2⟩ := us; have := h hs u s2 rfl; cases hx; exact this
theorem gz_int {n : Int} (h : Fit n) : gzT N (.leaf 2 n []) := by rw [gzT]; exact .inr (.inl ⟨rfl, h, rfl⟩)
theorem int_z (g : List UInt8) (s : St) (hk : (nx s.1).kind ≠ 0) : Gz N szT (gzT N) 0 s (intP g s) := by
  intro hs v s1 h
  have h0 := nx_cons hk
  unfold intP at h
  dsimp only at h
  have hf : szT (.leaf 2 0 []) = 1 := by rw [szT]
  split at h
  · cases h; exact ⟨gz_int fitz, by rw [szT]; show 1 + s.1.tail.length ≤ _; omega, by show s.2.length + s.1.tail.length ≤ N; omega⟩
  split at h
  · cases h; exact ⟨gz_int (parse_fit _), by rw [szT]; show 1 + s.1.tail.length ≤ _; omega, by show s.2.length + s.1.tail.length ≤ N; omega⟩
  · cases h
theorem named_z (hw : Gzw N w) (most : Int) (s : St) (hk : (nx s.1).kind = 1) : Gz N (fun v : T × Int => szT v.1) (fun v => gzT N v.1) 0 s (namedP w most s) := by
  intro hs v s1 h
  have h0 := nx_cons (l := s.1) (by omega)
  unfold namedP at h
  dsimp only at h
  split at h
  · rename_i h4
    have h00 := nx_cons (l := s.1.tail) (by omega)
    cases hr : rowP w (s.1.tail.tail, s.2) with
    | error k => rw [hr] at h; cases h
    | ok ls =>
      obtain ⟨l, s2⟩ := ls
      rw [hr] at h
      dsimp only at h
      obtain ⟨h1, h2, h3⟩ := row_z hw (s.1.tail.tail, s.2) (by show s.2.length + s.1.tail.tail.length ≤ N; omega) l s2 hr
      dsimp only at h2
      cases he : expectP [41] s2 with
      | error k => rw [he] at h; cases h
      | ok s3 =>
        rw [he] at h
        cases h
        obtain ⟨e1, e2⟩ := expect_z he
        refine ⟨by show gzT N (.cmp _ l); rw [gzT]; exact h1, ?_, by rw [e1]; omega⟩
        show szT (.cmp _ l) + _ ≤ _
        rw [szT]; omega
  split at h
  · rename_i h3
    obtain ⟨k1, k2, k3⟩ := zero_z (int_z [45] (s.1.tail, s.2) (by show (nx s.1.tail).kind ≠ 0; omega)) (by show s.2.length + s.1.tail.length ≤ N; omega) v s1 h
    dsimp only at k2
    exact ⟨k1, by dsimp only; omega, k3⟩
  split at h
  · cases hr : w (progP (nx s.1).text).2.1 (s.1.tail, s.2) with
    | error k => rw [hr] at h; cases h
    | ok ls =>
      obtain ⟨l, s2⟩ := ls
      rw [hr] at h
      obtain ⟨h1, h2, h3⟩ := hw _ _ (by show s.2.length + s.1.tail.length ≤ N; omega) l s2 hr
      dsimp only at h2
      cases h
      refine ⟨by show gzT N (.cmp _ [l]); rw [gzT]; exact gzTL_one h1, ?_, h3⟩
      show szT (.cmp _ [l]) + _ ≤ _
      rw [szT, szTL_one]; omega
  · cases h
    refine ⟨gz_atom _, ?_, by show s.2.length + s.1.tail.length ≤ N; omega⟩
    show szT (.leaf 3 0 _) + s.1.tail.length ≤ _
    rw [szT]; omega
theorem gz_var {n : Nat} (h : n ≤ N) : gzT N (.leaf 1 (n : Nat) []) := by rw [gzT]; exact .inl ⟨rfl, by omega, by omega, rfl⟩
theorem operand_z (hw : Gzw N w) (most : Int) (s : St) : Gz N (fun v : T × Int => szT v.1) (fun v => gzT N v.1) 0 s (operandP w most s) := by
  intro hs v s1 h
  unfold operandP at h
  dsimp only at h
  split at h
  · rename_i hk; exact named_z hw most s hk hs v s1 h
  split at h
  · rename_i hk
    have h0 := nx_cons (l := s.1) (by omega)
    cases h
    unfold varP
    dsimp only
    have hle := List.idxOf_le_length (a := (nx s.1).text) (l := s.2)
    split
    · refine ⟨gz_var (by omega), ?_, ?_⟩
      · show szT (.leaf 1 _ []) + s.1.tail.length ≤ _
        rw [szT]; omega
      · show (s.2 ++ [_]).length + s.1.tail.length ≤ N
        rw [List.length_append, List.length_singleton]; omega
    · refine ⟨gz_var (by omega), ?_, ?_⟩
      · show szT (.leaf 1 _ []) + s.1.tail.length ≤ _
        rw [szT]; omega
      · show s.2.length + s.1.tail.length ≤ N; omega
  split at h
  · rename_i hk; exact zero_z (int_z [] s (by omega)) hs v s1 h
  split at h
  · rename_i hk
    have h0 := nx_cons (l := s.1) (by omega)
    refine zero_z (c := 0) (s := s) (fun hs v s1 h => ?_) hs v s1 h
    obtain ⟨k1, k2, k3⟩ := bracket_z hw _ (s.1.tail, s.2) (by show s.2.length + s.1.tail.length ≤ N; omega) v s1 h
    dsimp only at k2
    exact ⟨k1, by omega, k3⟩
  · exact zero_z (marked_z hw s) hs v s1 h
end
theorem term_z (N : Nat) : ∀ d, Gzw N (termP d) := by
  intro d
  induction d with
  | zero => intro most s _ v s1 h; cases h
  | succ d ih =>
    intro most s hs v s1 h
    have e1 : termP (d + 1) most s = match operandP (termP d) most s with | .error e => .error e | .ok ((t, prio), s') => loopP (termP d) most s'.1.length t prio s' := rfl
    rw [e1] at h
    cases ho : operandP (termP d) most s with
    | error k => rw [ho] at h; cases h
    | ok us =>
      obtain ⟨⟨u, q⟩, s2⟩ := us
      rw [ho] at h
      obtain ⟨h1, h2, h3⟩ := operand_z ih most s hs _ s2 ho
      obtain ⟨k1, k2, k3⟩ := loop_z ih most _ u q s2 h1 h3 v s1 h
      exact ⟨k1, by dsimp only at h2; omega, k3⟩
/-- such as read terms are -/
structure Rd1 (u : U) : Prop where
  cl : clU u
  sz : szU u ≤ 1000
  vs : ∀ n ∈ vsU u, 0 ≤ n ∧ n ≤ 1000
mutual
theorem emb_sz : ∀ (t : T), szU (emb t) ≤ szT t
  | .leaf k n s => by rw [emb, szU, szT]; split <;> simp [szUL]
  | .cmp s l => by have := embL_sz l; rw [emb, szU, szT, if_pos rfl]; omega
theorem embL_sz : ∀ (l : List T), szUL (embL l) ≤ szTL l
  | [] => by rw [embL, szUL]; omega
  | t :: l => by have h1 := emb_sz t; have h2 := embL_sz l; rw [embL, szUL, szTL]; omega
end
mutual
theorem emb_cl : ∀ (t : T), gzT 1000 t → clU (emb t) ∧ (∀ n ∈ vsU (emb t), 0 ≤ n ∧ n ≤ 1000) ∧ fxT t
  | .leaf k n s, h => by
    rw [gzT] at h
    rw [emb, clU, vsU, fxT]
    rcases h with ⟨rfl, h1, h2, rfl⟩ | ⟨rfl, h1, rfl⟩ | ⟨rfl, rfl⟩
    · refine ⟨.inl ⟨rfl, rfl, rfl⟩, ?_, by unfold Fit; omega⟩
      intro m hm
      simp at hm
      omega
    · exact ⟨.inr (.inl ⟨rfl, rfl, rfl⟩), fun m hm => by simp at hm, h1⟩
    · exact ⟨.inr (.inr (.inl ⟨rfl, rfl, rfl⟩)), fun m hm => by simp at hm, fitz⟩
  | .cmp s l, h => by
    rw [gzT] at h
    obtain ⟨h1, h2, h3⟩ := embL_cl l h
    rw [emb, clU, vsU, fxT, if_neg (by omega), if_pos rfl]
    exact ⟨.inr (.inr (.inr ⟨rfl, rfl, h1⟩)), h2, h3⟩
theorem embL_cl : ∀ (l : List T), gzTL 1000 l → clL (embL l) ∧ (∀ n ∈ vsL (embL l), 0 ≤ n ∧ n ≤ 1000) ∧ fxL l
  | [], _ => by rw [embL, clL, vsL, fxL]; exact ⟨trivial, fun _ h => by simp at h, trivial⟩
  | t :: l, h => by
    rw [gzTL] at h
    obtain ⟨a1, a2, a3⟩ := emb_cl t h.1
    obtain ⟨b1, b2, b3⟩ := embL_cl l h.2
    rw [embL, clL, vsL, fxL]
    exact ⟨⟨a1, b1⟩, fun n hn => (List.mem_append.1 hn).elim (a2 n) (b2 n), a3, b3⟩
end
/-- a sentence's term -/
theorem sent_z {l : List K} {x : Sn} {r : List K} (h : sentP l = .ok (x, r)) (hl : l.length ≤ 1000) : Rd1 (emb x.1) ∧ fxT x.1 ∧ r.length ≤ l.length := by
  unfold sentP at h
  cases hx : termP 65 1200 (l, []) with
  | error k => rw [hx] at h; cases h
  | ok v =>
    obtain ⟨t, s⟩ := v
    rw [hx] at h
    dsimp only at h
    obtain ⟨k1, k2, k3⟩ := term_z 1000 65 1200 (l, []) (by simpa using hl) t s hx
    dsimp only at k2
    split at h
    · have e := Except.ok.inj h
      have e1 := (Prod.mk.inj e).1
      have e2 := (Prod.mk.inj e).2
      rw [← e1, ← e2]
      obtain ⟨c1, c2, c3⟩ := emb_cl t k1
      have := emb_sz t
      have hp := szT_pos t
      refine ⟨⟨c1, by show szU (emb t) ≤ _; omega, c2⟩, c3, ?_⟩
      rw [List.length_tail]
      omega
    · cases h
theorem sents_z : ∀ (f : Nat) (l : List K) (xs : List Sn), sentsP f l = .ok xs → l.length ≤ 1000 → ∀ x ∈ xs, Rd1 (emb x.1) ∧ fxT x.1 := by
  intro f
  induction f with
  | zero => intro l xs h _ x hx; rw [sentsP] at h; cases h; simp at hx
  | succ f ih =>
    intro l xs h hl x hx
    rw [sentsP] at h
    split at h
    · cases h; simp at hx
    · cases hs : sentP l with
      | error k => rw [hs] at h; cases h
      | ok v =>
        obtain ⟨t, r⟩ := v
        rw [hs] at h
        obtain ⟨h1, h2, h3⟩ := sent_z hs hl
        dsimp only at h
        cases hr : sentsP f r with
        | error k => rw [hr] at h; cases h
        | ok ts =>
          rw [hr] at h
          cases h
          rcases List.mem_cons.1 hx with rfl | hx
          · exact ⟨h1, h2⟩
          · exact ih r ts hr (by omega) x hx
theorem read_z {l : List UInt8} {xs : List Sn} (h : readP (lx.toksD l) = .ok xs) : ∀ x ∈ xs, Rd1 (emb x.1) ∧ fxT x.1 := by
  cases ho : lx.toksD l with
  | bad p e => rw [ho] at h; cases h
  | ok ts =>
    rw [ho] at h
    have hl : ts.length ≤ 1000 := by have := lx.outToks_len l; rw [ho] at this; exact this
    exact sents_z _ _ _ h (by rw [ab_len]; exact hl)
theorem one_z {l : List UInt8} {x : Sn} (h : oneP l = .ok x) : Rd1 (emb x.1) ∧ fxT x.1 := by
  unfold oneP at h
  cases hr : readP (lx.toksD (endP l)) with
  | error e => rw [hr] at h; cases h
  | ok v =>
    rw [hr] at h
    match v, h with
    | [], h => cases h
    | [y], h => cases h; exact read_z hr x (by simp)
    | y :: z :: v, h => cases h
theorem one_err {l : List UInt8} {k : Nat} (h : oneP l = .error k) : k ≠ 0 := by
  unfold oneP at h
  cases hr : readP (lx.toksD (endP l)) with
  | error e => rw [hr] at h; cases h; exact read_err rfl hr
  | ok v =>
    rw [hr] at h
    match v, h with
    | [], h => cases h; decide
    | [x], h => cases h
    | x :: y :: v, h => cases h; decide
end Go.Proofs.Ytjccohcigopdfaa.tm
end
