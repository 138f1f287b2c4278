/- WriteTerms: its walk. -/
import Derived.Test.YtpihmockcjdafaaQ27
import Derived.Deep.RegionHeld3
set_option linter.unusedVariables false
set_option linter.unusedSimpArgs false
section
/- WriteTerms: its walk. -/
namespace Go.Proofs.Ytpihmockcjdafaa.wr
open Go.RowKit
open Go.Proofs.Ytpihmockcjdafaa.rd
open Go.Proofs.Ytpihmockcjdafaa.op (bs strC)
open Go.Proofs.Ytpihmockcjdafaa.nm (Fit)
open Go.Proofs.Ytpihmockcjdafaa.lx (Qn GM txT cell_at)
set_option maxRecDepth 20000

/-- the names' bytes, each name's counted up to 2^20 -/
def nmSum (nm : List (List UInt8)) (i : Nat) : Int := (((nm.take i).map fun x => min x.length 1048576).sum : Nat)
theorem nmSum_succ {nm : List (List UInt8)} {i : Nat} (hi : i < nm.length) : nmSum nm (i + 1) = nmSum nm i + (min (nm.getD i []).length 1048576 : Nat) := by
  unfold nmSum
  rw [List.take_succ_eq_append_getElem hi, List.map_append, List.sum_append]
  simp [hi]
theorem nm_ok {nm : List (List UInt8)} {i : Nat} (h : nmSum nm i ≤ 4096) : ∀ j, j < i → j < nm.length → (nm.getD j []).length ≤ 4096 := by
  induction i with
  | zero => intro j hj; omega
  | succ i ih =>
    intro j hj hl
    by_cases hi : i < nm.length
    · rw [nmSum_succ hi] at h
      have h0 : 0 ≤ nmSum nm i := by unfold nmSum; omega
      rcases Nat.lt_or_ge j i with h1 | h1
      · exact ih (by omega) j h1 hl
      · obtain rfl : j = i := by omega
        omega
    · have : nmSum nm (i + 1) = nmSum nm i := by
        unfold nmSum; rw [List.take_of_length_le (by omega), List.take_of_length_le (by omega)]
      rw [this] at h
      exact ih h j (by omega) hl
set_option maxHeartbeats 16000000 in
theorem terms_w (u : U) (a : Value) (p : Option Addr) (cap : Nat) (nm : List (List UInt8)) (w : World) (hR : Ru w.heap.size w u a) (hN : Nr w.heap.size w nm p cap) (hl : ∀ x ∈ nm, x.length ≤ maxLen) (hg : GM w) :
    Calls Try.prog 5 #[uV u a, .slice p nm.length cap] w fun e w' => e = .returned (.bool true) ∧ Below w.heap.size w w' := by
  obtain ⟨pu, cu, rfl, hf, hPu⟩ := hR.parts
  have hm := hN.max
  have hle := hN.le
  unfold maxLen at hm
  have hbb := (Below.refl w.heap.size w).alloc (Nat.le_refl _) (.cells #[.int .i64 u.k, .int .i64 u.n, .string (bs u.s), .slice pu u.l.length cu] 24)
  have hbx := heap_alloc_new w (.cells #[.int .i64 u.k, .int .i64 u.n, .string (bs u.s), .slice pu u.l.length cu] 24)
  have kl := light_all u 4096 _ _ (by omega) (by omega) ((hR.stay hbb).up hbb.size)
  have HX := Lib.hid hbx
  have HB := Lib.hid hbb
  have HR := Lib.hid hR
  have HN := Lib.hid hN
  have HL := Lib.hid hl
  have HG := Lib.hid hg
  have hp := lx.heap_pos hg
  have hlo : lightU u 4096 < 0 ∨ (0 ≤ lightU u 4096 ∧ smU u) := by
    by_cases h : smU u ∧ (szA u : Int) ≤ 4096
    · right; exact ⟨by rw [light_yes h.1 h.2]; omega, h.1⟩
    · left; rw [light_no h]; decide
  unfold uV at kl
  generalize lightU u 4096 = li at *
  clear hbb hbx hR hN hl hg hf hPu
  unfold uV
  rcases hlo with hlo | ⟨hlo, hsm⟩
  · go_enter Try.func5, Try.ntmps5
    go_wp2_with fail
    refine kl.mono ?_
    rintro e w1 ⟨rfl, hb1⟩
    have HB1 := Lib.hid (HB.out.trans (hb1.mono HB.out.size))
    clear hb1 kl
    go_wp2
    go_ret
    exact ⟨rfl, HB1.out⟩
  have hlo2 : ¬ li < 0 := by omega
  by_cases hn : nm.length > 256
  · have hn2 : (256 : Int) < (nm.length : Int) := by omega
    go_enter Try.func5, Try.ntmps5
    go_wp2_with fail
    refine kl.mono ?_
    rintro e w1 ⟨rfl, hb1⟩
    have HB1 := Lib.hid (HB.out.trans (hb1.mono HB.out.size))
    clear hb1 kl
    go_wp2
    go_ret
    exact ⟨rfl, HB1.out⟩
  have hn2 : ¬ (256 : Int) < (nm.length : Int) := by omega
  have HSM := Lib.hid hsm
  clear hsm
  go_enter Try.func5, Try.ntmps5
  go_wp2_with fail
  refine kl.mono ?_
  rintro e w1 ⟨rfl, hb1⟩
  have HB1 := Lib.hid (HB.out.trans (hb1.mono HB.out.size))
  have HX1 := Lib.hid ((hb1.block _ (lt_of HX.out)).trans HX.out)
  clear hb1 kl HX HB
  go_wp2
  clear hlo hlo2
  go_loopg [5, 6] nm.length (fun k v5 v6 wr => ∃ (i : Nat) (m : Int), k = nm.length - i ∧ i ≤ nm.length ∧ v5 = .int .i64 m ∧ v6 = .int .i64 i ∧ wr = w1 ∧ Hid (m = nmSum nm i) ∧ 0 ≤ m ∧ m ≤ 300000000)
  case atStart => exact ⟨0, 0, by omega, by omega, rfl, rfl, rfl, Lib.hid rfl, by omega, by omega⟩
  case round =>
    obtain ⟨i, m, hgk, hi, rfl, rfl, hw, HS, hm0, hm1⟩ := hrel
    subst hw
    by_cases hbig : 4096 < m
    · have hb1 : ¬ m ≤ 4096 := by omega
      by_cases hlt : i < nm.length
      · have hlt2 : (i : Int) < nm.length := by omega
        go_wp2
        go_ret
        exact ⟨rfl, HB1.out⟩
      · have hlt2 : ¬ (i : Int) < nm.length := by omega
        go_wp2
        go_ret
        exact ⟨rfl, HB1.out⟩
    · have hb1 : m ≤ 4096 := by omega
      by_cases hlt : i < nm.length
      · have hlt2 : (i : Int) < nm.length := by omega
        have i4 : (0 : Int) ≤ (i : Int) := by omega
        obtain ⟨g, o, hpe, hgl, d0⟩ := (HN.out.stay HB1.out).el i hlt
        subst hpe
        have hss := bs_sz (nm.getD i [])
        have hmin : ∀ x y : Int, min x y = if x ≤ y then x else y := fun x y => by omega
        have HS2 := Lib.hid (nmSum_succ hlt)
        have hcase : (nm.getD i []).length ≤ 1048576 ∨ 1048576 < (nm.getD i []).length := by omega
        have hll := HL.out (nm.getD i []) (by rw [getD_at _ _ _ hlt]; exact List.getElem_mem _)
        unfold maxLen at hll
        generalize bs (nm.getD i []) = z at *
        generalize (nm.getD i []).length = ln at *
        rcases hcase with hc | hc
        · have c1 : (ln : Int) ≤ 1048576 := by omega
          have HM : Hid (m + (ln : Int) = nmSum nm (i + 1)) := Lib.hid (by rw [HS2.out, HS.out]; omega)
          go_wp2
          go_roundg (nm.length - (i + 1))
          case measure => omega
          case rel => exact ⟨i + 1, m + ln, rfl, by omega, by go_num, by go_num, rfl, HM, by omega, by omega⟩
        · have c1 : ¬ (ln : Int) ≤ 1048576 := by omega
          have HM : Hid (m + 1048576 = nmSum nm (i + 1)) := Lib.hid (by rw [HS2.out, HS.out]; omega)
          go_wp2
          go_roundg (nm.length - (i + 1))
          case measure => omega
          case rel => exact ⟨i + 1, m + 1048576, rfl, by omega, by go_num, by go_num, rfl, HM, by omega, by omega⟩
      · have hlt2 : ¬ (i : Int) < nm.length := by omega
        have hNM : NmOk nm := fun x hx => by
          obtain ⟨j, hj, rfl⟩ := List.getElem_of_mem hx
          have := nm_ok (i := i) (by rw [← HS.out]; exact hb1) j (by omega) hj
          rwa [getD_at _ _ _ hj] at this
        have hqn := sm_qn u HSM.out
        have KG := fun W (h : Below w.heap.size w W) => good_c (HG.out.below h hp) ((HR.out.stay h).up h.size) hqn
        have KR := fun W (h : Below w.heap.size w W) => rgood_c ((HR.out.stay h).up h.size) hqn
        have KW := fun W (h : Below w.heap.size w W) => write_c (HG.out.below h hp) ((HR.out.stay h).up h.size) hqn
        have KV := fun W (h : Below w.heap.size w W) => rwrite_c ((HR.out.stay h).up h.size) hqn
        have KN := fun W (h : Below w.heap.size w W) => named_c (HG.out.below h hp) ((HR.out.stay h).up h.size) hqn hNM ((HN.out.stay h).up h.size)
        have KM := fun W (h : Below w.heap.size w W) => rnamed_c ((HR.out.stay h).up h.size) hqn hNM ((HN.out.stay h).up h.size)
        unfold uV at KG KR KW KV KN KM
        have eD : (decide (goodU u) == decide (goodU u)) = true := by simp
        have e1 : ((bs (wrX [] u)).toList == (bs (wrX [] u)).toList) = true := by simp
        have e2 : ((bs (wrX nm u)).toList == (bs (wrX nm u)).toList) = true := by simp
        generalize decide (goodU u) = D at *
        generalize bs (wrX [] u) = X at *
        generalize bs (wrX nm u) = Y at *
        obtain ⟨x0, x1, x2, x3⟩ := box_cells HX1.out
        clear HS hNM hqn HN HR HSM HL
        go_wp2_with fail
        go_region_held3 (fun w' => w'.cell? ⟨w.heap.size, 0, none⟩ = some (.int .i64 u.k) ∧ w'.cell? ⟨w.heap.size, 1, none⟩ = some (.int .i64 u.n) ∧ w'.cell? ⟨w.heap.size, 2, none⟩ = some (.string (bs u.s)) ∧ w'.cell? ⟨w.heap.size, 3, none⟩ = some (.slice pu u.l.length cu)) (first | exact q1 | go_keep)
          (first
          | (go_at_call 10; (refine (KG _ (by first | exact HBc.out | exact (HB1.out.trans (dN _ _ _)))).mono ?_); rintro en w2 ⟨rfl, hb⟩; have HBn := Lib.hid ((show Below w.heap.size w _ from (by first | exact HBc.out | exact (HB1.out.trans (dN _ _ _)))).trans (hb.mono (show Below w.heap.size w _ from (by first | exact HBc.out | exact (HB1.out.trans (dN _ _ _)))).size)); have HXn := Lib.hid ((hb.block _ (lt_of (show _ = some _ from (by first | exact HXc.out | exact HX1.out)))).trans (by first | exact HXc.out | exact HX1.out)); clear hb; have HBc := HBn; have HXc := HXn; have q1 := box_cells HXc.out) 
          | (go_at_call 14; (refine (KR _ (by first | exact HBc.out | exact (HB1.out.trans (dN _ _ _)))).mono ?_); rintro en w3 ⟨rfl, hb⟩; have HBn := Lib.hid ((show Below w.heap.size w _ from (by first | exact HBc.out | exact (HB1.out.trans (dN _ _ _)))).trans (hb.mono (show Below w.heap.size w _ from (by first | exact HBc.out | exact (HB1.out.trans (dN _ _ _)))).size)); have HXn := Lib.hid ((hb.block _ (lt_of (show _ = some _ from (by first | exact HXc.out | exact HX1.out)))).trans (by first | exact HXc.out | exact HX1.out)); clear hb; have HBc := HBn; have HXc := HXn; have q1 := box_cells HXc.out) 
          | (go_at_call 8; (refine (KW _ (by first | exact HBc.out | exact (HB1.out.trans (dN _ _ _)))).mono ?_); rintro en w4 ⟨rfl, hb⟩; have HBn := Lib.hid ((show Below w.heap.size w _ from (by first | exact HBc.out | exact (HB1.out.trans (dN _ _ _)))).trans (hb.mono (show Below w.heap.size w _ from (by first | exact HBc.out | exact (HB1.out.trans (dN _ _ _)))).size)); have HXn := Lib.hid ((hb.block _ (lt_of (show _ = some _ from (by first | exact HXc.out | exact HX1.out)))).trans (by first | exact HXc.out | exact HX1.out)); clear hb; have HBc := HBn; have HXc := HXn; have q1 := box_cells HXc.out) 
          | (go_at_call 9; (refine (KV _ (by first | exact HBc.out | exact (HB1.out.trans (dN _ _ _)))).mono ?_); rintro en w5 ⟨rfl, hb⟩; have HBn := Lib.hid ((show Below w.heap.size w _ from (by first | exact HBc.out | exact (HB1.out.trans (dN _ _ _)))).trans (hb.mono (show Below w.heap.size w _ from (by first | exact HBc.out | exact (HB1.out.trans (dN _ _ _)))).size)); have HXn := Lib.hid ((hb.block _ (lt_of (show _ = some _ from (by first | exact HXc.out | exact HX1.out)))).trans (by first | exact HXc.out | exact HX1.out)); clear hb; have HBc := HBn; have HXc := HXn; have q1 := box_cells HXc.out) 
          | (go_at_call 15; (refine (KN _ (by first | exact HBc.out | exact (HB1.out.trans (dN _ _ _)))).mono ?_); rintro en w6 ⟨rfl, hb⟩; have HBn := Lib.hid ((show Below w.heap.size w _ from (by first | exact HBc.out | exact (HB1.out.trans (dN _ _ _)))).trans (hb.mono (show Below w.heap.size w _ from (by first | exact HBc.out | exact (HB1.out.trans (dN _ _ _)))).size)); have HXn := Lib.hid ((hb.block _ (lt_of (show _ = some _ from (by first | exact HXc.out | exact HX1.out)))).trans (by first | exact HXc.out | exact HX1.out)); clear hb; have HBc := HBn; have HXc := HXn; have q1 := box_cells HXc.out) 
          | (go_at_call 16; (refine (KM _ (by first | exact HBc.out | exact (HB1.out.trans (dN _ _ _)))).mono ?_); rintro en w7 ⟨rfl, hb⟩; have HBn := Lib.hid ((show Below w.heap.size w _ from (by first | exact HBc.out | exact (HB1.out.trans (dN _ _ _)))).trans (hb.mono (show Below w.heap.size w _ from (by first | exact HBc.out | exact (HB1.out.trans (dN _ _ _)))).size)); have HXn := Lib.hid ((hb.block _ (lt_of (show _ = some _ from (by first | exact HXc.out | exact HX1.out)))).trans (by first | exact HXc.out | exact HX1.out)); clear hb; have HBc := HBn; have HXc := HXn; have q1 := box_cells HXc.out))
        all_goals
          go_wp2
          go_ret
          exact ⟨rfl, HBc.out⟩
end Go.Proofs.Ytpihmockcjdafaa.wr
end
