/- The law TermCopies. -/
import Derived.Test.YtjccohcigopdfaaQ29
set_option linter.unusedVariables false
set_option linter.unusedSimpArgs false
section
/- The law TermCopies. -/
namespace Go.Proofs.Ytjccohcigopdfaa.tm
open Go.RowKit
open Go.Proofs.Ytjccohcigopdfaa.wr
open Go.Proofs.Ytjccohcigopdfaa.rd
open Go.Proofs.Ytjccohcigopdfaa.op (bs strC)
open Go.Proofs.Ytjccohcigopdfaa.lx (cell_at)
open Go.Proofs.Ytjccohcigopdfaa.nm (Fit)
set_option maxRecDepth 20000

theorem vars_vs {u : U} {n : Int} (h : n ∈ varsU u) : n ∈ vsU u := ((addVs_mem _ _ _).1 h).elim (fun h => by simp at h) id
/-- the atom of the law's other answers -/
def uE : U := .mk 3 0 [97] []
theorem ruE (W : World) : Ru W.heap.size W uE (.slice none 0 0) := by unfold uE; rw [Ru]; exact ⟨none, 0, rfl, Nat.le_refl _, Nat.zero_le _, fit0, by rw [Rus]; trivial⟩
theorem szE : szU uE = 1 := by unfold uE; rw [szU]; simp
set_option maxHeartbeats 1000000 in
theorem copies_w (s : ByteArray) (az : Option Addr) (cz : Nat) (z : List Nat) (w : World) (hz : s.size ≤ 9223372036854775807) (hu : URow w az cz z) :
    Calls Try.prog 3 #[.string s, .slice az z.length cz] w fun e w' => e = .returned (.bool true) ∧ Below w.heap.size w w' := by
  have k1 := one_c s w hz
  have HZ := Lib.hid hu
  have hlc := hu.1
  have hcm := hu.2.1
  unfold maxLen at hcm
  clear hz hu
  go_enter Try.func3, Try.ntmps3
  go_wp2_with fail
  refine k1.mono ?_
  clear k1
  rintro e w1 ⟨u, a, ok, rfl, hru, hok, hb⟩
  obtain ⟨p, cap, rfl, _⟩ := hru.parts
  have HB1 := Lib.hid hb
  by_cases hoo : ok = true ∧ z.length ≤ 100
  · obtain ⟨rfl, h100⟩ := hoo
    have hR := hok rfl
    have hx := heap_alloc_new w1 (.cells #[.int .i64 u.k, .int .i64 u.n, .string (bs u.s), .slice p u.l.length cap] 25)
    have hB2 := allocB w1 (.cells #[.int .i64 u.k, .int .i64 u.n, .string (bs u.s), .slice p u.l.length cap] 25)
    have hru2 := (hru.stay hB2).up hB2.size
    have HB2 := Lib.hid (HB1.out.trans (hB2.mono HB1.out.size))
    have hng : ¬ (100 : Int) < z.length := by omega
    have HX := Lib.hid hx
    have HRu := Lib.hid hru2
    have HR := Lib.hid hR
    unfold uV
    have HN := Lib.hid (Uw.new (D := fun _ => False) (w := w1.alloc (.cells #[.int .i64 u.k, .int .i64 u.n, .string (bs u.s), .slice p u.l.length cap] 25)))
    have HNb := Lib.hid (allocB (w1.alloc (.cells #[.int .i64 u.k, .int .i64 u.n, .string (bs u.s), .slice p u.l.length cap] 25)) (.cells #[] 25))
    rw [sizeA] at HN
    have HS0 := Lib.hid (sizeA w1 (.cells #[.int .i64 u.k, .int .i64 u.n, .string (bs u.s), .slice p u.l.length cap] 25))
    have ebs : bs [] = { data := #[] } := rfl
    clear hb hru hok hB2 hx hru2 hR
    go_wp2
    generalize World.alloc w1 _ = W0 at *
    go_loopg [7, 8] z.length (fun k v7 v8 wr => ∃ (v : Value) (l : List (U × Value)), k = z.length - l.length ∧ l.length ≤ z.length ∧ v = v7 ∧ v8 = .int .i64 l.length ∧ Hid (Uw (fun _ => False) (w1.heap.size + 1) wr v l) ∧ Hid (l.map Prod.fst = ((toI z).take l.length).map vrU) ∧ Hid (Below W0.heap.size W0 wr))
    case atStart => exact ⟨_, [], by simp, by simp, rfl, rfl, HN, Lib.hid (by simp), HNb⟩
    case round =>
      obtain ⟨v, l, hgk, hll, rfl, rfl, HU, HM, HW⟩ := hrel
      obtain ⟨pl, cl, rfl⟩ : ∃ pl cl, v = .slice pl l.length cl := by obtain ⟨p, c, h, _⟩ := HU.out.shape; exact ⟨p, c, h⟩
      by_cases hlt : l.length < z.length
      · have hlt2 : (l.length : Int) < z.length := by omega
        have i4 : (0 : Int) ≤ (l.length : Int) := by omega
        obtain ⟨x, rfl, hxb, hc⟩ := HZ.out.2.2.2 l.length hlt
        have hx255 := HZ.out.2.2.1 (z.getD l.length 0) (by simp [hlt])
        have hc2 := ((HB2.out.trans (HW.out.mono HB2.out.size)).cell (World.block_lt_of_cell? w _ hc)).trans hc
        have hzi := Lib.hid (show (toI z)[l.length]? = some ((z.getD l.length 0 : Nat) : Int) by unfold toI; simp [hlt])
        clear hc
        generalize z.getD l.length 0 = e at *
        have hT1 := Lib.hid (ruV (fun k => False ∧ (Value.slice pl l.length cl).ownBlock ≠ some k) (wr.alloc (.cells #[.int .i64 1, .int .i64 (e : Nat), .string ⟨#[]⟩, .slice none 0 0] 25)) (e : Nat) (by unfold Fit; omega))
        have hc1 := Lib.hid (heap_alloc_new wr (.cells #[.int .i64 1, .int .i64 (e : Nat), .string ⟨#[]⟩, .slice none 0 0] 25))
        have hU1 := Lib.hid (HU.out.stay (allocB wr (.cells #[.int .i64 1, .int .i64 (e : Nat), .string ⟨#[]⟩, .slice none 0 0] 25)))
        have hl2 := Lib.hid (show l.length ≤ 2000000 by omega)
        have hW0 : w1.heap.size + 1 ≤ wr.heap.size := by have h1 := HW.out.size; have h2 := HS0.out; omega
        have hB2 := Lib.hid (show w1.heap.size + 1 ≤ (wr.alloc (.cells #[.int .i64 1, .int .i64 (e : Nat), .string ⟨#[]⟩, .slice none 0 0] 25)).heap.size by rw [sizeA]; omega)
        go_wp2_with (at_builtin; refine wpList_u1 rfl _ _ rfl (fun _ => False) (w1.heap.size + 1) _ (.slice pl l.length cl) l rfl hU1.out wr.heap.size 1 (vrU (e : Nat)) (.slice none 0 0) rfl hc1.out hT1.out hl2.out hB2.out ?_; intro g9 c9 w9 hv9 hb9 ha9; have HV9 := Lib.hid hv9; have HG9 := Lib.hid hb9; have HA9 := Lib.hid ha9; clear hv9 hb9 ha9)
        go_roundg (z.length - (l.length + 1))
        case measure => omega
        case rel =>
          refine ⟨_, l ++ [(vrU (e : Nat), .slice none 0 0)], by simp, by simp; omega, rfl, by simp, HV9, Lib.hid ?_, Lib.hid ?_⟩
          · rw [List.map_append, HM.out, List.length_append, List.length_singleton, List.take_add_one, hzi.out, List.map_append]; rfl
          · exact HW.out.trans (((allocB wr _).mono HW.out.size).trans ((hU1.out.grown HG9.out hB2.out).mono (by rw [HS0.out]; exact Nat.le_refl _)))
      · have hle : l.length = z.length := by omega
        have hml : l.map Prod.fst = (toI z).map vrU := by rw [HM.out, List.take_of_length_le (by rw [toI_len]; omega)]
        have hLn : ((toI z).map vrU).length = l.length := by rw [List.length_map, toI_len, hle]
        have hlt2 : ¬ ((l.length : Int) < z.length) := by omega
        have hRL := (HU.out.ruD (k := 4) (n := 0) (s := []) fit0).imp (D' := fun _ => True) fun _ _ _ => trivial
        rw [hml] at hRL
        have hRU : RuD (fun _ => True) wr u (.slice p u.l.length cap) := RuD.of (fun _ _ => trivial) (HRu.out.stay HW.out)
        have hgv := fun n => gT_var (toI z) n
        obtain ⟨cy, sy, dy⟩ := sb_cl (sgI (toI z)) (gT ((toI z).map vrU)) hgv u HR.out.cl
        have hvy := var_inj (sgI (toI z)) (gT ((toI z).map vrU)) hgv HR.out.cl
        have ks := subst_c ((toI z).map vrU) u (.slice p u.l.length cap) pl cl wr hRU (by have := HR.out.sz; omega) HR.out.cl (by rw [hLn]; exact hRL)
        have HRf := Lib.hid (fun wc (hb : Below wr.heap.size wr wc) => rsubst_c ((toI z).map vrU) u (.slice p u.l.length cap) pl cl (fun _ => True) wc (hRU.stay hb) (by have := HR.out.sz; omega) (fun n hn => (HR.out.vs n hn).1) (by rw [hLn]; exact hRL.stay hb))
        rw [hLn] at ks HRf
        generalize sbU (gT ((toI z).map vrU)) u = y at *
        have Hcy := Lib.hid cy
        have Hsy := Lib.hid sy
        have Hdy := Lib.hid dy
        have Hvy := Lib.hid hvy
        have Hle := Lib.hid hle
        have HXr := Lib.hid ((HW.out.block _ (lt_of HX.out)).trans HX.out)
        obtain ⟨x0, x1, x2, x3, _⟩ := cells4 HXr.out
        clear cy sy dy hvy hgv hRU hRL hml hle hLn hgk
        unfold uV at ks
        go_wp2_with fail
        refine ks.mono ?_
        rintro en w2 ⟨a2, rfl, hr2, hb2⟩
        obtain ⟨p2, c2, rfl, _⟩ := hr2.one
        have hba := allocB w2 (.cells #[.int .i64 y.k, .int .i64 y.n, .string (bs y.s), .slice p2 y.l.length c2] 25)
        have hbw := hb2.trans (hba.mono hb2.size)
        have HY := Lib.hid (heap_alloc_new w2 (.cells #[.int .i64 y.k, .int .i64 y.n, .string (bs y.s), .slice p2 y.l.length c2] 25))
        have HX2 := Lib.hid ((hbw.block _ (lt_of HXr.out)).trans HXr.out)
        have HRy := Lib.hid ((hr2.stay hba).any)
        have HWw := Lib.hid (HB2.out.trans ((HW.out.trans (hbw.mono HW.out.size)).mono HB2.out.size))
        have HRu2 := Lib.hid ((HRu.out.stay (HW.out.trans (hbw.mono HW.out.size))).up (HW.out.trans (hbw.mono HW.out.size)).size)
        have Hbw := Lib.hid hbw
        clear ks x0 x1 x2 x3 hba hbw hb2 hr2
        unfold uV
        go_wp2_with fail
        generalize World.alloc w2 _ = W at *
        have hW : Hid (Below W.heap.size W W) := Lib.hid (Below.refl _ _)
        have zu := HR.out.sz
        have zy := Hsy.out
        have kr : ∀ (wc : World), Hid (Below W.heap.size W wc) → Calls Try.prog 12 #[uV u (.slice p u.l.length cap), .slice pl l.length cl] wc fun e w' => ∃ p6 c6, e = .returned (uV y (.slice p6 y.l.length c6)) ∧ Hid (RuD (fun _ => True) w' y (.slice p6 y.l.length c6)) ∧ Hid (Below W.heap.size W w') := fun wc h =>
          (HRf.out wc (Hbw.out.trans (h.out.mono Hbw.out.size))).mono fun e w' ⟨a, he, hr, hb⟩ => by
            obtain ⟨p6, c6, rfl, _⟩ := hr.one
            exact ⟨p6, c6, he, Lib.hid (hr.imp fun _ _ _ => trivial), HBd h h.out.size hb⟩
        have km : ∀ (wc : World) (p6 : Option Addr) (c6 : Nat), Hid (RuD (fun _ => True) wc y (.slice p6 y.l.length c6)) → Hid (Below W.heap.size W wc) → Calls Try.prog 11 #[uV y (.slice p2 y.l.length c2), uV y (.slice p6 y.l.length c6)] wc fun e w' => e = .returned (.bool true) ∧ Hid (Below W.heap.size W w') := fun wc p6 c6 h6 h =>
          (same_c y y _ _ wc ((HRy.out.stay h.out).up h.out.size) h6.out.any).mono fun e w' ⟨he, hb⟩ => ⟨by rw [he]; simp, HBd h h.out.size hb⟩
        have k1 : ∀ (wc : World), Hid (Below W.heap.size W wc) → Calls Try.prog 9 #[uV y (.slice p2 y.l.length c2)] wc fun e w' => e = .returned (.int .i64 (szU u : Nat)) ∧ Hid (Below W.heap.size W w') := fun wc h =>
          (size_c ((HRy.out.stay h.out).up h.out.size) (by omega)).mono fun e w' ⟨he, hb⟩ => ⟨by rw [he, Hsy.out], HBd h h.out.size hb⟩
        have k2 : ∀ (wc : World), Hid (Below W.heap.size W wc) → Calls Try.prog 9 #[uV u (.slice p u.l.length cap)] wc fun e w' => e = .returned (.int .i64 (szU u : Nat)) ∧ Hid (Below W.heap.size W w') := fun wc h =>
          (size_c ((HRu2.out.stay h.out).up h.out.size) (by omega)).mono fun e w' ⟨he, hb⟩ => ⟨he, HBd h h.out.size hb⟩
        have k3 : ∀ (wc : World), Hid (Below W.heap.size W wc) → Calls Try.prog 13 #[uV y (.slice p2 y.l.length c2)] wc fun e w' => e = .returned (.int .i64 (dpU u : Nat)) ∧ Hid (Below W.heap.size W w') := fun wc h =>
          (depth_c ((HRy.out.stay h.out).up h.out.size) (by omega)).mono fun e w' ⟨he, hb⟩ => ⟨by rw [he, Hdy.out], HBd h h.out.size hb⟩
        have k4 : ∀ (wc : World), Hid (Below W.heap.size W wc) → Calls Try.prog 13 #[uV u (.slice p u.l.length cap)] wc fun e w' => e = .returned (.int .i64 (dpU u : Nat)) ∧ Hid (Below W.heap.size W w') := fun wc h =>
          (depth_c ((HRu2.out.stay h.out).up h.out.size) (by omega)).mono fun e w' ⟨he, hb⟩ => ⟨he, HBd h h.out.size hb⟩
        have k5 : ∀ (wc : World), Hid (Below W.heap.size W wc) → Calls Try.prog 14 #[uV u (.slice p u.l.length cap)] wc fun e w' => ∃ v, e = .returned v ∧ Hid (Iw 0 w' v (varsU u)) ∧ Hid (Below W.heap.size W w') := fun wc h =>
          (rvars_c u _ _ ((HRu2.out.stay h.out).up h.out.size) (by omega)).mono fun e w' ⟨v, he, hv, hb⟩ => ⟨v, he, Lib.hid (hv.mono (Nat.zero_le _)), HBd h h.out.size hb⟩
        have k6 : ∀ (wc : World), Hid (Below W.heap.size W wc) → Calls Try.prog 16 #[uV u (.slice p u.l.length cap), uV y (.slice p2 y.l.length c2)] wc fun e w' => e = .returned (.bool (varU u y)) ∧ Hid (Below W.heap.size W w') := fun wc h =>
          (variant_c HR.out.cl (by omega) ((HRu2.out.stay h.out).up h.out.size) ((HRy.out.stay h.out).up h.out.size)).mono fun e w' ⟨he, hb⟩ => ⟨he, HBd h h.out.size hb⟩
        have hvl := vars_len u
        have hvn := vars_nodup u
        have hvb := Lib.hid (fun n (h : n ∈ varsU u) => HR.out.vs n (vars_vs h))
        have hvl2 : (varsU u).length ≤ 1000 := by omega
        have hxy : Hid (∀ wc, Hid (Below W.heap.size W wc) → wc.cell? ⟨w1.heap.size, 0, none⟩ = some (.int .i64 u.k) ∧ wc.cell? ⟨w1.heap.size, 1, none⟩ = some (.int .i64 u.n) ∧ wc.cell? ⟨w1.heap.size, 2, none⟩ = some (.string (bs u.s)) ∧ wc.cell? ⟨w1.heap.size, 3, none⟩ = some (.slice p u.l.length cap) ∧ wc.cell? ⟨w2.heap.size, 0, none⟩ = some (.int .i64 y.k) ∧ wc.cell? ⟨w2.heap.size, 1, none⟩ = some (.int .i64 y.n) ∧ wc.cell? ⟨w2.heap.size, 2, none⟩ = some (.string (bs y.s)) ∧ wc.cell? ⟨w2.heap.size, 3, none⟩ = some (.slice p2 y.l.length c2)) := Lib.hid fun wc h => by
          obtain ⟨a0, a1, a2, a3⟩ := box_at HX2.out h
          obtain ⟨c0, c1, c2, c3⟩ := box_at HY.out h
          exact ⟨a0, a1, a2, a3, c0, c1, c2, c3⟩
        have e1 : ((szU u : Int) == (szU u : Int)) = true := by simp
        have e2 : ((dpU u : Int) == (dpU u : Int)) = true := by simp
        have Hvn := Lib.hid hvn
        obtain ⟨x0, x1, x2, x3, y0, y1, y2, y3⟩ := hxy.out _ hW
        unfold uV at kr km k1 k2 k3 k4 k5 k6
        clear hvl hvn zu zy HRf HRy HRu2 HRu HR Hcy Hsy Hdy HX HX2 HXr HY Hbw HW HU HM
        generalize varU u y = vb at *
        generalize varsU u = vv at *
        generalize szU u = zz at *
        generalize dpU u = dd at *
        generalize u.l.length = ll at *
        generalize bs u.s = ss at *
        generalize u.n = nn at *
        generalize u.k = kk at *
        generalize y.l.length = ll2 at *
        generalize bs y.s = ss2 at *
        generalize y.n = nn2 at *
        generalize y.k = kk2 at *
        generalize w1.heap.size = B1 at *
        generalize w2.heap.size = B2 at *
        go_region_held3 (fun wc => wc.cell? ⟨B1, 0, none⟩ = some (.int .i64 kk) ∧ wc.cell? ⟨B1, 1, none⟩ = some (.int .i64 nn) ∧ wc.cell? ⟨B1, 2, none⟩ = some (.string ss) ∧ wc.cell? ⟨B1, 3, none⟩ = some (.slice p ll cap) ∧ wc.cell? ⟨B2, 0, none⟩ = some (.int .i64 kk2) ∧ wc.cell? ⟨B2, 1, none⟩ = some (.int .i64 nn2) ∧ wc.cell? ⟨B2, 2, none⟩ = some (.string ss2) ∧ wc.cell? ⟨B2, 3, none⟩ = some (.slice p2 ll2 c2))
          (first | exact hxy.out _ (by assumption) | go_keep)
          (first
            | (go_at_call 12; (with_reducible refine (kr _ ?_).mono ?_); (first | assumption | exact bxd (by assumption)); rintro en w5 ⟨p6, c6, rfl, HR6, HB5⟩)
            | (go_at_call 11; (with_reducible refine (km _ _ _ ?_ ?_).mono ?_); (first | assumption | exact rudd (by assumption)); (first | assumption | exact bxd (by assumption)); rintro en w6 ⟨rfl, HB6⟩)
            | (go_at_call 9; (with_reducible refine (k1 _ ?_).mono ?_); (first | assumption | exact bxd (by assumption)); rintro en w7 ⟨rfl, HB7⟩)
            | (go_at_call 9; (with_reducible refine (k2 _ ?_).mono ?_); (first | assumption | exact bxd (by assumption)); rintro en w8 ⟨rfl, HB8⟩)
            | (go_at_call 13; (with_reducible refine (k3 _ ?_).mono ?_); (first | assumption | exact bxd (by assumption)); rintro en w9 ⟨rfl, HB9⟩)
            | (go_at_call 13; (with_reducible refine (k4 _ ?_).mono ?_); (first | assumption | exact bxd (by assumption)); rintro en w10 ⟨rfl, HB10⟩))
        all_goals
          clear kr km k1 k2 k3 k4 e1 e2 x0 x1 x2 x3 y0 y1 y2 y3 HR6 HB5 HB6 HB7 HB8 HB9
          obtain ⟨x0, x1, x2, x3, y0, y1, y2, y3⟩ := hxy.out _ HB10
          go_wp2_with fail
          refine (k5 _ HB10).mono ?_
          clear k5 x0 x1 x2 x3 y0 y1 y2 y3
          rintro en w11 ⟨v, rfl, HI, HB11⟩
          obtain ⟨pv, cv, rfl⟩ := HI.out.sl
          go_wp2_with fail
          go_loopg [11, 12] vv.length (fun k v11 v12 wr => ∃ (i : Nat) (b : Bool), k = vv.length - i ∧ i ≤ vv.length ∧ v11 = .bool b ∧ v12 = .int .i64 i ∧ Hid (Below W.heap.size W wr) ∧ Hid (Iw 0 wr (.slice pv vv.length cv) vv) ∧ Hid (b = true ↔ Sg (sgI (toI z)) vv i 0))
          case atStart => exact ⟨0, true, by omega, by omega, rfl, rfl, HB11, HI, Lib.hid ⟨fun _ => sg_0, fun _ => rfl⟩⟩
          case round =>
            obtain ⟨i, b, hgk, hi, rfl, rfl, HBr, HIr, HS⟩ := hrel
            by_cases hlt : i < vv.length
            · have hlt2 : (i : Int) < vv.length := by omega
              have i4 : (0 : Int) ≤ (i : Int) := by omega
              go_wp2_with fail
              go_loopg [11, 13] i (fun k v11 v13 wr => ∃ (j : Nat) (b : Bool), k = i - j ∧ j ≤ i ∧ v11 = .bool b ∧ v13 = .int .i64 j ∧ Hid (Below W.heap.size W wr) ∧ Hid (Iw 0 wr (.slice pv vv.length cv) vv) ∧ Hid (b = true ↔ Sg (sgI (toI z)) vv i j))
              case atStart => exact ⟨0, b, by omega, by omega, rfl, rfl, HBr, HIr, HS⟩
              case round =>
                obtain ⟨j, b2, hgk2, hj, rfl, rfl, HBq, HIq, HSq⟩ := hrel
                by_cases hjl : j < i
                · have hjl2 : (j : Int) < i := by omega
                  have j4 : (0 : Int) ≤ (j : Int) := by omega
                  have hSt := sg_step (σ := sgI (toI z)) (l := vv) (i := i) (k := j)
                  cases b2 with
                  | false =>
                    have HSn : Hid ((false = true) ↔ Sg (sgI (toI z)) vv i (j + 1)) := Lib.hid ⟨fun h => (by cases h), fun h => absurd (HSq.out.2 (hSt.1 h).1) (by simp)⟩
                    clear hSt
                    go_wp2_with fail
                    go_quiet (fail)
                    go_wp2
                    go_roundg (i - (j + 1))
                    case measure => omega
                    case rel => exact ⟨j + 1, false, rfl, by omega, rfl, by go_num, bxd HBq, iwd HIq, HSn⟩
                  | true =>
                    obtain ⟨g, hpe, hcap, hci, hcj⟩ : ∃ g, pv = some ⟨g, 0, none⟩ ∧ vv.length ≤ cv ∧ wr.cell? ⟨g, i, none⟩ = some (.int .i64 (vv.getD i 0)) ∧ wr.cell? ⟨g, j, none⟩ = some (.int .i64 (vv.getD j 0)) := by
                      have hjv : j < vv.length := by omega
                      rcases HIq.out.shape with ⟨_, e⟩ | ⟨g, cap', e, h1, _, h2⟩
                      · rw [e] at hlt; exact absurd hlt (Nat.not_lt_zero _)
                      · injection e with e1 _ e3
                        refine ⟨g, e1, by rw [e3]; exact h1, ?_, ?_⟩
                        · rw [h2 i hlt]; simp [hlt]
                        · rw [h2 j hjv]; simp [hjv]
                    subst hpe
                    have hbi := hvb.out (vv.getD i 0) (by simp [hlt])
                    have hbj := hvb.out (vv.getD j 0) (by simp [show j < vv.length by omega])
                    have hbw : ∀ q, Below w.heap.size w (wr.drewN q) := fun q => HWw.out.trans ((HBq.out.trans (dN _ _ q)).mono HWw.out.size)
                    have q1 : ∀ q, Calls Try.prog 15 #[.int .i64 (vv.getD i 0), .slice az z.length cz] (wr.drewN q) fun e w'' => e = .returned (.int .i64 (sgI (toI z) (vv.getD i 0))) ∧ ∃ m, w'' = wr.drewN m := fun q =>
                      (lplace_c hbi.1 hbi.2 HZ.out (hbw q)).mono fun e w' ⟨h1, h2⟩ => ⟨h1, q, h2⟩
                    have q2 : ∀ q, Calls Try.prog 15 #[.int .i64 (vv.getD j 0), .slice az z.length cz] (wr.drewN q) fun e w'' => e = .returned (.int .i64 (sgI (toI z) (vv.getD j 0))) ∧ ∃ m, w'' = wr.drewN m := fun q =>
                      (lplace_c hbj.1 hbj.2 HZ.out (hbw q)).mono fun e w' ⟨h1, h2⟩ => ⟨h1, q, h2⟩
                    have HSn : Hid (decide (sgI (toI z) (vv.getD i 0) ≠ sgI (toI z) (vv.getD j 0)) = true ↔ Sg (sgI (toI z)) vv i (j + 1)) := Lib.hid (by
                      rw [hSt, decide_eq_true_iff]
                      exact ⟨fun h => ⟨HSq.out.1 rfl, fun _ _ => h⟩, fun h => h.2 hlt hjl⟩)
                    clear hSt hbi hbj hbw
                    generalize sgI (toI z) (vv.getD i 0) = si at *
                    generalize sgI (toI z) (vv.getD j 0) = sj at *
                    generalize vv.getD i 0 = vi at *
                    generalize vv.getD j 0 = vj at *
                    by_cases he : si = sj
                    · have hd : (si == sj) = true := by simp [he]
                      have HSn2 : Hid ((false = true) ↔ Sg (sgI (toI z)) vv i (j + 1)) := Lib.hid (by rw [← HSn.out]; simp [he])
                      clear HSn he
                      go_wp2_with fail
                      go_quiet ((first | (go_at_call 15; with_reducible exact q1 _) | (go_at_call 15; with_reducible exact q2 _)))
                      clear q1 q2
                      go_wp2
                      go_roundg (i - (j + 1))
                      case measure => omega
                      case rel => exact ⟨j + 1, false, rfl, by omega, by simp [bne, hd], by go_num, bxd HBq, iwd HIq, HSn2⟩
                    · have hd : (si == sj) = false := by simp [he]
                      have HSn2 : Hid ((true = true) ↔ Sg (sgI (toI z)) vv i (j + 1)) := Lib.hid (by rw [← HSn.out]; simp [he])
                      clear HSn he
                      go_wp2_with fail
                      go_quiet ((first | (go_at_call 15; with_reducible exact q1 _) | (go_at_call 15; with_reducible exact q2 _)))
                      clear q1 q2
                      go_wp2
                      go_roundg (i - (j + 1))
                      case measure => omega
                      case rel => exact ⟨j + 1, true, rfl, by omega, by simp [bne, hd], by go_num, bxd HBq, iwd HIq, Lib.hid (by simpa using HSn2.out)⟩
                · have hjl2 : ¬ ((j : Int) < i) := by omega
                  have hji : j = i := by omega
                  have HSn : Hid (b2 = true ↔ Sg (sgI (toI z)) vv (i + 1) 0) := Lib.hid (HSq.out.trans (by rw [hji]; exact sg_row))
                  clear hji
                  go_wp2_with fail
                  go_roundg (vv.length - (i + 1))
                  case measure => omega
                  case rel => exact ⟨i + 1, b2, rfl, by omega, rfl, by go_num, HBq, HIq, HSn⟩
            · have hlt2 : ¬ ((i : Int) < vv.length) := by omega
              obtain ⟨x0, x1, x2, x3, y0, y1, y2, y3⟩ := hxy.out _ HBr
              have hbv : b = vb := by
                have hie : i = vv.length := by omega
                rw [Bool.eq_iff_iff, HS.out, hie, sg_inj Hvn.out]; exact Hvy.out.symm
              go_wp2_with fail
              refine (k6 _ HBr).mono ?_
              rintro en w12 ⟨rfl, HB12⟩
              clear k6 x0 x1 x2 x3 y0 y1 y2 y3
              go_wp2
              go_ret
              exact ⟨by simp, HWw.out.trans (HB12.out.mono HWw.out.size)⟩
  · have HB2 := Lib.hid (HB1.out.trans ((allocB w1 (.cells #[.int .i64 u.k, .int .i64 u.n, .string (bs u.s), .slice p u.l.length cap] 25)).mono HB1.out.size))
    have kz := size_c (ruE (w1.alloc (.cells #[.int .i64 u.k, .int .i64 u.n, .string (bs u.s), .slice p u.l.length cap] 25))) (by rw [szE]; omega)
    rw [szE] at kz
    have kz2 := kz.mono fun e w3 (h : _ ∧ _) => (⟨h.1, Lib.hid (HB2.out.trans (h.2.mono HB2.out.size))⟩ : e = .returned (.int .i64 ((1 : Nat) : Int)) ∧ Hid (Below w.heap.size w w3))
    unfold uE uV at kz2
    have ebs : bs [97] = { data := #[97] } := rfl
    simp only [U.k, U.n, U.s, ebs] at kz2
    unfold uV
    clear hb hru hok kz
    cases ok with
    | false =>
      go_wp2_with fail
      refine kz2.mono ?_
      rintro e w2 ⟨rfl, HB3⟩
      clear kz2
      go_wp2
      go_ret
      exact ⟨rfl, HB3.out⟩
    | true =>
      have hng : (100 : Int) < z.length := by
        have : ¬ z.length ≤ 100 := fun h => hoo ⟨rfl, h⟩
        omega
      go_wp2_with fail
      refine kz2.mono ?_
      rintro e w2 ⟨rfl, HB3⟩
      clear kz2
      go_wp2
      go_ret
      exact ⟨rfl, HB3.out⟩
end Go.Proofs.Ytjccohcigopdfaa.tm
end
