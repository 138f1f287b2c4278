/- The law's own function alike: its walk.; The law's own function alike, whole.; The law's own function sames: two rows of sentences that are one.; What the two Ones give, as the laws look at it.; A term that is read, as it is written.; WriteBack: its walk.; A sentence's names, as a term is written by them. -/
import Derived.Test.YtpihmockcjdafaaQ24
import Derived.BigQuiet
import Derived.Laws.AppendOwnNone
import Derived.Deep.RegionHeld3
import Derived.Test.YtpihmockcjdafaaQ20
import Derived.Test.YtpihmockcjdafaaQ11
import Derived.Test.YtpihmockcjdafaaQ21
set_option linter.unusedVariables false
set_option linter.unusedSimpArgs false
section
/- The law's own function alike: its walk. -/
namespace Go.Proofs.Ytpihmockcjdafaa.wr
open Go.RowKit
open Go.Proofs.Ytpihmockcjdafaa.rd
open Go.Proofs.Ytpihmockcjdafaa.ls
open Go.Proofs.Ytpihmockcjdafaa.op (bs strC)
open Go.Proofs.Ytpihmockcjdafaa.lx (cell_at ieq_yes ieq_no)
set_option maxRecDepth 20000

def AlQ (r : List (Int × Int) × Bool) (w : World) (e : Ending) (w' : World) : Prop :=
  ∃ v', e = .returned (.tuple #[v', .bool r.2]) ∧ Pw 0 w' v' r.1 ∧ Below w.heap.size w w'
abbrev AlOk (t : T) : Prop := ∀ (u : T) (a c v : Value) (ps : List (Int × Int)) (w : World), nkT t → nkT u → Rp Any w t a → Rp Any w u c → Pw 0 w v ps → ps.length + lvT t ≤ 1000000 →
  Calls Try.prog 12 #[tV t a, tV u c, v] w (AlQ (alT t u ps) w)
theorem dN (B : Nat) (W : World) (k : Nat) : Below B W (W.drewN k) := ⟨rfl, rfl, rfl, Nat.le_refl _, fun _ _ => rfl⟩
theorem dNN (B : Nat) (W : World) (k m : Nat) : Below B W ((W.drewN k).drewN m) := (dN B W k).trans (dN B _ m)
/-- 'append(l, pairs...)', l one's own -/
theorem wpList_ps {ops : Array Oper} {rest : List Oper} {o : Oper} {a : Act} {Q : Exit → Act → World → Prop} (hgd : o.guard = none) (s x : Operand)
    (ho : o.op = .call { callee := .builtin .append, args := #[s, x], argTypes := #[33, 33] })
    (B : Nat) (W : World) (v0 : Value) (l : List (Int × Int)) (hs : a.eval s = v0) (hown : Pw B W v0 l) (v : Value) (ps : List (Int × Int)) (hx : a.eval x = v) (hp : Pw 0 W v ps) (hl : l.length + ps.length ≤ 2000000) (hB : B ≤ W.heap.size)
    (h : ∀ v' w', Pw B w' v' (l ++ ps) → Below B W w' → wpList Try.prog ops Q rest (a.put o.dst v') w') : wpList Try.prog ops Q (o :: rest) a W := by
  obtain ⟨i0, hi, hz0, hz1, hz2⟩ := info_parts pair_info
  rcases hp.shape with ⟨rfl, rfl⟩ | ⟨g, cap, rfl, hcap, hg, hc⟩
  · exact wpList_append_own_none hgd s x 33 ho B 43 i0 2 Try.underlying33 hi v0 l.length (pcs l) hs hown hx (h v0 W (by rw [List.append_nil]; exact hown) (Below.refl _ _))
  · have hcc := World.ownsRow.cells hp (g := g) rfl
    refine wpList_append_own _ hgd s x 33 ho B 43 i0 _ 2 16 Try.underlying33 hi hz0 hz1 hz2 rfl (by decide) v0 l.length (pcs l) hs hown ⟨g, 0, none⟩ ps.length cap (pcs ps) hx (pcs_len ps) hcc ?_ (by unfold maxLen; omega) (by omega) hB ?_
    · intro y hy
      rw [pcs, List.mem_flatMap] at hy
      obtain ⟨z, _, hy⟩ := hy
      simp at hy
      rcases hy with rfl | rfl <;> rfl
    · intro v' w' hown' hgr _
      refine h v' w' (by unfold Pw; rw [List.length_append, pcs_append]; exact hown') ⟨hgr.os, hgr.tape, hgr.output, hgr.size, fun k hk => hgr.block k (by omega) (fun e => by have := (World.ownsRow.lt hown k e.symm).1; omega)⟩
theorem pw_new {w : World} : Pw w.heap.size (w.alloc (.cells #[] 43)) (.slice (some ⟨w.heap.size, 0, none⟩) 0 0) [] := rr.own0 (heap_alloc_new w _)
theorem pw_one {w : World} (n m : Int) : Pw 0 (w.alloc (.cells #[.int .i64 n, .int .i64 m] 43)) (.slice (some ⟨w.heap.size, 0, none⟩) 1 1) [(n, m)] :=
  ⟨by simp [pcs], .inr ⟨w.heap.size, 1, #[.int .i64 n, .int .i64 m], rfl, Nat.zero_le _, heap_alloc_new w _, Nat.le_refl _, by unfold maxLen; omega, by simp, by simp [pcs]⟩⟩
theorem Pw.alloc {B : Nat} {w : World} {v : Value} {ps : List (Int × Int)} (h : Pw B w v ps) (o : Obj) : Pw B (w.alloc o) v ps := h.stay ((Below.refl _ _).alloc (Nat.le_refl _) o)
theorem Pw.zero {B : Nat} {w : World} {v : Value} {ps : List (Int × Int)} (h : Pw B w v ps) : Pw 0 w v ps := World.ownsRow.mono h (Nat.zero_le _)
set_option maxHeartbeats 4000000 in
theorem alike_var {t u : T} {a c v : Value} {ps : List (Int × Int)} {w : World} (h1 : t.k = 1) (h1' : u.k = 1) (ht : nkT t) (hu : nkT u) (ha : Rp Any w t a) (hc : Rp Any w u c) (hv : Pw 0 w v ps) (hl : ps.length + lvT t ≤ 1000000) :
    Calls Try.prog 12 #[tV t a, tV u c, v] w (AlQ (alT t u ps) w) := by
  rw [alT_eq ht hu, if_neg (by rw [h1, h1']; exact fun h => h rfl), if_pos h1]
  have PA := pt ha
  have PC := pt hc
  obtain ⟨pa, ca, rfl⟩ := PA.shape
  obtain ⟨pc, cc, rfl⟩ := PC.shape
  unfold tV
  obtain ⟨b0, b1, bz, bb⟩ := boxes w (.cells #[.int .i64 (t.k : Nat), .int .i64 t.n, .string (bs t.s), .slice pa (parts t).length ca] 24) (.cells #[.int .i64 (u.k : Nat), .int .i64 u.n, .string (bs u.s), .slice pc (parts u).length cc] 24)
  have HV := Lib.hid (hv.stay bb)
  have HB := Lib.hid bb
  have hB0 := Lib.hid b0
  have hB1 := Lib.hid b1
  have hBz := Lib.hid bz
  have hsome := Lib.hid (fun b h => alV_some (n := t.n) (m := u.n) (p := ps) (b := b) h)
  have hnone := Lib.hid (fun h => alV_none (n := t.n) (m := u.n) (p := ps) h)
  have hvs : ∃ pv cv, v = .slice pv ps.length cv := by
    rcases hv.shape with ⟨h, h'⟩ | ⟨g, cap, h, _⟩
    · exact ⟨none, 0, by rw [h, h']; rfl⟩
    · exact ⟨_, _, h⟩
  obtain ⟨pv, cv, rfl⟩ := hvs
  generalize alV t.n u.n ps = R at *
  generalize t.k = kk at *
  generalize u.k = kk' at *
  subst h1 h1'
  generalize t.n = nn at *
  generalize u.n = mm at *
  generalize bs t.s = s1 at *
  generalize bs u.s = s2 at *
  clear ha hc PA PC ht hu hv b0 b1 bz bb
  generalize (parts t).length = l1 at *
  generalize (parts u).length = l2 at *
  go_enter Try.func12, Try.ntmps12
  go_wp2
  generalize World.alloc (World.alloc w _) _ = W at *
  go_loopg [8] ps.length (fun k v8 wr => ∃ i : Nat, k = ps.length - i ∧ i ≤ ps.length ∧ v8 = .int .i64 i ∧ Hid (Below W.heap.size W wr) ∧ Hid (lkP nn mm (ps.drop i) = lkP nn mm ps))
  case atStart => exact ⟨0, by omega, by omega, rfl, Lib.hid (Below.refl _ _), Lib.hid rfl⟩
  case round =>
    obtain ⟨i, hgk, hi, rfl, HW, HL⟩ := hrel
    have hbo0 := (HW.out.block w.heap.size (lt_of hB0.out)).trans hB0.out
    have hbo1 := (HW.out.block (w.heap.size + 1) (lt_of hB1.out)).trans hB1.out
    obtain ⟨x0, x1, x2, x3, _⟩ := cells4 hbo0
    obtain ⟨y0, y1, y2, y3, _⟩ := cells4 hbo1
    clear hbo0 hbo1
    by_cases hlt : i < ps.length
    · have hlt2 : (i : Int) < ps.length := by omega
      have i4 : (0 : Int) ≤ (i : Int) := by omega
      have hpv : ∃ g, pv = some ⟨g, 0, none⟩ ∧ ps.length ≤ cv ∧ wr.cell? ⟨g, i * 2, none⟩ = some (.int .i64 ps[i].1) ∧ wr.cell? ⟨g, i * 2 + 1, none⟩ = some (.int .i64 ps[i].2) := by
        rcases (HV.out.stay HW.out).shape with ⟨h, h'⟩ | ⟨g, cap, h, h', _, hc⟩
        · rw [h'] at hlt; exact absurd hlt (Nat.not_lt_zero _)
        · injection h with e1 _ e3
          exact ⟨g, e1, by rw [e3]; exact h', (hc i hlt).1, (hc i hlt).2⟩
      obtain ⟨g, rfl, hcv, c0, c1⟩ := hpv
      have hd : ps.drop i = ps[i] :: ps.drop (i + 1) := List.drop_eq_getElem_cons hlt
      have hl2 := HL.out
      rw [hd, show ps[i] = (ps[i].1, ps[i].2) from rfl, lkP] at hl2
      generalize ps[i].1 = p1 at *
      generalize ps[i].2 = p2 at *
      by_cases h1 : p1 = nn
      · subst h1
        rw [if_pos (.inl rfl)] at hl2
        have hR := hsome.out _ hl2.symm
        subst hR
        clear hsome hnone HL hl2 hd
        by_cases h2 : p2 = mm
        · subst h2
          go_wp2
          go_quiet (fail)
          go_wp2
          go_quiet (fail)
          go_wp2
          go_ret2
          exact ⟨_, by simp, HV.out.stay (HW.out.trans (dNN _ _ _ _)), HB.out.trans ((HW.out.trans (dNN _ _ _ _)).mono HB.out.size)⟩
        · have e2 : (p2 == mm) = false := beq_eq_false_iff_ne.2 h2
          go_wp2
          go_quiet (fail)
          go_wp2
          go_quiet (fail)
          go_wp2
          go_ret2
          exact ⟨_, by simp [e2], HV.out.stay (HW.out.trans (dNN _ _ _ _)), HB.out.trans ((HW.out.trans (dNN _ _ _ _)).mono HB.out.size)⟩
      · have e1 : (p1 == nn) = false := beq_eq_false_iff_ne.2 h1
        by_cases h2 : p2 = mm
        · subst h2
          rw [if_pos (.inr rfl)] at hl2
          have hR := hsome.out _ hl2.symm
          subst hR
          clear hsome hnone HL hl2 hd h1
          go_wp2
          go_quiet (fail)
          go_wp2
          go_quiet (fail)
          go_wp2
          go_ret2
          exact ⟨_, by simp [e1], HV.out.stay (HW.out.trans (dNN _ _ _ _)), HB.out.trans ((HW.out.trans (dNN _ _ _ _)).mono HB.out.size)⟩
        · have e2 : (p2 == mm) = false := beq_eq_false_iff_ne.2 h2
          rw [if_neg (fun h => h.elim h1 h2)] at hl2
          have HL2 := Lib.hid hl2
          clear hl2 hd h1 h2 HL
          go_wp2
          go_quiet (fail)
          go_wp2
          go_roundg (ps.length - (i + 1))
          case measure => omega
          case rel => exact ⟨i + 1, rfl, by omega, by go_num, Lib.hid (HW.out.trans (dN _ _ _)), HL2⟩
    · have hlt2 : ¬ ((i : Int) < ps.length) := by omega
      have hln : lkP nn mm ps = none := by rw [← HL.out, List.drop_eq_nil_of_le (by omega), lkP]
      have hR := hnone.out hln
      subst hR
      have HVr := Lib.hid ((HV.out.stay HW.out).alloc (.cells #[] 43))
      clear hsome hnone HL hln x0 x2 x3 y0 y2 y3
      have hl3 : ([] : List (Int × Int)).length + ps.length ≤ 2000000 := by simp; omega
      have hB3 : wr.heap.size ≤ (wr.alloc (.cells #[] 43)).heap.size := by simp
      have HL3 := Lib.hid hl3
      have HB3 := Lib.hid hB3
      clear hl3 hB3
      have hk : Hid (∀ w2, Below wr.heap.size wr w2 → w2.cell? ⟨w.heap.size, 1, none⟩ = some (.int .i64 nn) ∧ w2.cell? ⟨w.heap.size + 1, 1, none⟩ = some (.int .i64 mm)) := Lib.hid fun w2 hb => by
        have hs := HW.out.size
        have hz := hBz.out
        unfold World.cell? at x1 y1 ⊢
        dsimp only at x1 y1 ⊢
        rw [hb.block w.heap.size (by omega), hb.block (w.heap.size + 1) (by omega)]
        exact ⟨x1, y1⟩
      have hl4 : Hid (ps.length + [(nn, mm)].length ≤ 2000000) := Lib.hid (by simp; omega)
      go_wp2_with (at_builtin; first
        | (refine wpList_ps rfl _ _ rfl wr.heap.size _ (.slice (some ⟨wr.heap.size, 0, none⟩) 0 0) [] rfl pw_new (.slice pv ps.length cv) ps rfl HVr.out HL3.out HB3.out ?_; intro v9 w9 hv9 hb9; rw [List.nil_append] at hv9; have HV9 := Lib.hid hv9; have HB9 := Lib.hid (((Below.refl wr.heap.size wr).alloc (Nat.le_refl _) (.cells #[] 43)).trans hb9); obtain ⟨z1, z2⟩ := hk.out w9 HB9.out; clear hv9 hb9)
        | (refine wpList_ps rfl _ _ rfl wr.heap.size _ v9 ps rfl (HV9.out.alloc _) (.slice (some ⟨w9.heap.size, 0, none⟩) 1 1) [(nn, mm)] rfl (pw_one nn mm) hl4.out (Nat.le_trans HB9.out.size (by simp)) ?_; intro v8 w8 hv8 hb8; have HV8 := Lib.hid hv8; have HB8 := Lib.hid ((HB9.out.alloc HB9.out.size (.cells #[.int .i64 nn, .int .i64 mm] 43)).trans hb8); clear hv8 hb8))
      go_ret2
      exact ⟨v8, rfl, HV8.out.zero, HB.out.trans ((HW.out.trans (HB8.out.mono HW.out.size)).mono HB.out.size)⟩
end Go.Proofs.Ytpihmockcjdafaa.wr
end
section
/- The law's own function alike, whole. -/
namespace Go.Proofs.Ytpihmockcjdafaa.wr
open Go.RowKit
open Go.Proofs.Ytpihmockcjdafaa.rd
open Go.Proofs.Ytpihmockcjdafaa.ls
open Go.Proofs.Ytpihmockcjdafaa.op (bs strC)
open Go.Proofs.Ytpihmockcjdafaa.lx (cell_at ieq_yes ieq_no)
set_option maxRecDepth 20000

theorem lvL_at {l : List T} {i : Nat} (hi : i < l.length) : lvL (l.drop i) = lvT (l.getD i dfT) + lvL (l.drop (i + 1)) := by
  rw [List.drop_eq_getElem_cons hi, lvL]; simp [hi]
theorem nkL_at : ∀ {l : List T}, nkL l → ∀ i, i < l.length → nkT (l.getD i dfT)
  | [], _, i, hi => absurd hi (Nat.not_lt_zero _)
  | t :: l, h, i, hi => by
    rw [nkL] at h
    cases i with
    | zero => exact h.1
    | succ i => have := nkL_at h.2 i (by simpa using hi); simpa using this
theorem nk_parts {t : T} (h : nkT t) : nkL (parts t) := by
  cases t with
  | leaf k n s => show nkL []; rw [nkL]; trivial
  | cmp s l => rw [nkT] at h; exact h
theorem lv_parts (t : T) : lvL (parts t) ≤ lvT t := by
  cases t with
  | leaf k n s => show lvL [] ≤ _; rw [lvL]; omega
  | cmp s l => rw [lvT]; exact Nat.le_refl _
theorem isL' (x : List UInt8) : (bs x).toList = x := by rw [ByteArray.toList_eq]; rfl
theorem bs_ne {x y : List UInt8} : ((bs x).toList != (bs y).toList) = true ↔ x ≠ y := by
  rw [ByteArray.toList_eq, ByteArray.toList_eq]; exact bne_iff_ne
set_option maxHeartbeats 4000000 in
theorem alike_rest {t u : T} {a c v : Value} {ps : List (Int × Int)} {w : World} (h1 : t.k ≠ 1 ∨ t.k ≠ u.k) (ih : ∀ i, i < (parts t).length → AlOk ((parts t).getD i dfT)) (ht : nkT t) (hu : nkT u) (ha : Rp Any w t a) (hc : Rp Any w u c) (hv : Pw 0 w v ps) (hl : ps.length + lvT t ≤ 1000000) :
    Calls Try.prog 12 #[tV t a, tV u c, v] w (AlQ (alT t u ps) w) := by
  rw [alT_eq ht hu]
  have PA := pt ha
  have PC := pt hc
  have hN := PA.len
  have hM := PC.len
  unfold maxLen at hN hM
  obtain ⟨pa, ca, rfl⟩ := PA.shape
  obtain ⟨pc, cc, rfl⟩ := PC.shape
  unfold tV
  obtain ⟨b0, b1, bz, bb⟩ := boxes w (.cells #[.int .i64 (t.k : Nat), .int .i64 t.n, .string (bs t.s), .slice pa (parts t).length ca] 24) (.cells #[.int .i64 (u.k : Nat), .int .i64 u.n, .string (bs u.s), .slice pc (parts u).length cc] 24)
  have HV := Lib.hid (hv.stay bb)
  have HB := Lib.hid bb
  have hB0 := Lib.hid b0
  have hB1 := Lib.hid b1
  have hBz := Lib.hid bz
  have HA := Lib.hid PA
  have HC := Lib.hid PC
  have HT := Lib.hid (nk_parts ht)
  have HU := Lib.hid (nk_parts hu)
  have hlv := lv_parts t
  have IH := Lib.hid ih
  have hs1 := isL' t.s
  have hs2 := isL' u.s
  generalize t.k = kk at *
  generalize u.k = kk' at *
  generalize t.n = nn at *
  generalize u.n = mm at *
  generalize hS1 : t.s = S1 at *
  generalize hS2 : u.s = S2 at *
  generalize bs S1 = s1 at *
  generalize bs S2 = s2 at *
  clear ha hc PA PC ht hu hv b0 b1 bz bb ih
  generalize parts t = l1 at *
  generalize parts u = l2 at *
  clear hS1 hS2
  by_cases hk : kk = kk'
  · subst hk
    have h1 : kk ≠ 1 := h1.elim id (fun h => absurd rfl h)
    rw [if_neg (fun h => h rfl), if_neg h1]
    obtain ⟨k1, k1'⟩ := ieq_no (a := kk) 1 (by omega)
    have k0 : ((kk : Int) != (kk : Int)) = false := by simp
    by_cases h2 : kk = 2
    · subst h2
      rw [if_pos rfl]
      clear hs1 hs2 h1 k1 k1' HA HC IH HT HU
      go_enter Try.func12, Try.ntmps12
      go_wp2
      go_quiet (fail)
      go_wp2
      go_ret2
      exact ⟨_, rfl, HV.out.stay (dN _ _ _), HB.out.trans (dN _ _ _)⟩
    rw [if_neg h2]
    obtain ⟨k2, k2'⟩ := ieq_no (a := kk) 2 (by omega)
    by_cases hS : S1 = S2
    · have e1 : (s1.toList != s2.toList) = false := by rw [hs1, hs2, hS]; simp
      have e1' : (s1.toList == s2.toList) = true := by rw [hs1, hs2, hS]; simp
      rw [if_neg (fun h => h hS)]
      clear hs1 hs2 hS
      by_cases h3 : kk = 3
      · subst h3
        rw [if_pos rfl]
        clear HA HC IH HT HU
        go_enter Try.func12, Try.ntmps12
        go_wp2
        go_ret2
        exact ⟨_, rfl, HV.out, HB.out⟩
      rw [if_neg h3]
      obtain ⟨k3, k3'⟩ := ieq_no (a := kk) 3 (by omega)
      by_cases hlen : l1.length = l2.length
      · rw [if_neg (fun h => h hlen)]
        have e4 : ((l1.length : Int) != (l2.length : Int)) = false := by rw [hlen]; simp
        have e4' : ((l1.length : Int) == (l2.length : Int)) = true := by rw [hlen]; simp
        have HLv : Hid (ps.length + lvL l1 ≤ 1000000) := Lib.hid (by omega)
        generalize hR : alL l1 l2 ps = R
        have HR := Lib.hid hR
        have Hlen := Lib.hid hlen
        clear hR hlen hlv hl
        go_enter Try.func12, Try.ntmps12
        go_wp2
        generalize World.alloc (World.alloc w _) _ = W at *
        clear e1 e1' e4 e4'
        go_loopg [2, 10, 11] l1.length (fun k v2 v10 v11 wr => ∃ (i : Nat) (ps' : List (Int × Int)) (v' : Value) (ok : Bool), k = l1.length - i ∧ i ≤ l1.length ∧ v2 = v' ∧ v10 = .bool ok ∧ v11 = .int .i64 i ∧ Hid (Below W.heap.size W wr) ∧ Hid (Pw 0 wr v' ps') ∧
          Hid ((ok = true ∧ alL (l1.drop i) (l2.drop i) ps' = R ∧ ps'.length + lvL (l1.drop i) ≤ 1000000) ∨ (ok = false ∧ R = (ps', false))))
        case atStart => exact ⟨0, ps, _, true, by omega, by omega, rfl, rfl, rfl, Lib.hid (Below.refl _ _), HV, Lib.hid (.inl ⟨rfl, HR.out, HLv.out⟩)⟩
        case round =>
          obtain ⟨i, ps', v', ok, hgk, hi, rfl, rfl, rfl, HW, HP, HI⟩ := hrel
          have hbo0 := (HW.out.block w.heap.size (lt_of hB0.out)).trans hB0.out
          have hbo1 := (HW.out.block (w.heap.size + 1) (lt_of hB1.out)).trans hB1.out
          obtain ⟨x0, x1, x2, x3, _⟩ := cells4 hbo0
          obtain ⟨y0, y1, y2, y3, _⟩ := cells4 hbo1
          clear hbo0 hbo1
          by_cases hlt : i < l1.length
          · have hlt2 : (i : Int) < l1.length := by omega
            cases ok with
            | false =>
              have hR : R = (ps', false) := by rcases HI.out with h | h; exact absurd h.1 (by decide); exact h.2
              subst hR
              clear HI
              go_wp2
              go_ret2
              exact ⟨_, rfl, HP.out, HB.out.trans (HW.out.mono HB.out.size)⟩
            | true =>
              obtain ⟨_, hR, hlv2⟩ : True ∧ alL (l1.drop i) (l2.drop i) ps' = R ∧ ps'.length + lvL (l1.drop i) ≤ 1000000 := by rcases HI.out with h | h; exact ⟨trivial, h.2⟩; exact absurd h.1 (by decide)
              have hlt3 : i < l2.length := by have := Hlen.out; omega
              have hlt4 : (i : Int) < l2.length := by omega
              have i4 : (0 : Int) ≤ (i : Int) := by omega
              rw [alL_drop hlt hlt3] at hR
              rw [lvL_at hlt] at hlv2
              obtain ⟨g, cap, p, m, c, hv, hcap, hgl, hRp, d0, d1, d2, d3⟩ := HA.out.el i hlt
              obtain ⟨rfl, rfl⟩ : pa = some ⟨g, 0, none⟩ ∧ ca = cap := by simp at hv; exact hv
              obtain ⟨g', cap', p', m', c', hv', hcap', hgl', hRp', f0, f1, f2, f3⟩ := HC.out.el i hlt3
              obtain ⟨rfl, rfl⟩ : pc = some ⟨g', 0, none⟩ ∧ cc = cap' := by simp at hv'; exact hv'
              have hww : Below w.heap.size w wr := HB.out.trans (HW.out.mono HB.out.size)
              have xc : ∀ (q : Nat) (hq : q < w.heap.size) (j : Nat), wr.cell? ⟨q, j, none⟩ = w.cell? ⟨q, j, none⟩ := fun q hq j => World.cell?_of_block (hww.block q hq)
              rw [← xc g hgl] at d0 d1 d2 d3
              rw [← xc g' hgl'] at f0 f1 f2 f3
              have kx := fun n => IH.out i hlt (l2.getD i dfT) (.slice p m c) (.slice p' m' c') _ ps' (wr.drewN n) (nkL_at HT.out i hlt) (nkL_at HU.out i hlt3) ((hRp.kept (Kt.below hww)).kept (Kt.below (dN _ _ _))) ((hRp'.kept (Kt.below hww)).kept (Kt.below (dN _ _ _))) (HP.out.stay (dN _ _ _)) (by omega)
              have hbz : w.heap.size + 1 < wr.heap.size := Nat.lt_of_lt_of_le (lt_of hB1.out) HW.out.size
              have hbk : Hid (∀ w2, Below wr.heap.size wr w2 → ∀ (q : Nat), q < wr.heap.size → ∀ (j : Nat), w2.cell? ⟨q, j, none⟩ = wr.cell? ⟨q, j, none⟩) := Lib.hid fun w2 h q hq j => World.cell?_of_block (h.block q hq)
              have hg1 : g < wr.heap.size := Nat.lt_of_lt_of_le hgl hww.size
              have hg2 : g' < wr.heap.size := Nat.lt_of_lt_of_le hgl' hww.size
              have hlen2 := al_len (l1.getD i dfT) (l2.getD i dfT) ps'
              have HI2 : Hid (((alT (l1.getD i dfT) (l2.getD i dfT) ps').2 = true ∧ alL (l1.drop (i + 1)) (l2.drop (i + 1)) (alT (l1.getD i dfT) (l2.getD i dfT) ps').1 = R ∧ (alT (l1.getD i dfT) (l2.getD i dfT) ps').1.length + lvL (l1.drop (i + 1)) ≤ 1000000) ∨ ((alT (l1.getD i dfT) (l2.getD i dfT) ps').2 = false ∧ R = ((alT (l1.getD i dfT) (l2.getD i dfT) ps').1, false))) := Lib.hid (by
                cases hb : (alT (l1.getD i dfT) (l2.getD i dfT) ps').2 with
                | true => left; rw [hb, if_pos rfl] at hR; exact ⟨rfl, hR, by omega⟩
                | false => right; rw [hb, if_neg (by decide)] at hR; exact ⟨rfl, hR.symm⟩)
              have Hc := Lib.hid (And.intro hcap hcap')
              clear hRp hRp' hww xc hv hv' HA HC IH HT HU HR HLv HI hR hlv2 hlen2
              generalize alT (l1.getD i dfT) (l2.getD i dfT) ps' = X at *
              generalize l1.getD i dfT = tx at *
              generalize l2.getD i dfT = ty at *
              go_wp2_with fail
              unfold tV at kx
              go_region_held3 (fun w' => w'.cell? ⟨w.heap.size, 3, none⟩ = some (.slice (some ⟨g, 0, none⟩) l1.length ca) ∧ w'.cell? ⟨w.heap.size + 1, 3, none⟩ = some (.slice (some ⟨g', 0, none⟩) l2.length cc) ∧
                w'.cell? ⟨g, i * 4, none⟩ = some (.int .i64 (tx.k : Nat)) ∧ w'.cell? ⟨g, i * 4 + 1, none⟩ = some (.int .i64 tx.n) ∧ w'.cell? ⟨g, i * 4 + 2, none⟩ = some (.string (bs tx.s)) ∧ w'.cell? ⟨g, i * 4 + 3, none⟩ = some (.slice p m c) ∧
                w'.cell? ⟨g', i * 4, none⟩ = some (.int .i64 (ty.k : Nat)) ∧ w'.cell? ⟨g', i * 4 + 1, none⟩ = some (.int .i64 ty.n) ∧ w'.cell? ⟨g', i * 4 + 2, none⟩ = some (.string (bs ty.s)) ∧ w'.cell? ⟨g', i * 4 + 3, none⟩ = some (.slice p' m' c'))
                (first | exact ⟨(q1 _ (by omega) _).trans x3, (q1 _ hbz _).trans y3, (q1 _ hg1 _).trans d0, (q1 _ hg1 _).trans d1, (q1 _ hg1 _).trans d2, (q1 _ hg1 _).trans d3, (q1 _ hg2 _).trans f0, (q1 _ hg2 _).trans f1, (q1 _ hg2 _).trans f2, (q1 _ hg2 _).trans f3⟩ | go_keep)
                ((go_at_call 12; (refine (kx _).mono ?_); rintro en w2 ⟨v9, rfl, hp9, hb⟩; have HW2 := Lib.hid ((dN wr.heap.size wr _).trans hb); have HP2 := Lib.hid hp9; have q1 := hbk.out w2 HW2.out; clear hb hp9))
              all_goals
                clear kx
                go_wp2
                go_roundg (l1.length - (i + 1))
                case measure => omega
                case rel => exact ⟨i + 1, X.1, _, X.2, rfl, by omega, rfl, rfl, by go_num, Lib.hid (HW.out.trans (HW2.out.mono HW.out.size)), HP2, HI2⟩
          · have hlt2 : ¬ ((i : Int) < l1.length) := by omega
            have hR : R = (ps', ok) := by
              rcases HI.out with ⟨h1, h2, _⟩ | ⟨h1, h2⟩
              · rw [← h2, List.drop_eq_nil_of_le (by omega), alL, h1]
              · rw [h2, h1]
            subst hR
            clear HI
            go_wp2
            go_ret2
            exact ⟨_, rfl, HP.out, HB.out.trans (HW.out.mono HB.out.size)⟩
      · rw [if_pos hlen]
        have e4 : ((l1.length : Int) != (l2.length : Int)) = true := bne_iff_ne.2 (by omega)
        have e4' : ((l1.length : Int) == (l2.length : Int)) = false := beq_eq_false_iff_ne.2 (by omega)
        clear HA HC IH HT HU
        generalize l1.length = n1 at *
        generalize l2.length = n2 at *
        go_enter Try.func12, Try.ntmps12
        go_wp2
        go_ret2
        exact ⟨_, rfl, HV.out, HB.out⟩
    · have e1 : (s1.toList != s2.toList) = true := by rw [hs1, hs2]; exact bne_iff_ne.2 hS
      have e1' : (s1.toList == s2.toList) = false := by rw [hs1, hs2]; exact beq_eq_false_iff_ne.2 hS
      rw [if_pos hS]
      clear hs1 hs2 hS HA HC IH HT HU
      go_enter Try.func12, Try.ntmps12
      go_wp2
      go_ret2
      exact ⟨_, rfl, HV.out, HB.out⟩
  · rw [if_pos hk]
    have e1 : ((kk : Int) != (kk' : Int)) = true := bne_iff_ne.2 (by omega)
    have e1' : ((kk : Int) == (kk' : Int)) = false := beq_eq_false_iff_ne.2 (by omega)
    clear hs1 hs2 hk HA HC IH HT HU h1
    go_enter Try.func12, Try.ntmps12
    go_wp2
    go_ret2
    exact ⟨_, rfl, HV.out, HB.out⟩
theorem alike_all (t : T) : AlOk t := by
  have key : ∀ n t, SizeOf.sizeOf t ≤ n → AlOk t := by
    have step : ∀ t, (∀ i, i < (parts t).length → AlOk ((parts t).getD i dfT)) → AlOk t := fun t ih u a c v ps w h1 h2 h3 h4 h5 h6 => by
      by_cases hk : t.k = 1 ∧ t.k = u.k
      · exact alike_var hk.1 (by rw [← hk.2]; exact hk.1) h1 h2 h3 h4 h5 h6
      · refine alike_rest ?_ ih h1 h2 h3 h4 h5 h6
        by_cases h : t.k = 1
        · exact .inr fun e => hk ⟨h, e⟩
        · exact .inl h
    intro n
    induction n with
    | zero => intro t h; exact step t fun i hi => absurd (parts_size hi) (by omega)
    | succ n ih => intro t h; exact step t fun i hi => ih _ (by have := parts_size hi; omega)
  exact key _ t (Nat.le_refl _)
end Go.Proofs.Ytpihmockcjdafaa.wr
end
section
/- The law's own function sames: two rows of sentences that are one. -/
namespace Go.Proofs.Ytpihmockcjdafaa.ls
open Go.RowKit
open Go.Proofs.Ytpihmockcjdafaa.rd
open Go.Proofs.Ytpihmockcjdafaa.op (bs strC)
open Go.Proofs.Ytpihmockcjdafaa.lx (cell_at ieq_yes ieq_no)
set_option maxRecDepth 20000

def dfS : Sn := (dfT, [])
structure Se (w : World) (g i : Nat) (x : Sn) (p : Option Addr) (m c : Nat) (q : Option Addr) (cq : Nat) : Prop where
  tm : Rp Any w x.1 (.slice p m c)
  c0 : w.cell? ⟨g, i * 5, none⟩ = some (.int .i64 (x.1.k : Nat))
  c1 : w.cell? ⟨g, i * 5 + 1, none⟩ = some (.int .i64 x.1.n)
  c2 : w.cell? ⟨g, i * 5 + 2, none⟩ = some (.string (bs x.1.s))
  c3 : w.cell? ⟨g, i * 5 + 3, none⟩ = some (.slice p m c)
  c4 : w.cell? ⟨g, i * 5 + 4, none⟩ = some (.slice q x.2.length cq)
  nl : x.2.length ≤ maxLen
  nm : ∀ k, k < x.2.length → ∃ gq, q = some ⟨gq, 0, none⟩ ∧ x.2.length ≤ cq ∧ gq < w.heap.size ∧ w.cell? ⟨gq, k, none⟩ = some (.string (bs (x.2.getD k [])))
theorem ss_len {B : Nat} {w : World} {v : Value} {l : List Sn} (h : Ss B w v l) : l.length ≤ maxLen := by
  obtain ⟨zs, h1, h2, h3⟩ := h
  rcases h2.2 with ⟨e1, e2⟩ | ⟨g, cap, cur, e1, _, _, e4, e5, _⟩
  · rw [e2]; exact Nat.zero_le _
  · omega
theorem names_el {B : Nat} {w : World} {nm : List (List UInt8)} {q : Option Addr} {n cq : Nat} (h : w.ownsRow B 9 1 (.slice q n cq) nm.length (strC (nm.map bs))) : n = nm.length ∧ nm.length ≤ maxLen ∧
    ∀ k, k < nm.length → ∃ gq, q = some ⟨gq, 0, none⟩ ∧ nm.length ≤ cq ∧ gq < w.heap.size ∧ w.cell? ⟨gq, k, none⟩ = some (.string (bs (nm.getD k []))) := by
  rcases h.2 with ⟨e1, e2⟩ | ⟨g, cap, cur, e1, _, e3, e4, e5, _⟩
  · simp at e1
    exact ⟨by omega, by rw [e2]; exact Nat.zero_le _, fun k hk => by omega⟩
  · simp at e1
    obtain ⟨rfl, rfl, rfl⟩ := e1
    refine ⟨rfl, by omega, fun k hk => ⟨g, rfl, e4, lt_of e3, ?_⟩⟩
    have hc := World.ownsRow.cells h (g := g) rfl
    have := hc k (.string (bs (nm.getD k []))) (by simp [strC, hk])
    rwa [op.addr_add] at this
theorem ss_el {B : Nat} {w : World} {v : Value} {l : List Sn} (h : Ss B w v l) {i : Nat} (hi : i < l.length) : ∃ g cap p m c q cq, v = .slice (some ⟨g, 0, none⟩) l.length cap ∧ l.length ≤ cap ∧ g < w.heap.size ∧ Se w g i (l.getD i dfS) p m c q cq := by
  obtain ⟨zs, h1, h2, h3⟩ := h
  rcases h2.2 with ⟨_, e2⟩ | ⟨g, cap, cur, e1, _, e3, e4, _⟩
  · omega
  have hc := World.ownsRow.cells h2 (g := g) (by rw [e1]; rfl)
  have key : ∀ m u, m < 5 → (scell l[i] (zs[i]'(by omega)))[m]? = some u → w.cell? ⟨g, i * 5 + m, none⟩ = some u := fun m u hm hu => by
    have h4 := scells_get (l.zip zs) i m (by simp; omega) hm
    rw [List.getElem_zip] at h4
    have := hc (i * 5 + m) u (by rw [h4]; exact hu)
    rwa [op.addr_add] at this
  have ee : l.getD i dfS = l[i] := by simp [hi]
  have hH := h3 i hi (by omega)
  obtain ⟨p, m, c, he⟩ := hH.1.shape
  obtain ⟨q, n, cq, hq⟩ := own_shape hH.2
  have hN := hH.2
  rw [hq] at hN
  obtain ⟨rfl, k2, k3⟩ := names_el hN
  rw [ee]
  refine ⟨g, cap, p, m, c, q, cq, e1, e4, lt_of e3, ⟨by rw [← he]; exact any hH.1, key 0 _ (by omega) rfl, key 1 _ (by omega) rfl, key 2 _ (by omega) rfl, ?_, ?_, k2, k3⟩⟩
  · rw [← he]; exact key 3 _ (by omega) rfl
  · rw [← hq]; exact key 4 _ (by omega) rfl
theorem Se.stay {w w' : World} {g i m c cq : Nat} {x : Sn} {p q : Option Addr} (h : Se w g i x p m c q cq) (hg : g < w.heap.size) (hb : Below w.heap.size w w') : Se w' g i x p m c q cq := by
  have xc : ∀ (u : Nat) (hu : u < w.heap.size) (j : Nat), w'.cell? ⟨u, j, none⟩ = w.cell? ⟨u, j, none⟩ := fun u hu j => World.cell?_of_block (hb.block u hu)
  refine ⟨h.tm.kept (Kt.below hb), by rw [xc g hg]; exact h.c0, by rw [xc g hg]; exact h.c1, by rw [xc g hg]; exact h.c2, by rw [xc g hg]; exact h.c3, by rw [xc g hg]; exact h.c4, h.nl, fun k hk => ?_⟩
  obtain ⟨gq, h1, h2, h3, h4⟩ := h.nm k hk
  exact ⟨gq, h1, h2, Nat.lt_of_lt_of_le h3 hb.size, by rw [xc gq h3]; exact h4⟩
end Go.Proofs.Ytpihmockcjdafaa.ls
end
section
/- What the two Ones give, as the laws look at it. -/
namespace Go.Proofs.Ytpihmockcjdafaa.ls
open Go.RowKit
open Go.Proofs.Ytpihmockcjdafaa.rd
open Go.Proofs.Ytpihmockcjdafaa.rr
open Go.Proofs.Ytpihmockcjdafaa.op (bs strC Both bs_data)
open Go.Proofs.Ytpihmockcjdafaa.lx (cell_at ieq_yes ieq_no GM toksD)
set_option maxRecDepth 20000

theorem one_err {l : List UInt8} {k : Nat} (h : oneP l = .error k) : k ≠ 0 := by
  unfold oneP at h
  cases hr : readP (toksD (endP l)) with
  | error e => rw [hr] at h; cases h; exact read_err rfl hr
  | ok v =>
    rw [hr] at h
    match v, h with
    | [], h => cases h; decide
    | [x], h => cases h
    | x :: y :: v, h => cases h; decide
/-- the term and the error of an answer -/
def Sd (x : Except Nat Sn) (t : T) (k : Nat) : Prop := match x with
  | .ok y => k = 0 ∧ t = y.1
  | .error e => k = e ∧ e ≠ 0 ∧ t = .leaf 0 0 []
/-- a sentence's five values -/
abbrev sV (t : T) (p : Option Addr) (m c : Nat) (q : Option Addr) (n d : Nat) : Value := .agg #[.int .i64 (t.k : Nat), .int .i64 t.n, .string (bs t.s), .slice p m c, .slice q n d]
def UQ (w : World) (x : Except Nat Sn) (en : Ending) (w' : World) : Prop :=
  ∃ (t : T) (p : Option Addr) (m c : Nat) (q : Option Addr) (n d : Nat) (z : Int) (k : Nat), en = .returned (.tuple #[sV t p m c q n d, .int .i64 z, .int .i64 (k : Nat)]) ∧ Rp Any w' t (.slice p m c) ∧ Below w.heap.size w w' ∧ Sd x t k
theorem uq {l : List UInt8} {w : World} {en : Ending} {w' : World} (h : OQ w (oneP l) en w') : UQ w (oneP l) en w' := by
  have he := fun k => one_err (l := l) (k := k)
  generalize oneP l = x at *
  cases x with
  | ok x =>
    obtain ⟨a, nvs, rfl, hH, hb⟩ := h
    obtain ⟨p, m, c, rfl⟩ := hH.1.shape
    obtain ⟨q, n, d, rfl⟩ := own_shape hH.2
    exact ⟨x.1, p, m, c, q, n, d, 0, 0, rfl, any hH.1, hb, rfl, rfl⟩
  | error k =>
    obtain ⟨z, rfl, hb⟩ := h
    exact ⟨.leaf 0 0 [], none, 0, 0, none, 0, 0, z, k, rfl, by rw [Rp], hb, rfl, he k rfl, rfl⟩
theorem rone_u (s : ByteArray) (w : World) (hb : Both w) (hp : 0 ≤ w.heap.size) (hz : s.size ≤ 9223372036854775800) : Calls Try.prog 11 #[.string s] w (UQ w (oneP s.data.toList)) := (rone_c s w hb hp hz).mono fun _ _ h => uq h
end Go.Proofs.Ytpihmockcjdafaa.ls
end
section
/- A term that is read, as it is written. -/
namespace Go.Proofs.Ytpihmockcjdafaa.wr
open Go.RowKit
open Go.Proofs.Ytpihmockcjdafaa.rd
open Go.Proofs.Ytpihmockcjdafaa.ls (topT topL Any)
open Go.Proofs.Ytpihmockcjdafaa.op (bs strC)
open Go.Proofs.Ytpihmockcjdafaa.nm (Fit)
open Go.Proofs.Ytpihmockcjdafaa.lx (Qn quoteS VarOk varX gdT gdL txT)
set_option maxRecDepth 20000

def Sma (a : Int) : Prop := 0 ≤ a ∧ a ≤ 100000
theorem Sma.fit {a : Int} (h : Sma a) : Fit a := by unfold Fit; unfold Sma at h; omega
mutual
/-- a variable's number is below that of the names -/
theorem top_vs : ∀ (t : T) (n : Int), 0 ≤ topT t n → topT t n ≤ 100000 → vsT Sma t
  | .leaf k m s, n, h, hb => by
    rw [vsT]
    intro hk
    have hu := top_up _ _ h
    rw [topT] at h hb hu
    by_cases hn : n < 0
    · rw [if_pos hn] at h; omega
    · rw [if_neg hn, if_pos hk] at h hb hu
      by_cases hm : m < 0 ∨ m > n
      · rw [if_pos hm] at h; omega
      · rw [if_neg hm] at hu hb; unfold Sma; omega
  | .cmp s l, n, h, hb => by
    rw [vsT]
    rw [topT] at h hb
    by_cases hn : n < 0
    · rw [if_pos hn] at h; omega
    · rw [if_neg hn] at h hb; exact top_vsL l n h hb
theorem top_vsL : ∀ (l : List T) (n : Int), 0 ≤ topL l n → topL l n ≤ 100000 → vsL Sma l
  | [], _, _, _ => by rw [vsL]; trivial
  | t :: l, n, h, hb => by
    rw [vsL]
    rw [topL] at h hb
    have h1 := topL_pos h
    have h2 := top_upL l _ h
    exact ⟨top_vs t n h1 (by omega), top_vsL l _ h hb⟩
end
mutual
theorem gt_all {t : T} (h : gtT Qn t) (hv : vsT Sma t) : fxT t ∧ qnU (emb t) ∧ nkT t ∧ ftT t ∧ vsT Fit t := by
  match t with
  | .leaf k n s =>
    rw [gtT] at h
    rw [vsT] at hv
    obtain ⟨h1, h2, h3, h4⟩ := h
    rw [fxT, emb, qnU, qnUL, nkT, ftT, vsT]
    refine ⟨?_, ⟨?_, trivial⟩, by omega, fun e => h2 (by omega), fun e => (hv e).fit⟩
    · by_cases hk : k = 1
      · exact (hv hk).fit
      · exact h2 hk
    · by_cases hk : k = 3
      · exact h3 hk
      · rw [h4 hk]; exact .inl (by simp)
  | .cmp s l =>
    rw [gtT] at h
    rw [vsT] at hv
    obtain ⟨a1, a2, a3, a4, a5⟩ := gt_allL h.2 hv
    rw [fxT, emb, qnU, nkT, ftT, vsT]
    exact ⟨a1, ⟨h.1, a2⟩, a3, a4, a5⟩
theorem gt_allL {l : List T} (h : gtL Qn l) (hv : vsL Sma l) : fxL l ∧ qnUL (embL l) ∧ nkL l ∧ ftL l ∧ vsL Fit l := by
  match l with
  | [] => rw [fxL, embL, qnUL, nkL, ftL, vsL]; exact ⟨trivial, trivial, trivial, trivial, trivial⟩
  | t :: l =>
    rw [gtL] at h
    rw [vsL] at hv
    obtain ⟨a1, a2, a3, a4, a5⟩ := gt_all h.1 hv.1
    obtain ⟨b1, b2, b3, b4, b5⟩ := gt_allL h.2 hv.2
    rw [fxL, embL, qnUL, nkL, ftL, vsL]
    exact ⟨⟨a1, b1⟩, ⟨a2, b2⟩, ⟨a3, b3⟩, ⟨a4, b4⟩, ⟨a5, b5⟩⟩
end
theorem one_nb {l : List UInt8} {x : Sn} (h : oneP l = .ok x) : topT x.1 0 = x.2.length ∧ x.2.length ≤ 100000 := by
  obtain ⟨ts, ht, hs⟩ := oneP_ok h
  have hg := lx.good_toks (endP l)
  rw [ht] at hg
  have hl : ts.length ≤ 1000 := hg.len
  obtain ⟨h1, _, h3, _⟩ := sent_nb (by rw [ab_len]; omega) hs
  exact ⟨h1, h3⟩
/-- what is read -/
structure Rdd (t : T) : Prop where
  fx : fxT t
  qn : qnU (emb t)
  nk : nkT t
  ft : ftT t
  vs : vsT Fit t
theorem one_rdd {l : List UInt8} {x : Sn} (h : oneP l = .ok x) (hl : l.length ≤ 2048) : Rdd x.1 := by
  obtain ⟨h1, h2⟩ := one_nb h
  obtain ⟨a1, a2, a3, a4, a5⟩ := gt_all (one_gt h hl) (top_vs x.1 0 (by omega) (by omega))
  exact ⟨a1, a2, a3, a4, a5⟩
mutual
theorem ok_gd {nm : List (List UInt8)} (hv : ∀ n, 0 ≤ n → VarOk (varX nm n)) : ∀ (t : T), okU (emb t) → gdT nm t
  | .leaf k n s, h => by
    rw [emb, okU] at h
    rw [gdT]
    rcases h with ⟨h, h0⟩ | h | ⟨h, h0⟩ | ⟨_, _, h, _⟩
    · exact .inl ⟨by omega, hv n h0⟩
    · exact .inr (.inl (by omega))
    · exact .inr (.inr ⟨by omega, .inr (.inr h0)⟩)
    · exact absurd rfl h
  | .cmp s l, h => by
    rw [emb, okU] at h
    rw [gdT]
    rcases h with ⟨h, _⟩ | h | ⟨h, _⟩ | ⟨_, h1, h2, h3⟩
    · omega
    · omega
    · omega
    · exact ⟨h1, fun e => h2 (by rw [e, embL]), ok_gdL hv l h3⟩
theorem ok_gdL {nm : List (List UInt8)} (hv : ∀ n, 0 ≤ n → VarOk (varX nm n)) : ∀ (l : List T), okUL (embL l) → gdL nm l
  | [], _ => by rw [gdL]; trivial
  | t :: l, h => by
    rw [embL, okUL] at h
    rw [gdL]
    exact ⟨ok_gd hv t h.1, ok_gdL hv l h.2⟩
end
mutual
theorem lv_sz : ∀ (t : T), lvT t ≤ szU (emb t)
  | .leaf k n s => by rw [lvT]; exact szU_pos _
  | .cmp s l => by
    have := lv_szL l
    rw [lvT, emb, szU, if_pos rfl]; omega
theorem lv_szL : ∀ (l : List T), lvL l ≤ szUL (embL l)
  | [] => by rw [lvL]; exact Nat.zero_le _
  | t :: l => by
    have h1 := lv_sz t
    have h2 := lv_szL l
    rw [lvL, embL, szUL]; omega
end
/-- by what a good term is written -/
theorem good_txt {nm : List (List UInt8)} {t : T} (h : goodU (emb t)) : wrX nm (emb t) = txT nm t := by
  rw [wrX_yes h, er_emb t h.1]
theorem ru_uV {w : World} {t : T} {a : Value} (h : Rp Any w t a) (hf : fxT t) : Ru w.heap.size w (emb t) a := ru_emb h hf
theorem uV_emb (t : T) (a : Value) : uV (emb t) a = .agg #[.int .i64 (t.k : Nat), .int .i64 t.n, .string (bs t.s), a] := by unfold uV; rw [emb_k, emb_n, emb_s]
end Go.Proofs.Ytpihmockcjdafaa.wr
end
section
/- WriteBack: its walk. -/
namespace Go.Proofs.Ytpihmockcjdafaa.wr
open Go.RowKit
open Go.Proofs.Ytpihmockcjdafaa.rd
open Go.Proofs.Ytpihmockcjdafaa.ls (Any any)
open Go.Proofs.Ytpihmockcjdafaa.op (bs strC Both)
open Go.Proofs.Ytpihmockcjdafaa.nm (Fit)
open Go.Proofs.Ytpihmockcjdafaa.lx (Qn GM txT cell_at)
set_option maxRecDepth 20000

theorem both_t (w : World) : Both w := trivial
/-- a sentence's five cells -/
theorem cells5 {W : World} {g : Nat} {t : TypeId} {a b c d e : Value} (h : W.heap[g]? = some (.cells #[a, b, c, d, e] t (0, 0))) :
    W.cell? ⟨g, 0, none⟩ = some a ∧ W.cell? ⟨g, 1, none⟩ = some b ∧ W.cell? ⟨g, 2, none⟩ = some c ∧ W.cell? ⟨g, 3, none⟩ = some d ∧ W.cell? ⟨g, 4, none⟩ = some e :=
  ⟨(cell_at h 0).trans rfl, (cell_at h 1).trans rfl, (cell_at h 2).trans rfl, (cell_at h 3).trans rfl, (cell_at h 4).trans rfl⟩
theorem no_good {s : List UInt8} : ¬ goodU (.mk 0 0 s []) := by
  rintro ⟨h, _⟩
  rw [okU_iff] at h
  have e : (U.mk 0 0 s []).k = 0 := rfl
  rw [e] at h
  rcases h with h | h | h | h <;> omega
mutual
theorem nk_rn (nm : List (List UInt8)) : ∀ (t : T) (w : List (List UInt8)), nkT (rnT nm t w).1
  | .leaf k n s, w => by
    rw [rnT]
    repeat' split
    all_goals (rw [nkT]; decide)
  | .cmp s l, w => by
    rw [rnT, nkT]; exact nk_rnL nm l w
theorem nk_rnL (nm : List (List UInt8)) : ∀ (l : List T) (w : List (List UInt8)), nkL (rnL nm l w).1
  | [], w => by rw [rnL, nkL]; trivial
  | t :: l, w => by rw [rnL, nkL]; exact ⟨nk_rn nm t w, nk_rnL nm l _⟩
end
theorem pw_nil (W : World) : Pw 0 W (.slice none 0 0) [] := World.ownsRow_nil _ _ _ _
set_option maxHeartbeats 8000000 in
theorem back_w (s : ByteArray) (w : World) (hz : s.size ≤ 9223372036854775807) (hg : GM w) :
    Calls Try.prog 6 #[.string s] w fun e w' => e = .returned (.bool true) ∧ Below w.heap.size w w' := by
  by_cases hbig : s.size > 2048
  · clear hg
    go_enter Try.func6, Try.ntmps6
    go_wp2
    go_ret
    exact ⟨rfl, Below.refl _ _⟩
  have hb1 : s.size ≤ 2048 := by omega
  have hsl : s.data.toList.length ≤ 2048 := by simpa using hb1
  have k1 := rr.rone_c s w (both_t w) (Nat.zero_le _) (by omega)
  have kr := fun s' w' h => rr.rone_c s' w' (both_t w') (Nat.zero_le _) h
  have HK := Lib.hid kr
  have Hg := Lib.hid hg
  have hp := lx.heap_pos hg
  have hone := fun x h => one_rdd (l := s.data.toList) (x := x) h hsl
  have herr := fun k h => ls.one_err (l := s.data.toList) (k := k) h
  generalize oneP s.data.toList = X at *
  have HO := Lib.hid hone
  have HE := Lib.hid herr
  clear hg kr hz hsl hone herr
  go_enter Try.func6, Try.ntmps6
  go_wp2_with fail
  refine k1.mono ?_
  clear k1
  rcases X with k | x
  · rintro e w1 ⟨z, rfl, hb⟩
    have hk0 := HE.out k rfl
    have HB1 := Lib.hid hb
    have hbx := heap_alloc_new w1 (.cells #[.int .i64 0, .int .i64 0, .string ⟨#[]⟩, .slice none 0 0, .slice none 0 0] 29)
    obtain ⟨c0, c1, c2, c3, _⟩ := cells5 hbx
    have hb2 := (Below.refl w1.heap.size w1).alloc (Nat.le_refl _) (.cells #[.int .i64 0, .int .i64 0, .string ⟨#[]⟩, .slice none 0 0, .slice none 0 0] 29)
    have HX := Lib.hid hbx
    have HB2 := Lib.hid (HB1.out.trans (hb2.mono HB1.out.size))
    have hru : ∀ W : World, Ru W.heap.size W (.mk 0 0 [] []) (.slice none 0 0) := fun W => by rw [Ru]; exact ⟨none, 0, rfl, Nat.le_refl _, Nat.zero_le _, fit0, by rw [Rus]; trivial⟩
    have hqn : qnU (.mk 0 0 [] []) := by rw [qnU, qnUL]; exact ⟨.inl (by simp), trivial⟩
    have kw := write_c (Hg.out.below HB2.out hp) (hru _) hqn
    have kv := fun W => rwrite_c (hru W) hqn
    rw [wrX_no no_good, bs_empty] at kw kv
    unfold uV at kw kv
    clear hb hb2 hbx hru hqn HO HE HK
    go_wp2_with fail
    refine kw.mono ?_
    rintro e w3 ⟨rfl, hb3⟩
    have hX3 := (hb3.block w1.heap.size (lt_of HX.out)).trans HX.out
    have HB3 := Lib.hid (HB2.out.trans (hb3.mono HB2.out.size))
    clear kw hb3 c0 c1 c2 c3
    obtain ⟨c0, c1, c2, c3, _⟩ := cells5 hX3
    go_wp2_with fail
    refine (kv _).mono ?_
    rintro e w4 ⟨rfl, hb4⟩
    have HB4 := Lib.hid (HB3.out.trans (hb4.mono HB3.out.size))
    have e1 : ((k : Int) != 0) = true := bne_iff_ne.2 (by omega)
    have e2 : ((k : Int) == 0) = false := beq_eq_false_iff_ne.2 (by omega)
    clear kv hb4 c0 c1 c2 c3 hX3 hk0
    go_wp2
    go_ret
    exact ⟨rfl, HB4.out⟩
  · rintro e w1 ⟨a, nvs, rfl, hH, hb⟩
    obtain ⟨p, m, c, rfl⟩ := hH.1.shape
    obtain ⟨q, n, d, rfl⟩ := own_shape hH.2
    have hR := HO.out x rfl
    have hr1 := any hH.1
    have HB1 := Lib.hid hb
    have hbx := heap_alloc_new w1 (.cells #[.int .i64 (x.1.k : Nat), .int .i64 x.1.n, .string (bs x.1.s), .slice p m c, .slice q n d] 29)
    obtain ⟨c0, c1, c2, c3, _⟩ := cells5 hbx
    have hb2 := (Below.refl w1.heap.size w1).alloc (Nat.le_refl _) (.cells #[.int .i64 (x.1.k : Nat), .int .i64 x.1.n, .string (bs x.1.s), .slice p m c, .slice q n d] 29)
    have HX := Lib.hid hbx
    have HB2 := Lib.hid (HB1.out.trans (hb2.mono HB1.out.size))
    have hr2 := hr1.kept (Kt.below hb2)
    have kw := write_c (Hg.out.below HB2.out hp) (ru_uV hr2 hR.fx) hR.qn
    have kv := fun W h => rwrite_c (w := W) (ru_uV (a := .slice p m c) h hR.fx) hR.qn
    rw [uV_emb] at kw kv
    have HR2 := Lib.hid hr2
    have HR := Lib.hid hR
    clear hb hb2 hbx HO HE hH hr1 hr2 hR
    have hcase : goodU (emb x.1) ∨ ¬ goodU (emb x.1) := Classical.em _
    go_wp2_with fail
    refine kw.mono ?_
    rintro e w3 ⟨rfl, hb3⟩
    have hX3 := (hb3.block w1.heap.size (lt_of HX.out)).trans HX.out
    have HX3 := Lib.hid hX3
    have HB3 := Lib.hid (HB2.out.trans (hb3.mono HB2.out.size))
    have HR3 := Lib.hid (HR2.out.kept (Kt.below hb3))
    have kv3 := kv _ HR3.out
    clear kw kv hb3 c0 c1 c2 c3 HX HR2
    obtain ⟨c0, c1, c2, c3, _⟩ := cells5 hX3
    clear hX3
    go_wp2_with fail
    refine kv3.mono ?_
    rintro e w4 ⟨rfl, hb4⟩
    have HX4 := Lib.hid ((hb4.block w1.heap.size (lt_of HX3.out)).trans HX3.out)
    have HB4 := Lib.hid (HB3.out.trans (hb4.mono HB3.out.size))
    have HR4 := Lib.hid (HR3.out.kept (Kt.below hb4))
    have e1 : ((bs (wrX [] (emb x.1))).toList != (bs (wrX [] (emb x.1))).toList) = false := by simp
    clear kv3 hb4 c0 c1 c2 c3 HX3 HR3
    rcases hcase with hgd | hgd
    · have hne := tx_ne (nm := []) (emb x.1) hgd.1 (fun n _ => varX_ne n)
      have hlen := fx_len nm_nil hgd HR.out.qn (Ru.fx (ru_uV HR4.out HR.out.fx))
      rw [er_emb _ hgd.1] at hne hlen
      have hback := backP (nm := []) (ok_gd (fun n h => var_ok h) x.1 hgd.1) HR.out.ft
      obtain ⟨pa, hal⟩ := back_alike (ok_gd (fun n h => var_ok h) x.1 hgd.1) HR.out.vs
      have hl1 := lv_sz x.1
      have hl2 := hgd.2
      rw [good_txt hgd] at e1 ⊢
      have ko := HK.out (bs (txT [] x.1)) w4 (by rw [bs_sz]; omega)
      rw [show (bs (txT [] x.1)).data.toList = txT [] x.1 from rfl] at ko
      have z1 : (bs (txT [] x.1)).toList.isEmpty = false := by rw [isE]; simpa using hne
      have z2 : ¬ (bs (txT [] x.1)).toList = [] := by rw [ByteArray.toList_eq]; exact hne
      generalize bs (txT [] x.1) = tx at *
      generalize oneP (txT [] x.1) = Y at *
      have HAL := Lib.hid hal
      have HBK := Lib.hid hback
      have HL := Lib.hid (show lvT x.1 ≤ 1000000 by omega)
      clear hgd hne hlen hal hback hl1 hl2 HK
      go_wp2_with fail
      refine ko.mono ?_
      clear ko
      rcases Y with k | y
      · rintro e w5 ⟨z, rfl, hb5⟩
        have HB5 := Lib.hid (HB4.out.trans (hb5.mono HB4.out.size))
        have hk : k = 52 ∨ k = 33 ∨ k = 34 := by
          rcases HBK.out with h | ⟨e', h, hw⟩
          · cases h
          · cases h; rcases hw with h | h | h; exact .inl h.1; exact .inr (.inl h.1); exact .inr (.inr h.1)
        clear hb5 HBK HAL HL HR HR4 HX4
        rcases hk with rfl | rfl | rfl
        all_goals
          go_wp2
          go_ret
          exact ⟨rfl, HB5.out.alloc HB5.out.size _⟩
      · rintro e w5 ⟨a2, nvs2, rfl, hH2, hb5⟩
        obtain ⟨p2, m2, c2, rfl⟩ := hH2.1.shape
        obtain ⟨q2, n2, d2, rfl⟩ := own_shape hH2.2
        have hy : y = rnT [] x.1 [] := by
          rcases HBK.out with h | ⟨e', h, hw⟩
          · exact Except.ok.inj h
          · cases h
        have hX5 := (hb5.block w1.heap.size (lt_of HX4.out)).trans HX4.out
        have hz5 := lt_of hX5
        have hX6 := (Lib.alloc_old w5 (.cells #[.int .i64 (y.1.k : Nat), .int .i64 y.1.n, .string (bs y.1.s), .slice p2 m2 c2, .slice q2 n2 d2] 29) _ hz5).trans hX5
        obtain ⟨c0, c1, c2', c3, _⟩ := cells5 hX6
        have hY6 := heap_alloc_new w5 (.cells #[.int .i64 (y.1.k : Nat), .int .i64 y.1.n, .string (bs y.1.s), .slice p2 m2 c2, .slice q2 n2 d2] 29)
        obtain ⟨f0, f1, f2, f3, _⟩ := cells5 hY6
        have hb6 := (Below.refl w5.heap.size w5).alloc (Nat.le_refl _) (.cells #[.int .i64 (y.1.k : Nat), .int .i64 y.1.n, .string (bs y.1.s), .slice p2 m2 c2, .slice q2 n2 d2] 29)
        have HB6 := Lib.hid ((HB4.out.trans (hb5.mono HB4.out.size)).trans (hb6.mono (HB4.out.trans (hb5.mono HB4.out.size)).size))
        have kal := alike_all x.1 y.1 _ _ _ [] (w5.alloc (.cells #[.int .i64 (y.1.k : Nat), .int .i64 y.1.n, .string (bs y.1.s), .slice p2 m2 c2, .slice q2 n2 d2] 29)) HR.out.nk (by rw [hy]; exact nk_rn _ _ _) ((HR4.out.kept (Kt.below hb5)).kept (Kt.below hb6)) ((any hH2.1).kept (Kt.below hb6)) (pw_nil _) (by simpa using HL.out)
        rw [hy, HAL.out, ← hy] at kal
        unfold ls.tV at kal
        clear hH2 hb5 hX5 hX6 hY6 hb6 HBK HAL HL HR HR4 HX4 hy z1 z2 e1
        go_wp2_with fail
        refine kal.mono ?_
        rintro e w7 ⟨v7, rfl, _, hb7⟩
        have HB7 := Lib.hid (HB6.out.trans (hb7.mono HB6.out.size))
        clear hb7 kal
        go_wp2
        go_ret
        exact ⟨rfl, HB7.out⟩
    · rw [wrX_no hgd, bs_empty] at e1 ⊢
      clear hgd
      go_wp2
      go_ret
      exact ⟨rfl, HB4.out⟩
end Go.Proofs.Ytpihmockcjdafaa.wr
end
section
/- A sentence's names, as a term is written by them. -/
namespace Go.Proofs.Ytpihmockcjdafaa.rd
open Go.Proofs.Ytpihmockcjdafaa.lx (Tok toksD)

/-- what is read of words of V -/
def Rn (V : List UInt8 → Prop) (s s' : St) : Prop := s = s' ∧ (∀ k ∈ s.1, k.kind = 2 → V k.text) ∧ ∀ x ∈ s.2, V x
theorem sim_rn (V : List UInt8 → Prop) : Sim (Rn V) where
  nm := fun h => by rw [h.1]
  put := by
    rintro s s' ⟨rfl, h1, h2⟩ hk ⟨_, h3, _⟩
    refine ⟨rfl, h3, fun x hx => ?_⟩
    rcases List.mem_append.1 hx with hx | hx
    · exact h2 x hx
    · rw [List.mem_singleton] at hx
      rw [hx]
      have key : ∀ l : List K, (∀ k ∈ l, k.kind = 2 → V k.text) → (nx l).kind = 2 → V (nx l).text := fun l h hk => by
        cases l with
        | nil => exact absurd hk (by decide)
        | cons k l => exact h k (by simp) hk
      exact key s.1 h1 hk
  hd := by
    rintro s s' ⟨rfl, h1, h2⟩
    exact .inl ⟨rfl, rfl, fun k hk => h1 k (List.mem_of_mem_tail hk), h2⟩
/-- a sentence's names are words of V -/
theorem one_nms {V : List UInt8 → Prop} {l : List UInt8} {x : Sn} (h : oneP l = .ok x) (hV : ∀ ts, toksD (endP l) = .ok ts → ∀ t ∈ ts, t.kind = 2 → V t.text) : ∀ y ∈ x.2, V y := by
  obtain ⟨ts, ht, hs⟩ := oneP_ok h
  unfold sentP at hs
  cases hx : termP 65 1200 (ab ts, []) with
  | error k => rw [hx] at hs; cases hs
  | ok v =>
    obtain ⟨t, s⟩ := v
    rw [hx] at hs
    dsimp only at hs
    split at hs
    · have e := (Prod.mk.inj (Except.ok.inj hs)).1
      rw [← e]
      obtain ⟨s2, _, ⟨_, _, h3⟩, _⟩ := term_sim (sim_rn V) 65 65 (Nat.le_refl _) 1200 (ab ts, []) (ab ts, []) ⟨rfl, fun k hk h2 => by
        obtain ⟨a, ha, e1, e2⟩ := ab_mem ts hk
        rw [← e2]; exact hV ts ht a ha (by rw [e1]; exact h2), fun _ h => nomatch h⟩ t s hx
      exact h3
    · cases hs
theorem one_len {l : List UInt8} {x : Sn} (h : oneP l = .ok x) : ∀ y ∈ x.2, y.length ≤ 4096 := one_nms h fun ts ht t hm _ => by
  have hg := lx.good_toks (endP l)
  rw [ht] at hg
  exact hg.text t hm
end Go.Proofs.Ytpihmockcjdafaa.rd
namespace Go.Proofs.Ytpihmockcjdafaa.wr
open Go.RowKit
open Go.Proofs.Ytpihmockcjdafaa.rd
open Go.Proofs.Ytpihmockcjdafaa.op (bs strC)
open Go.Proofs.Ytpihmockcjdafaa.lx (VarOk varX)

theorem var_nm {nm : List (List UInt8)} (h : ∀ y ∈ nm, VarOk y) {n : Int} (h0 : 0 ≤ n) : VarOk (varX nm n) := by
  have hv := var_ok h0
  rw [varX_nil] at hv
  unfold varX
  split
  · rename_i hc
    exact h _ (by rw [getD_at _ _ _ hc.1]; exact List.getElem_mem _)
  · exact hv
theorem nr_own {w : World} {B : Nat} {nm : List (List UInt8)} {q : Option Addr} {n cq : Nat} (h : w.ownsRow B 9 1 (.slice q n cq) nm.length (strC (nm.map bs))) : n = nm.length ∧ Nr w.heap.size w nm q cq := by
  rcases h.2 with ⟨e1, e2⟩ | ⟨g, cap, cur, e1, _, e3, e4, e5, _⟩
  · injection e1 with x1 x2 x3
    exact ⟨by omega, by rw [e2, x3]; exact Nat.le_refl _, by rw [x3]; exact Nat.zero_le _, fun i hi => by omega⟩
  · injection e1 with x1 x2 x3
    subst x1 x2 x3
    refine ⟨rfl, e4, e5, fun i hi => ⟨g, 0, rfl, lt_of e3, ?_⟩⟩
    have hc := World.ownsRow.cells h (g := g) rfl
    have := hc i (.string (bs (nm.getD i []))) (by simp [strC, hi])
    rw [op.addr_add] at this
    rwa [Nat.zero_add]
end Go.Proofs.Ytpihmockcjdafaa.wr
end
