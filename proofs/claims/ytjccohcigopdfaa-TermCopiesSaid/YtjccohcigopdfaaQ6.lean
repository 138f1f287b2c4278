/- The reference's reader: list. -/
import Derived.Test.YtjccohcigopdfaaQ5
import Derived.Deep.RegionHeld3
set_option linter.unusedVariables false
set_option linter.unusedSimpArgs false
section
/- The reference's reader: list. -/
namespace Go.Proofs.Ytjccohcigopdfaa.rr
open Go.RowKit
open Go.Proofs.Ytjccohcigopdfaa.rd
open Go.Proofs.Ytjccohcigopdfaa.op (bs strC Both Tb)
open Go.Proofs.Ytjccohcigopdfaa.lx (Tok Tk tcell tcells cell_at)
set_option maxRecDepth 20000

/-- what a round over the row carries -/
structure Lq (r b : Nat) (S : List UInt8) (tk : Value) (L : List Tok) (i : Nat) (nv : Value) (nm : List (List UInt8)) (p k B0 B6 g : Nat) (l : List T) (az : List Value) (t : T) (a : Value) (w wr : World) : Prop where
  rd : Rr r b S tk L i nv nm p k wr
  fr : Fr r b w wr
  res : wr.heap[B0]? = some (.cells #[.int .i64 0, .int .i64 0, .string ⟨#[]⟩, .slice none 0 0] 25 (0, 0))
  loc : wr.heap[B6]? = some (.cells #[.int .i64 (t.k : Nat), .int .i64 t.n, .string (bs t.s), a] 25 (0, 0))
  tm : Rp (fun k => w.heap.size ≤ k ∧ k ≠ B0 ∧ k ≠ B6) wr t a
  el : ∀ i, i < l.length → Rp (fun k => w.heap.size ≤ k ∧ k ≠ B0 ∧ k ≠ B6) wr (l.getD i dfT) (az.getD i undef)
  rc : RowC wr g l az
  gc : ∃ cs, wr.heap[g]? = some (.cells cs 25 (0, 0))
  g6 : g ≠ B6
section
variable {r b i p k B0 B6 g : Nat} {S : List UInt8} {tk nv a : Value} {L : List Tok} {nm : List (List UInt8)} {l : List T} {az : List Value} {t : T} {w wr w2 : World}
theorem rowC_stay (h : RowC wr g l az) (hb : w2.heap[g]? = wr.heap[g]?) : RowC w2 g l az := h.kb (Bs := g) ⟨hb, hb⟩
theorem Lq.stay (h : Lq r b S tk L i nv nm p k B0 B6 g l az t a w wr) (hb : Below wr.heap.size wr w2) : Lq r b S tk L i nv nm p k B0 B6 g l az t a w w2 :=
  ⟨h.rd.stay hb, h.fr.trans (Fr.of_below hb), (hb.block B0 (lt_of h.res)).trans h.res, (hb.block B6 (lt_of h.loc)).trans h.loc, h.tm.kept (Kt.below hb), fun i hi => (h.el i hi).kept (Kt.below hb), by obtain ⟨cs, hcs⟩ := h.gc; exact rowC_stay h.rc (hb.block g (lt_of hcs)), by obtain ⟨cs, hcs⟩ := h.gc; exact ⟨cs, (hb.block g (lt_of hcs)).trans hcs⟩, h.g6⟩
theorem Lq.fr' {i' k' p' : Nat} {nv' : Value} {nm' : List (List UInt8)} (h : Lq r b S tk L i nv nm p k B0 B6 g l az t a w wr) (hF : Fr r b wr w2) (hR : Rr r b S tk L i' nv' nm' p' k' w2) : Lq r b S tk L i' nv' nm' p' k' B0 B6 g l az t a w w2 :=
  ⟨hR, h.fr.trans hF, keep hF h.rd (by decide) (by decide) _ _ _ h.res, keep hF h.rd (by decide) (by decide) _ _ _ h.loc, h.tm.kept (keep hF h.rd (by decide) (by decide)), fun i hi => (h.el i hi).kept (keep hF h.rd (by decide) (by decide)), rowC_stay h.rc (by
    obtain ⟨cs, hcs⟩ := h.gc
    rw [keep hF h.rd (by decide) (by decide) _ _ _ hcs, hcs]), by obtain ⟨cs, hcs⟩ := h.gc; exact ⟨cs, keep hF h.rd (by decide) (by decide) _ _ _ hcs⟩, h.g6⟩
theorem Lq.store (h : Lq r b S tk L i nv nm p k B0 B6 g l az t a w wr) {u : T} {c : Value} (hT : Rp (fun k => w.heap.size ≤ k ∧ k ≠ B0 ∧ k ≠ B6) wr u c) (hr : r < B6) (h6 : w.heap.size ≤ B6) (h06 : B0 ≠ B6) :
    Lq r b S tk L i nv nm p k B0 B6 g l az u c w ((((wr.setCell ⟨B6, 0, none⟩ (.int .i64 (u.k : Nat))).setCell ⟨B6, 1, none⟩ (.int .i64 u.n)).setCell ⟨B6, 2, none⟩ (.string (bs u.s))).setCell ⟨B6, 3, none⟩ c) := by
  have hn : ¬ (w.heap.size ≤ B6 ∧ B6 ≠ B0 ∧ B6 ≠ B6) := fun h => h.2.2 rfl
  have eo : ∀ (W : World) (m : Nat) (v : Value) (k : Nat), k ≠ B6 → (W.setCell ⟨B6, m, none⟩ v).heap[k]? = W.heap[k]? := fun W m v k hk => Below.heap_setCell _ _ _ _ hk
  have e4 : ∀ (x0 x1 x2 x3 : Value) (k : Nat), k ≠ B6 → ((((wr.setCell ⟨B6, 0, none⟩ x0).setCell ⟨B6, 1, none⟩ x1).setCell ⟨B6, 2, none⟩ x2).setCell ⟨B6, 3, none⟩ x3).heap[k]? = wr.heap[k]? := fun x0 x1 x2 x3 k hk =>
    (eo _ _ _ k hk).trans ((eo _ _ _ k hk).trans ((eo _ _ _ k hk).trans (eo _ _ _ k hk)))
  exact ⟨h.rd.set4 h.loc hr (by decide) (by decide) _ _ _ _, (((h.fr.set (p := ⟨B6, 0, none⟩) (.inr h6) _).set (p := ⟨B6, 1, none⟩) (.inr h6) _).set (p := ⟨B6, 2, none⟩) (.inr h6) _).set (p := ⟨B6, 3, none⟩) (.inr h6) _,
    (e4 _ _ _ _ B0 h06).trans h.res, rd.set4 h.loc _ _ _ _, (((hT.set (p := ⟨B6, 0, none⟩) hn _).set (p := ⟨B6, 1, none⟩) hn _).set (p := ⟨B6, 2, none⟩) hn _).set (p := ⟨B6, 3, none⟩) hn _,
    fun i hi => ((((h.el i hi).set (p := ⟨B6, 0, none⟩) hn _).set (p := ⟨B6, 1, none⟩) hn _).set (p := ⟨B6, 2, none⟩) hn _).set (p := ⟨B6, 3, none⟩) hn _, rowC_stay h.rc (e4 _ _ _ _ g h.g6), by obtain ⟨cs, hcs⟩ := h.gc; exact ⟨cs, (e4 _ _ _ _ g h.g6).trans hcs⟩, h.g6⟩
end
theorem consAll_drop {l : List T} {m : Nat} (hm : m < l.length) (rt : T) : consAll (l.drop m) rt = .cmp [46] [l.getD m dfT, consAll (l.drop (m + 1)) rt] := by
  rw [List.drop_eq_getElem_cons hm]
  show T.cmp [46] [l[m], consAll (l.drop (m + 1)) rt] = _
  simp [hm]
set_option maxHeartbeats 4000000 in
theorem list_c {r b i p deep : Nat} {S : List UInt8} {tk nv : Value} {L : List Tok} {nm : List (List UInt8)} {w : World} {x : W} (h : Rr r b S tk L i nv nm p 0 w) (hw : XOk r b S tk L (deep + 1) x) (hd : deep ≤ 1000) :
    Calls Try.prog 91 #[.pointer (some ⟨r, 0, none⟩), .int .i64 (deep : Nat)] w (SQ r b S tk L i w (listP x ((ab L).drop i, nm))) := by
  have H := Lib.hid h
  have HW := Lib.hid hw
  have HX := Lib.hid (listP_eq x L i nm)
  have dw := wrap1 (n := deep) (by omega)
  have hrb0 := Lib.hid (heap_alloc_new w (.cells #[.int .i64 0, .int .i64 0, .string ⟨#[]⟩, .slice none 0 0] 25))
  have HR0 := Lib.hid (h.alloc (.cells #[.int .i64 0, .int .i64 0, .string ⟨#[]⟩, .slice none 0 0] 25))
  have HF0 := Lib.hid (Fr.of_below (r := r) (b := b) ((Below.refl w.heap.size w).alloc (Nat.le_refl _) (.cells #[.int .i64 0, .int .i64 0, .string ⟨#[]⟩, .slice none 0 0] 25)))
  have hlt := h.lt
  have hws := Lib.hid (size_alloc w (.cells #[.int .i64 0, .int .i64 0, .string ⟨#[]⟩, .slice none 0 0] 25))
  have hll := h.good.len
  have hle := h.le
  have iw := wrap1' (n := i) (by omega)
  generalize listP x ((ab L).drop i, nm) = X at *
  have km := mark_c (h.alloc (.cells #[.int .i64 0, .int .i64 0, .string ⟨#[]⟩, .slice none 0 0] 25)) [93]
  rw [show bs [93] = ⟨#[93]⟩ from rfl] at km
  clear h hw
  go_enter Try.func91, Try.ntmps91
  rcases hq : isM (nx ((ab L).drop i)) [93] with _ | _
  · rw [hq] at km
    have hX1 := Lib.hid (HX.out.trans (if_neg (by rw [hq]; decide)))
    clear hq HX
    go_wp2_with fail
    refine km.mono ?_
    rintro en w1 ⟨rfl, hb⟩
    have hrb1 := Lib.hid ((hb.block w.heap.size (by rw [hws.out]; omega)).trans hrb0.out)
    have HR1 := Lib.hid (HR0.out.stay hb)
    have HF1 := Lib.hid (HF0.out.trans (Fr.of_below hb))
    have kr := row_c HR1.out HW.out hd
    have hz1 := hb.size
    rw [hws.out] at hz1
    clear hb km hrb0 HR0 HF0
    go_wp2_with fail
    refine kr.mono ?_
    rintro en w2 ⟨l, g, cap, i2, nv2, nm2, p2, k2, rfl, hRw, hi2, hl2, hl0, hR2, hF2, hA⟩
    have hrb2 := Lib.hid (keep hF2 HR1.out (t := 25) (by decide) (by decide) _ _ _ hrb1.out)
    have HF2 := Lib.hid (HF1.out.trans hF2)
    have HR2 := Lib.hid hR2
    have HRw := Lib.hid hRw
    have hz2 := hF2.size
    have hle2 := hR2.le
    clear hR2 hF2 hRw kr hrb1 HR1 HF1
    go_wp2_with fail
    refine (atom_c _ _).mono ?_
    rintro en w3 ⟨rfl, hb⟩
    have hz3 := hb.size
    obtain ⟨az, hc, hel, hgd, hgl⟩ := HRw.out.cellsC
    obtain ⟨_, cs0, hcs0⟩ := HRw.out.block
    have hb3 := hb.trans ((Below.refl _ w3).alloc hb.size (.cells #[.int .i64 3, .int .i64 0, .string ⟨#[91, 93]⟩, .slice none 0 0] 25))
    have HLq := Lib.hid (show Lq r b S tk L i2 nv2 nm2 p2 k2 w.heap.size w3.heap.size g l az nilT (.slice none 0 0) w (w3.alloc (.cells #[.int .i64 3, .int .i64 0, .string ⟨#[91, 93]⟩, .slice none 0 0] 25)) from
      ⟨HR2.out.stay hb3, HF2.out.trans (Fr.of_below hb3), (hb3.block _ (lt_of hrb2.out)).trans hrb2.out, heap_alloc_new w3 _, by rw [nilT, Rp], fun i hi => ((hel i hi).imp fun k hk hd => ⟨by omega, by omega, by omega⟩).kept (Kt.below hb3), rowC_stay hc (hb3.block g hgl), ⟨cs0, (hb3.block g hgl).trans hcs0⟩, by omega⟩)
    have Hsh := Lib.hid (show ∀ i, i < l.length → ∃ a m c, az.getD i undef = Value.slice a m c from fun i hi => (hel i hi).shape)
    have hN : l.length ≤ 100000 := by omega
    have l6 : w.heap.size < w3.heap.size := by omega
    have hs3 : (w3.alloc (.cells #[.int .i64 3, .int .i64 0, .string ⟨#[91, 93]⟩, .slice none 0 0] 25)).heap.size = w3.heap.size + 1 := size_alloc _ _
    clear hcs0 hc hel hgd hb3 hb HR2 HF2 hrb2 HRw
    generalize hB6 : w3.heap.size = B6 at *
    have c5 : (w3.alloc (.cells #[.int .i64 3, .int .i64 0, .string ⟨#[91, 93]⟩, .slice none 0 0] 25)).cell? ⟨r, 5, none⟩ = some (.int .i64 (k2 : Nat)) := by rw [HLq.out.rd.cell]; rfl
    have hii := hi2
    by_cases hk2 : k2 = 0
    · subst hk2
      have HX3 := Lib.hid (show X = (match (if isM (nx ((ab L).drop i2)) [124] = true then x 999 ((ab L).drop (i2 + 1), nm2) else .ok (nilT, ((ab L).drop i2, nm2)) : Res T) with
        | .error k => .error k
        | .ok (r, s2) => if isM (nx s2.1) [93] = true then .ok (consAll l r, (s2.1.tail, s2.2)) else .error 50) from by
          rw [hX1.out, hA.ok rfl]; simp only [tail_drop]; rfl)
      clear hX1 hA
      have kv := mark_c HLq.out.rd [124]
      rw [show bs [124] = ⟨#[124]⟩ from rfl] at kv
      rcases hq : isM (nx ((ab L).drop i2)) [124] with _ | _
      · rw [hq] at kv
        have HXm := Lib.hid (show X = (if isM (nx ((ab L).drop i2)) [93] = true then .ok (consAll l nilT, ((ab L).drop (i2 + 1), nm2)) else .error 50) from HX3.out.trans (by rw [if_neg (by rw [hq]; decide)]; simp only [tail_drop]))
        clear hq HX3
        go_wp2_with fail
        refine kv.mono ?_
        rintro en w4 ⟨rfl, hb⟩
        have HL4 := Lib.hid (HLq.out.stay hb)
        clear HLq kv hb c5
        have HLq := HL4
        clear HL4
        have kq := must_c HLq.out.rd [93]
        rw [show bs [93] = ⟨#[93]⟩ from rfl] at kq
        go_wp2_with fail
        refine kq.mono ?_
        rintro en w5 ⟨rfl, hF, (⟨hmm, hR⟩ | ⟨hmm, pp, hR⟩)⟩
        · have HXf := Lib.hid (show Agree L X (consAll l nilT) (i2 + 1) nm2 0 from agree_ok (HXm.out.trans (if_pos hmm)))
          have HL9 := Lib.hid (HLq.out.fr' hF hR)
          clear HLq hF hR hmm kq HXm
          have HLq := HL9
          clear HL9
          have lw : IntKind.i64.wrap ((l.length : Int) - 1) = (l.length : Int) - 1 := IntWalk.i64_in _ (by omega)
          go_wp2_with fail
          go_loopg [7] l.length (fun k v wr => ∃ (m : Nat) (t : T) (a : Value), k = m ∧ v = .int .i64 ((m : Int) - 1) ∧ m ≤ l.length ∧ Hid (Lq r b S tk L (i2 + 1) nv2 nm2 p2 0 w.heap.size B6 g l az t a w wr) ∧ Hid (t = consAll (l.drop m) nilT))
          case atStart => exact ⟨l.length, nilT, (.slice none 0 0), rfl, rfl, Nat.le_refl _, HLq, Lib.hid (by rw [List.drop_length]; rfl)⟩
          case round =>
            clear HLq lw
            obtain ⟨m, t, a, hgk, rfl, hm, HLr, HT⟩ := hrel
            obtain ⟨ra, rm, rc, rfl⟩ := HLr.out.tm.shape
            rcases m with _ | m
            · have hz1 : ¬ ((0 : Int) ≤ ((0 : Nat) : Int) - 1) := by omega
              have HX2 := Lib.hid (show Agree L X t (i2 + 1) nm2 0 from by have := HXf.out; rwa [HT.out])
              obtain ⟨t0, t1, t2, t3, _⟩ := cells4 HLr.out.loc
              obtain ⟨r0, r1, r2, r3, rf⟩ := cells4 HLr.out.res
              clear HXf HT
              generalize hBe : w.heap.size = B at *
              have HBe := Lib.hid hBe
              clear hBe
              go_wp2
              (try simp only [Exit.inBlock, Exit.then])
              exact fin_sq rfl rfl HLr.out.rd HLr.out.fr HLr.out.res (Nat.le_of_eq HBe.out) (by rw [HBe.out]; exact hlt) HLr.out.tm (fun k hk => ⟨hk.1, hk.2.1⟩) (by omega) HX2.out
            · rw [show ((m + 1 : Nat) : Int) - 1 = (m : Int) by omega]
              have hml : m < l.length := hm
              have p1 : (0 : Int) ≤ (m : Int) := by omega
              have p2 : (m : Int) < (l.length : Int) := by omega
              have p4 : IntKind.i64.wrap ((m : Int) - 1) = (m : Int) - 1 := IntWalk.i64_in _ (by omega)
              obtain ⟨ea, em, ec, he⟩ := Hsh.out m hml
              have hcx := HLr.out.rc m hml
              have hTm := HLr.out.el m hml
              rw [he] at hcx hTm
              obtain ⟨d0, d1, d2, d3⟩ := hcx
              obtain ⟨t0, t1, t2, t3, tf⟩ := cells4 HLr.out.loc
              have HT2 := Lib.hid (show T.cmp [46] [l.getD m dfT, t] = consAll (l.drop m) nilT from by rw [consAll_drop hml, HT.out])
              rw [show (T.leaf 0 0 []) = dfT from rfl] at d0 d1 d2
              generalize l.getD m dfT = tx at *
              have hTt := HLr.out.tm
              have hsz := lt_of HLr.out.loc
              have k2 := fun n => two_c (D := fun k => w.heap.size ≤ k ∧ k ≠ w.heap.size ∧ k ≠ B6) (w := wr.drewN n) (hTm.kept (Kt.below (below_drawn _ _ _))) (hTt.kept (Kt.below (below_drawn _ _ _))) (fun k hk => by have : wr.heap.size ≤ k := hk; exact ⟨by omega, by omega, by omega⟩) [46]
              rw [show bs [46] = ⟨#[46]⟩ from rfl] at k2
              have K2 := Lib.hid k2
              clear hTm hTt k2 HT
              go_wp2_with fail
              have hlr : r < B6 := by omega
              have h06 : w.heap.size ≠ B6 := by omega
              go_region_with (first
                | (go_at_call 75; (refine (K2.out _).mono ?_); rintro en w6 ⟨v6, rfl, hT6, hb6⟩; obtain ⟨va, vm, vc, rfl⟩ := hT6.shape; have hb7 := (below_drawn wr.heap.size wr _).trans hb6; have HL6 := Lib.hid (HLr.out.stay hb7); have HS6 := Lib.hid (HL6.out.store hT6 hlr (by omega) h06); obtain ⟨y0, y1, y2, y3, yf⟩ := cells4 HL6.out.loc; clear hT6 hb6 HL6 hb7))
              all_goals
                go_wp2
                go_roundg m
                case measure => omega
                case rel => exact ⟨m, .cmp [46] [tx, t], .slice va vm vc, rfl, rfl, by omega, HS6, HT2⟩
        · have HXf := Lib.hid (show Agree L X (consAll l nilT) i2 nm2 50 from agree_bad (HXm.out.trans (if_neg (by rw [hmm]; decide))) (by decide))
          have HL9 := Lib.hid (HLq.out.fr' hF hR)
          clear HLq hF hR hmm kq HXm
          have HLq := HL9
          clear HL9
          have lw : IntKind.i64.wrap ((l.length : Int) - 1) = (l.length : Int) - 1 := IntWalk.i64_in _ (by omega)
          go_wp2_with fail
          go_loopg [7] l.length (fun k v wr => ∃ (m : Nat) (t : T) (a : Value), k = m ∧ v = .int .i64 ((m : Int) - 1) ∧ m ≤ l.length ∧ Hid (Lq r b S tk L i2 nv2 nm2 pp 50 w.heap.size B6 g l az t a w wr) ∧ Hid (t = consAll (l.drop m) nilT))
          case atStart => exact ⟨l.length, nilT, (.slice none 0 0), rfl, rfl, Nat.le_refl _, HLq, Lib.hid (by rw [List.drop_length]; rfl)⟩
          case round =>
            clear HLq lw
            obtain ⟨m, t, a, hgk, rfl, hm, HLr, HT⟩ := hrel
            obtain ⟨ra, rm, rc, rfl⟩ := HLr.out.tm.shape
            rcases m with _ | m
            · have hz1 : ¬ ((0 : Int) ≤ ((0 : Nat) : Int) - 1) := by omega
              have HX2 := Lib.hid (show Agree L X t i2 nm2 50 from by have := HXf.out; rwa [HT.out])
              obtain ⟨t0, t1, t2, t3, _⟩ := cells4 HLr.out.loc
              obtain ⟨r0, r1, r2, r3, rf⟩ := cells4 HLr.out.res
              clear HXf HT
              generalize hBe : w.heap.size = B at *
              have HBe := Lib.hid hBe
              clear hBe
              go_wp2
              (try simp only [Exit.inBlock, Exit.then])
              exact fin_sq rfl rfl HLr.out.rd HLr.out.fr HLr.out.res (Nat.le_of_eq HBe.out) (by rw [HBe.out]; exact hlt) HLr.out.tm (fun k hk => ⟨hk.1, hk.2.1⟩) (by omega) HX2.out
            · rw [show ((m + 1 : Nat) : Int) - 1 = (m : Int) by omega]
              have hml : m < l.length := hm
              have p1 : (0 : Int) ≤ (m : Int) := by omega
              have p2 : (m : Int) < (l.length : Int) := by omega
              have p4 : IntKind.i64.wrap ((m : Int) - 1) = (m : Int) - 1 := IntWalk.i64_in _ (by omega)
              obtain ⟨ea, em, ec, he⟩ := Hsh.out m hml
              have hcx := HLr.out.rc m hml
              have hTm := HLr.out.el m hml
              rw [he] at hcx hTm
              obtain ⟨d0, d1, d2, d3⟩ := hcx
              obtain ⟨t0, t1, t2, t3, tf⟩ := cells4 HLr.out.loc
              have HT2 := Lib.hid (show T.cmp [46] [l.getD m dfT, t] = consAll (l.drop m) nilT from by rw [consAll_drop hml, HT.out])
              rw [show (T.leaf 0 0 []) = dfT from rfl] at d0 d1 d2
              generalize l.getD m dfT = tx at *
              have hTt := HLr.out.tm
              have hsz := lt_of HLr.out.loc
              have k2 := fun n => two_c (D := fun k => w.heap.size ≤ k ∧ k ≠ w.heap.size ∧ k ≠ B6) (w := wr.drewN n) (hTm.kept (Kt.below (below_drawn _ _ _))) (hTt.kept (Kt.below (below_drawn _ _ _))) (fun k hk => by have : wr.heap.size ≤ k := hk; exact ⟨by omega, by omega, by omega⟩) [46]
              rw [show bs [46] = ⟨#[46]⟩ from rfl] at k2
              have K2 := Lib.hid k2
              clear hTm hTt k2 HT
              go_wp2_with fail
              have hlr : r < B6 := by omega
              have h06 : w.heap.size ≠ B6 := by omega
              go_region_with (first
                | (go_at_call 75; (refine (K2.out _).mono ?_); rintro en w6 ⟨v6, rfl, hT6, hb6⟩; obtain ⟨va, vm, vc, rfl⟩ := hT6.shape; have hb7 := (below_drawn wr.heap.size wr _).trans hb6; have HL6 := Lib.hid (HLr.out.stay hb7); have HS6 := Lib.hid (HL6.out.store hT6 hlr (by omega) h06); obtain ⟨y0, y1, y2, y3, yf⟩ := cells4 HL6.out.loc; clear hT6 hb6 HL6 hb7))
              all_goals
                go_wp2
                go_roundg m
                case measure => omega
                case rel => exact ⟨m, .cmp [46] [tx, t], .slice va vm vc, rfl, rfl, by omega, HS6, HT2⟩
      · rw [hq] at kv
        have hil := isM_lt hq
        have HX4 := Lib.hid (show X = (match x 999 ((ab L).drop (i2 + 1), nm2) with
          | .error k => .error k
          | .ok (r, s2) => if isM (nx s2.1) [93] = true then .ok (consAll l r, (s2.1.tail, s2.2)) else .error 50) from HX3.out.trans (by rw [if_pos hq]))
        have jw := wrap1' (n := i2) (by omega)
        clear hq HX3
        go_wp2_with fail
        refine kv.mono ?_
        rintro en w4 ⟨rfl, hb⟩
        have hL4 := HLq.out.stay hb
        have c2 : w4.cell? ⟨r, 2, none⟩ = some (.int .i64 (i2 : Nat)) := by rw [hL4.rd.cell]; rfl
        have f2 := hL4.rd.free 2
        have HL5 := Lib.hid (hL4.fr' ((Fr.refl r b w4).set (p := ⟨r, 2, none⟩) (.inl rfl) (.int .i64 ((i2 : Int) + 1))) (hL4.rd.step hil))
        have kx := HW.out 999 (i2 + 1) nv2 nm2 p2 _ (by decide) (by decide) HL5.out.rd
        have hz4 := lt_of hL4.loc
        clear HLq kv hb c5 hL4
        go_wp2_with fail
        refine kx.mono ?_
        rintro en w5 ⟨t4, a4, i4, nv4, nm4, p4, k4, rfl, hT4, hi4, hR5, hF5, hA4⟩
        obtain ⟨ra4, rm4, rc4, rfl⟩ := hT4.shape
        have hz6 := (show B6 < (w4.setCell ⟨r, 2, none⟩ (.int .i64 ((i2 : Int) + 1))).heap.size from by simpa [World.setCell] using hz4)
        have HL6 := HL5.out.fr' hF5 hR5
        have HT4 := hT4.imp (D' := fun k => w.heap.size ≤ k ∧ k ≠ w.heap.size ∧ k ≠ B6) fun k _ hk => by omega
        have HLs := Lib.hid (HL6.store HT4 (by omega) (by omega) (by omega))
        obtain ⟨v0, v1, v2, v3, vf⟩ := cells4 HL6.loc
        have c6 : ((((w5.setCell ⟨B6, 0, none⟩ (.int .i64 (t4.k : Nat))).setCell ⟨B6, 1, none⟩ (.int .i64 t4.n)).setCell ⟨B6, 2, none⟩ (.string (bs t4.s))).setCell ⟨B6, 3, none⟩ (.slice ra4 rm4 rc4)).cell? ⟨r, 5, none⟩ = some (.int .i64 (k4 : Nat)) := by rw [HLs.out.rd.cell]; rfl
        have hii : i ≤ i4 := by omega
        clear hT4 hR5 hF5 kx HL5 HL6 HT4 c2 f2 c6
        have HLq := HLs
        clear HLs
        by_cases hk4 : k4 = 0
        · subst hk4
          have HXm := Lib.hid (show X = (if isM (nx ((ab L).drop i4)) [93] = true then .ok (consAll l t4, ((ab L).drop (i4 + 1), nm4)) else .error 50) from by
            rw [HX4.out, hA4.ok rfl]; simp only [tail_drop])
          clear hA4 HX4
          have kq := must_c HLq.out.rd [93]
          rw [show bs [93] = ⟨#[93]⟩ from rfl] at kq
          go_wp2_with fail
          refine kq.mono ?_
          rintro en w7 ⟨rfl, hF, (⟨hmm, hR⟩ | ⟨hmm, pp, hR⟩)⟩
          · have HXf := Lib.hid (show Agree L X (consAll l t4) (i4 + 1) nm4 0 from agree_ok (HXm.out.trans (if_pos hmm)))
            have HL9 := Lib.hid (HLq.out.fr' hF hR)
            clear HLq hF hR hmm kq HXm
            have HLq := HL9
            clear HL9
            have lw : IntKind.i64.wrap ((l.length : Int) - 1) = (l.length : Int) - 1 := IntWalk.i64_in _ (by omega)
            go_wp2_with fail
            go_loopg [7] l.length (fun k v wr => ∃ (m : Nat) (t : T) (a : Value), k = m ∧ v = .int .i64 ((m : Int) - 1) ∧ m ≤ l.length ∧ Hid (Lq r b S tk L (i4 + 1) nv4 nm4 p4 0 w.heap.size B6 g l az t a w wr) ∧ Hid (t = consAll (l.drop m) t4))
            case atStart => exact ⟨l.length, t4, (.slice ra4 rm4 rc4), rfl, rfl, Nat.le_refl _, HLq, Lib.hid (by rw [List.drop_length]; rfl)⟩
            case round =>
              clear HLq lw
              obtain ⟨m, t, a, hgk, rfl, hm, HLr, HT⟩ := hrel
              obtain ⟨ra, rm, rc, rfl⟩ := HLr.out.tm.shape
              rcases m with _ | m
              · have hz1 : ¬ ((0 : Int) ≤ ((0 : Nat) : Int) - 1) := by omega
                have HX2 := Lib.hid (show Agree L X t (i4 + 1) nm4 0 from by have := HXf.out; rwa [HT.out])
                obtain ⟨t0, t1, t2, t3, _⟩ := cells4 HLr.out.loc
                obtain ⟨r0, r1, r2, r3, rf⟩ := cells4 HLr.out.res
                clear HXf HT
                generalize hBe : w.heap.size = B at *
                have HBe := Lib.hid hBe
                clear hBe
                go_wp2
                (try simp only [Exit.inBlock, Exit.then])
                exact fin_sq rfl rfl HLr.out.rd HLr.out.fr HLr.out.res (Nat.le_of_eq HBe.out) (by rw [HBe.out]; exact hlt) HLr.out.tm (fun k hk => ⟨hk.1, hk.2.1⟩) (by omega) HX2.out
              · rw [show ((m + 1 : Nat) : Int) - 1 = (m : Int) by omega]
                have hml : m < l.length := hm
                have p1 : (0 : Int) ≤ (m : Int) := by omega
                have p2 : (m : Int) < (l.length : Int) := by omega
                have p4 : IntKind.i64.wrap ((m : Int) - 1) = (m : Int) - 1 := IntWalk.i64_in _ (by omega)
                obtain ⟨ea, em, ec, he⟩ := Hsh.out m hml
                have hcx := HLr.out.rc m hml
                have hTm := HLr.out.el m hml
                rw [he] at hcx hTm
                obtain ⟨d0, d1, d2, d3⟩ := hcx
                obtain ⟨t0, t1, t2, t3, tf⟩ := cells4 HLr.out.loc
                have HT2 := Lib.hid (show T.cmp [46] [l.getD m dfT, t] = consAll (l.drop m) t4 from by rw [consAll_drop hml, HT.out])
                rw [show (T.leaf 0 0 []) = dfT from rfl] at d0 d1 d2
                generalize l.getD m dfT = tx at *
                have hTt := HLr.out.tm
                have hsz := lt_of HLr.out.loc
                have k2 := fun n => two_c (D := fun k => w.heap.size ≤ k ∧ k ≠ w.heap.size ∧ k ≠ B6) (w := wr.drewN n) (hTm.kept (Kt.below (below_drawn _ _ _))) (hTt.kept (Kt.below (below_drawn _ _ _))) (fun k hk => by have : wr.heap.size ≤ k := hk; exact ⟨by omega, by omega, by omega⟩) [46]
                rw [show bs [46] = ⟨#[46]⟩ from rfl] at k2
                have K2 := Lib.hid k2
                clear hTm hTt k2 HT
                go_wp2_with fail
                have hlr : r < B6 := by omega
                have h06 : w.heap.size ≠ B6 := by omega
                go_region_with (first
                  | (go_at_call 75; (refine (K2.out _).mono ?_); rintro en w6 ⟨v6, rfl, hT6, hb6⟩; obtain ⟨va, vm, vc, rfl⟩ := hT6.shape; have hb7 := (below_drawn wr.heap.size wr _).trans hb6; have HL6 := Lib.hid (HLr.out.stay hb7); have HS6 := Lib.hid (HL6.out.store hT6 hlr (by omega) h06); obtain ⟨y0, y1, y2, y3, yf⟩ := cells4 HL6.out.loc; clear hT6 hb6 HL6 hb7))
                all_goals
                  go_wp2
                  go_roundg m
                  case measure => omega
                  case rel => exact ⟨m, .cmp [46] [tx, t], .slice va vm vc, rfl, rfl, by omega, HS6, HT2⟩
          · have HXf := Lib.hid (show Agree L X (consAll l t4) i4 nm4 50 from agree_bad (HXm.out.trans (if_neg (by rw [hmm]; decide))) (by decide))
            have HL9 := Lib.hid (HLq.out.fr' hF hR)
            clear HLq hF hR hmm kq HXm
            have HLq := HL9
            clear HL9
            have lw : IntKind.i64.wrap ((l.length : Int) - 1) = (l.length : Int) - 1 := IntWalk.i64_in _ (by omega)
            go_wp2_with fail
            go_loopg [7] l.length (fun k v wr => ∃ (m : Nat) (t : T) (a : Value), k = m ∧ v = .int .i64 ((m : Int) - 1) ∧ m ≤ l.length ∧ Hid (Lq r b S tk L i4 nv4 nm4 pp 50 w.heap.size B6 g l az t a w wr) ∧ Hid (t = consAll (l.drop m) t4))
            case atStart => exact ⟨l.length, t4, (.slice ra4 rm4 rc4), rfl, rfl, Nat.le_refl _, HLq, Lib.hid (by rw [List.drop_length]; rfl)⟩
            case round =>
              clear HLq lw
              obtain ⟨m, t, a, hgk, rfl, hm, HLr, HT⟩ := hrel
              obtain ⟨ra, rm, rc, rfl⟩ := HLr.out.tm.shape
              rcases m with _ | m
              · have hz1 : ¬ ((0 : Int) ≤ ((0 : Nat) : Int) - 1) := by omega
                have HX2 := Lib.hid (show Agree L X t i4 nm4 50 from by have := HXf.out; rwa [HT.out])
                obtain ⟨t0, t1, t2, t3, _⟩ := cells4 HLr.out.loc
                obtain ⟨r0, r1, r2, r3, rf⟩ := cells4 HLr.out.res
                clear HXf HT
                generalize hBe : w.heap.size = B at *
                have HBe := Lib.hid hBe
                clear hBe
                go_wp2
                (try simp only [Exit.inBlock, Exit.then])
                exact fin_sq rfl rfl HLr.out.rd HLr.out.fr HLr.out.res (Nat.le_of_eq HBe.out) (by rw [HBe.out]; exact hlt) HLr.out.tm (fun k hk => ⟨hk.1, hk.2.1⟩) (by omega) HX2.out
              · rw [show ((m + 1 : Nat) : Int) - 1 = (m : Int) by omega]
                have hml : m < l.length := hm
                have p1 : (0 : Int) ≤ (m : Int) := by omega
                have p2 : (m : Int) < (l.length : Int) := by omega
                have p4 : IntKind.i64.wrap ((m : Int) - 1) = (m : Int) - 1 := IntWalk.i64_in _ (by omega)
                obtain ⟨ea, em, ec, he⟩ := Hsh.out m hml
                have hcx := HLr.out.rc m hml
                have hTm := HLr.out.el m hml
                rw [he] at hcx hTm
                obtain ⟨d0, d1, d2, d3⟩ := hcx
                obtain ⟨t0, t1, t2, t3, tf⟩ := cells4 HLr.out.loc
                have HT2 := Lib.hid (show T.cmp [46] [l.getD m dfT, t] = consAll (l.drop m) t4 from by rw [consAll_drop hml, HT.out])
                rw [show (T.leaf 0 0 []) = dfT from rfl] at d0 d1 d2
                generalize l.getD m dfT = tx at *
                have hTt := HLr.out.tm
                have hsz := lt_of HLr.out.loc
                have k2 := fun n => two_c (D := fun k => w.heap.size ≤ k ∧ k ≠ w.heap.size ∧ k ≠ B6) (w := wr.drewN n) (hTm.kept (Kt.below (below_drawn _ _ _))) (hTt.kept (Kt.below (below_drawn _ _ _))) (fun k hk => by have : wr.heap.size ≤ k := hk; exact ⟨by omega, by omega, by omega⟩) [46]
                rw [show bs [46] = ⟨#[46]⟩ from rfl] at k2
                have K2 := Lib.hid k2
                clear hTm hTt k2 HT
                go_wp2_with fail
                have hlr : r < B6 := by omega
                have h06 : w.heap.size ≠ B6 := by omega
                go_region_with (first
                  | (go_at_call 75; (refine (K2.out _).mono ?_); rintro en w6 ⟨v6, rfl, hT6, hb6⟩; obtain ⟨va, vm, vc, rfl⟩ := hT6.shape; have hb7 := (below_drawn wr.heap.size wr _).trans hb6; have HL6 := Lib.hid (HLr.out.stay hb7); have HS6 := Lib.hid (HL6.out.store hT6 hlr (by omega) h06); obtain ⟨y0, y1, y2, y3, yf⟩ := cells4 HL6.out.loc; clear hT6 hb6 HL6 hb7))
                all_goals
                  go_wp2
                  go_roundg m
                  case measure => omega
                  case rel => exact ⟨m, .cmp [46] [tx, t], .slice va vm vc, rfl, rfl, by omega, HS6, HT2⟩
        · have Hk := Lib.hid hk4
          have HXf := Lib.hid (show Agree L X (consAll l t4) i4 nm4 k4 from agree_bad (by rw [HX4.out, hA4.bad hk4]) hk4)
          clear hk4 hA4 HX4
          have kq := must_bad HLq.out.rd Hk.out [93]
          rw [show bs [93] = ⟨#[93]⟩ from rfl] at kq
          go_wp2_with fail
          refine kq.mono ?_
          rintro en w9 ⟨rfl, rfl⟩
          clear kq
          have lw : IntKind.i64.wrap ((l.length : Int) - 1) = (l.length : Int) - 1 := IntWalk.i64_in _ (by omega)
          go_wp2_with fail
          go_loopg [7] l.length (fun k v wr => ∃ (m : Nat) (t : T) (a : Value), k = m ∧ v = .int .i64 ((m : Int) - 1) ∧ m ≤ l.length ∧ Hid (Lq r b S tk L i4 nv4 nm4 p4 k4 w.heap.size B6 g l az t a w wr) ∧ Hid (t = consAll (l.drop m) t4))
          case atStart => exact ⟨l.length, t4, (.slice ra4 rm4 rc4), rfl, rfl, Nat.le_refl _, HLq, Lib.hid (by rw [List.drop_length]; rfl)⟩
          case round =>
            clear HLq lw
            obtain ⟨m, t, a, hgk, rfl, hm, HLr, HT⟩ := hrel
            obtain ⟨ra, rm, rc, rfl⟩ := HLr.out.tm.shape
            rcases m with _ | m
            · have hz1 : ¬ ((0 : Int) ≤ ((0 : Nat) : Int) - 1) := by omega
              have HX2 := Lib.hid (show Agree L X t i4 nm4 k4 from by have := HXf.out; rwa [HT.out])
              obtain ⟨t0, t1, t2, t3, _⟩ := cells4 HLr.out.loc
              obtain ⟨r0, r1, r2, r3, rf⟩ := cells4 HLr.out.res
              clear HXf HT
              generalize hBe : w.heap.size = B at *
              have HBe := Lib.hid hBe
              clear hBe
              go_wp2
              (try simp only [Exit.inBlock, Exit.then])
              exact fin_sq rfl rfl HLr.out.rd HLr.out.fr HLr.out.res (Nat.le_of_eq HBe.out) (by rw [HBe.out]; exact hlt) HLr.out.tm (fun k hk => ⟨hk.1, hk.2.1⟩) (by omega) HX2.out
            · rw [show ((m + 1 : Nat) : Int) - 1 = (m : Int) by omega]
              have hml : m < l.length := hm
              have p1 : (0 : Int) ≤ (m : Int) := by omega
              have p2 : (m : Int) < (l.length : Int) := by omega
              have p4 : IntKind.i64.wrap ((m : Int) - 1) = (m : Int) - 1 := IntWalk.i64_in _ (by omega)
              obtain ⟨ea, em, ec, he⟩ := Hsh.out m hml
              have hcx := HLr.out.rc m hml
              have hTm := HLr.out.el m hml
              rw [he] at hcx hTm
              obtain ⟨d0, d1, d2, d3⟩ := hcx
              obtain ⟨t0, t1, t2, t3, tf⟩ := cells4 HLr.out.loc
              have HT2 := Lib.hid (show T.cmp [46] [l.getD m dfT, t] = consAll (l.drop m) t4 from by rw [consAll_drop hml, HT.out])
              rw [show (T.leaf 0 0 []) = dfT from rfl] at d0 d1 d2
              generalize l.getD m dfT = tx at *
              have hTt := HLr.out.tm
              have hsz := lt_of HLr.out.loc
              have k2 := fun n => two_c (D := fun k => w.heap.size ≤ k ∧ k ≠ w.heap.size ∧ k ≠ B6) (w := wr.drewN n) (hTm.kept (Kt.below (below_drawn _ _ _))) (hTt.kept (Kt.below (below_drawn _ _ _))) (fun k hk => by have : wr.heap.size ≤ k := hk; exact ⟨by omega, by omega, by omega⟩) [46]
              rw [show bs [46] = ⟨#[46]⟩ from rfl] at k2
              have K2 := Lib.hid k2
              clear hTm hTt k2 HT
              go_wp2_with fail
              have hlr : r < B6 := by omega
              have h06 : w.heap.size ≠ B6 := by omega
              go_region_with (first
                | (go_at_call 75; (refine (K2.out _).mono ?_); rintro en w6 ⟨v6, rfl, hT6, hb6⟩; obtain ⟨va, vm, vc, rfl⟩ := hT6.shape; have hb7 := (below_drawn wr.heap.size wr _).trans hb6; have HL6 := Lib.hid (HLr.out.stay hb7); have HS6 := Lib.hid (HL6.out.store hT6 hlr (by omega) h06); obtain ⟨y0, y1, y2, y3, yf⟩ := cells4 HL6.out.loc; clear hT6 hb6 HL6 hb7))
              all_goals
                go_wp2
                go_roundg m
                case measure => omega
                case rel => exact ⟨m, .cmp [46] [tx, t], .slice va vm vc, rfl, rfl, by omega, HS6, HT2⟩
    · have Hk := Lib.hid hk2
      have he2 : ((k2 : Int) == 0) = false := by rw [beq_eq_false_iff_ne]; omega
      have HXf := Lib.hid (show Agree L X (consAll l nilT) i2 nm2 k2 from agree_bad (by rw [hX1.out, hA.bad hk2]) hk2)
      clear hk2 hX1 hA
      have kq := must_bad HLq.out.rd Hk.out [93]
      rw [show bs [93] = ⟨#[93]⟩ from rfl] at kq
      go_wp2_with fail
      refine kq.mono ?_
      rintro en w9 ⟨rfl, rfl⟩
      clear kq
      have lw : IntKind.i64.wrap ((l.length : Int) - 1) = (l.length : Int) - 1 := IntWalk.i64_in _ (by omega)
      go_wp2_with fail
      go_loopg [7] l.length (fun k v wr => ∃ (m : Nat) (t : T) (a : Value), k = m ∧ v = .int .i64 ((m : Int) - 1) ∧ m ≤ l.length ∧ Hid (Lq r b S tk L i2 nv2 nm2 p2 k2 w.heap.size B6 g l az t a w wr) ∧ Hid (t = consAll (l.drop m) nilT))
      case atStart => exact ⟨l.length, nilT, (.slice none 0 0), rfl, rfl, Nat.le_refl _, HLq, Lib.hid (by rw [List.drop_length]; rfl)⟩
      case round =>
        clear HLq lw
        obtain ⟨m, t, a, hgk, rfl, hm, HLr, HT⟩ := hrel
        obtain ⟨ra, rm, rc, rfl⟩ := HLr.out.tm.shape
        rcases m with _ | m
        · have hz1 : ¬ ((0 : Int) ≤ ((0 : Nat) : Int) - 1) := by omega
          have HX2 := Lib.hid (show Agree L X t i2 nm2 k2 from by have := HXf.out; rwa [HT.out])
          obtain ⟨t0, t1, t2, t3, _⟩ := cells4 HLr.out.loc
          obtain ⟨r0, r1, r2, r3, rf⟩ := cells4 HLr.out.res
          clear HXf HT
          generalize hBe : w.heap.size = B at *
          have HBe := Lib.hid hBe
          clear hBe
          go_wp2
          (try simp only [Exit.inBlock, Exit.then])
          exact fin_sq rfl rfl HLr.out.rd HLr.out.fr HLr.out.res (Nat.le_of_eq HBe.out) (by rw [HBe.out]; exact hlt) HLr.out.tm (fun k hk => ⟨hk.1, hk.2.1⟩) (by omega) HX2.out
        · rw [show ((m + 1 : Nat) : Int) - 1 = (m : Int) by omega]
          have hml : m < l.length := hm
          have p1 : (0 : Int) ≤ (m : Int) := by omega
          have p2 : (m : Int) < (l.length : Int) := by omega
          have p4 : IntKind.i64.wrap ((m : Int) - 1) = (m : Int) - 1 := IntWalk.i64_in _ (by omega)
          obtain ⟨ea, em, ec, he⟩ := Hsh.out m hml
          have hcx := HLr.out.rc m hml
          have hTm := HLr.out.el m hml
          rw [he] at hcx hTm
          obtain ⟨d0, d1, d2, d3⟩ := hcx
          obtain ⟨t0, t1, t2, t3, tf⟩ := cells4 HLr.out.loc
          have HT2 := Lib.hid (show T.cmp [46] [l.getD m dfT, t] = consAll (l.drop m) nilT from by rw [consAll_drop hml, HT.out])
          rw [show (T.leaf 0 0 []) = dfT from rfl] at d0 d1 d2
          generalize l.getD m dfT = tx at *
          have hTt := HLr.out.tm
          have hsz := lt_of HLr.out.loc
          have k2 := fun n => two_c (D := fun k => w.heap.size ≤ k ∧ k ≠ w.heap.size ∧ k ≠ B6) (w := wr.drewN n) (hTm.kept (Kt.below (below_drawn _ _ _))) (hTt.kept (Kt.below (below_drawn _ _ _))) (fun k hk => by have : wr.heap.size ≤ k := hk; exact ⟨by omega, by omega, by omega⟩) [46]
          rw [show bs [46] = ⟨#[46]⟩ from rfl] at k2
          have K2 := Lib.hid k2
          clear hTm hTt k2 HT
          go_wp2_with fail
          have hlr : r < B6 := by omega
          have h06 : w.heap.size ≠ B6 := by omega
          go_region_with (first
            | (go_at_call 75; (refine (K2.out _).mono ?_); rintro en w6 ⟨v6, rfl, hT6, hb6⟩; obtain ⟨va, vm, vc, rfl⟩ := hT6.shape; have hb7 := (below_drawn wr.heap.size wr _).trans hb6; have HL6 := Lib.hid (HLr.out.stay hb7); have HS6 := Lib.hid (HL6.out.store hT6 hlr (by omega) h06); obtain ⟨y0, y1, y2, y3, yf⟩ := cells4 HL6.out.loc; clear hT6 hb6 HL6 hb7))
          all_goals
            go_wp2
            go_roundg m
            case measure => omega
            case rel => exact ⟨m, .cmp [46] [tx, t], .slice va vm vc, rfl, rfl, by omega, HS6, HT2⟩
  · rw [hq] at km
    have hil := isM_lt hq
    have hX1 := Lib.hid (HX.out.trans (if_pos hq))
    clear hq HX
    go_wp2_with fail
    refine km.mono ?_
    rintro en w1 ⟨rfl, hb⟩
    have hrb1 := (hb.block w.heap.size (by rw [hws.out]; omega)).trans hrb0.out
    have hR1 := HR0.out.stay hb
    have HF1 := Lib.hid ((HF0.out.trans (Fr.of_below hb)).set (p := ⟨r, 2, none⟩) (.inl rfl) (.int .i64 ((i : Int) + 1)))
    have c2 : w1.cell? ⟨r, 2, none⟩ = some (.int .i64 (i : Nat)) := by rw [hR1.cell]; rfl
    have f2 := hR1.free 2
    have HR1 := Lib.hid (hR1.step hil)
    have hrb2 := Lib.hid ((Below.heap_setCell w1 ⟨r, 2, none⟩ (.int .i64 ((i : Int) + 1)) w.heap.size (by show w.heap.size ≠ r; omega)).trans hrb1)
    clear hb km hrb0 HR0 HF0 hR1 hrb1
    go_wp2_with fail
    refine (atom_c _ _).mono ?_
    rintro en w2 ⟨rfl, hb⟩
    have hz1 := lt_of hrb2.out
    have hrb3 := (hb.block w.heap.size hz1).trans hrb2.out
    have HR3 := Lib.hid (HR1.out.stay hb)
    have HF3 := Lib.hid (HF1.out.trans (Fr.of_below hb))
    obtain ⟨r0, r1, r2, r3, rf⟩ := cells4 hrb3
    have Hrb3 := Lib.hid hrb3
    clear hb hrb2 HR1 HF1 hrb3 c2 f2
    go_wp2
    (try simp only [Exit.inBlock, Exit.then])
    exact fin_sq (t := nilT) (D := fun _ => False) rfl rfl HR3.out HF3.out Hrb3.out (Nat.le_refl _) hlt (by rw [nilT, Rp]) (fun _ h => h.elim) (by omega) (agree_ok hX1.out)
end Go.Proofs.Ytjccohcigopdfaa.rr
end
