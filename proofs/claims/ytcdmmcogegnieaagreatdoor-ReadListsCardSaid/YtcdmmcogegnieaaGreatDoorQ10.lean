/- The program's reader: marked.; The program's reader: named. -/
import Derived.Test.YtcdmmcogegnieaaGreatDoorQ8
import Derived.Laws.ResultCell
import Derived.Deep.RegionHeld3
set_option linter.unusedVariables false
section
/- The program's reader: marked. -/
namespace Go.Proofs.YtcdmmcogegnieaaGreatDoor.rd
open Go.RowKit
open Go.Proofs.YtcdmmcogegnieaaGreatDoor.op (bs strC Both Tb progI progP tupI lI lP)
open Go.Proofs.YtcdmmcogegnieaaGreatDoor.lx (Tok Tk tcell tcells cell_at ieq_yes ieq_no)
set_option maxRecDepth 20000

set_option maxHeartbeats 4000000 in
theorem marked_c {r b e i cb cd d : Nat} {tk nv : Value} {L : List Tok} {nm : List (List UInt8)} {w : World} {x : W} (h : Rd r b tk L e i nv nm w) (hw : WOk r b cb cd d tk L e x) (hC : Cl r cb d cd w) :
    Calls Tryz.prog 88 #[.pointer (some ⟨r, 0, none⟩), clV cb cd] w (TQ r b tk L e i w (markedP x ((ab L).drop i, nm))) := by
  have H := Lib.hid h
  have HW := Lib.hid hw
  have hrb0 := Lib.hid (heap_alloc_new w (.cells #[.int .i64 0, .int .i64 0, .string ⟨#[]⟩, .slice none 0 0] 25))
  have h0 := h.alloc (.cells #[.int .i64 0, .int .i64 0, .string ⟨#[]⟩, .slice none 0 0] 25)
  have C0 := Lib.hid (hC.stay ((Below.refl _ _).alloc (Nat.le_refl _) (.cells #[.int .i64 0, .int .i64 0, .string ⟨#[]⟩, .slice none 0 0] 25)))
  have HF0 := Lib.hid (Fr.of_below (r := r) (b := b) ((Below.refl w.heap.size w).alloc (Nat.le_refl _) (.cells #[.int .i64 0, .int .i64 0, .string ⟨#[]⟩, .slice none 0 0] 25)))
  have hlt := h.lt
  have hws := size_alloc w (.cells #[.int .i64 0, .int .i64 0, .string ⟨#[]⟩, .slice none 0 0] 25)
  have kp0 := passes_c h0 [40]
  rw [show bs [40] = ⟨#[40]⟩ from rfl] at kp0
  have HR0 := Lib.hid h0
  have Hws := Lib.hid hws
  clear h hw hC h0 hws
  rcases hq : isM (nx ((ab L).drop i)) [40] with _ | _
  · rw [hq] at kp0
    have hm0 := Lib.hid (show markedP x ((ab L).drop i, nm) = (if isM (nx ((ab L).drop i)) [91] = true then listP x ((ab L).drop (i + 1), nm)
        else if isM (nx ((ab L).drop i)) [123] = true then
          (if isM (nx ((ab L).drop (i + 1))) [125] = true then .ok (.leaf 3 0 [123, 125], ((ab L).drop (i + 2), nm))
          else match bracketP x [125] ((ab L).drop (i + 1), nm) with
            | .error k => .error k
            | .ok (t, s') => .ok (.cmp [123, 125] [t], s'))
        else .error 50) by unfold markedP; simp only [tail_drop]; rw [hq]; rfl)
    clear hq
    generalize markedP x ((ab L).drop i, nm) = X at *
    unfold clV
    go_enter Tryz.func88, Tryz.ntmps88
    go_wp2_with fail
    refine kp0.mono ?_
    rintro en w1 ⟨rfl, hF, hR⟩
    have hrb1 := Lib.hid (hF.keep HR0.out (t := 25) (by decide) (by decide) _ _ _ hrb0.out)
    have C1 := Lib.hid (C0.out.fr HR0.out hF)
    have HF1 := Lib.hid (HF0.out.trans hF)
    have HR1 := Lib.hid hR
    have hz1 := hF.size
    clear hF hR kp0
    rw [Hws.out] at hz1
    have kp1 := passes_c HR1.out [91]
    rw [show bs [91] = ⟨#[91]⟩ from rfl] at kp1
    simp only [Bool.false_eq_true, if_false] at kp1
    rcases hq : isM (nx ((ab L).drop i)) [91] with _ | _
    · rw [hq] at kp1
      have hm1 := Lib.hid (hm0.out.trans (if_neg (by rw [hq]; decide)))
      clear hq hm0
      go_wp2_with fail
      refine kp1.mono ?_
      rintro en w2 ⟨rfl, hF, hR⟩
      have hrb2 := Lib.hid (hF.keep HR1.out (t := 25) (by decide) (by decide) _ _ _ hrb1.out)
      have C2 := Lib.hid (C1.out.fr HR1.out hF)
      have HF2 := Lib.hid (HF1.out.trans hF)
      have HR2 := Lib.hid hR
      have hz2 := hF.size
      clear hF hR kp1
      have kp2 := passes_c HR2.out [123]
      rw [show bs [123] = ⟨#[123]⟩ from rfl] at kp2
      simp only [Bool.false_eq_true, if_false] at kp2
      rcases hq : isM (nx ((ab L).drop i)) [123] with _ | _
      · rw [hq] at kp2
        have hX := Lib.hid (hm1.out.trans (if_neg (by rw [hq]; decide)))
        clear hq hm1
        go_wp2_with fail
        refine kp2.mono ?_
        rintro en w3 ⟨rfl, hF, hR⟩
        have hrb3 := Lib.hid (hF.keep HR2.out (t := 25) (by decide) (by decide) _ _ _ hrb2.out)
        have C3 := Lib.hid (C2.out.fr HR2.out hF)
        have HF3 := Lib.hid (HF2.out.trans hF)
        have HR3 := Lib.hid hR
        have hz3 := hF.size
        clear hF hR kp2
        go_wp2_with fail
        refine (here_c HR3.out 50).mono ?_
        rintro en w9 ⟨rfl, hb⟩
        have HB := Lib.hid ((HF3.out.below H.out).trans (hb.mono (by have := HR3.out.lt; omega)))
        clear hb
        go_wp2
        exact ⟨rfl, by rw [hX.out]; exact ⟨_, rfl, HB.out⟩⟩
      · rw [hq] at kp2
        have hil := isM_lt hq
        have hm2 := Lib.hid (hm1.out.trans (if_pos hq))
        clear hq hm1
        go_wp2_with fail
        refine kp2.mono ?_
        rintro en w3 ⟨rfl, hF, hR⟩
        have hrb3 := Lib.hid (hF.keep HR2.out (t := 25) (by decide) (by decide) _ _ _ hrb2.out)
        have C3 := Lib.hid (C2.out.fr HR2.out hF)
        have HF3 := Lib.hid (HF2.out.trans hF)
        have HR3 := Lib.hid hR
        have hz3 := hF.size
        clear hF hR kp2
        have kp3 := passes_c (i := i + 1) HR3.out [125]
        rw [show bs [125] = ⟨#[125]⟩ from rfl] at kp3
        rcases hq : isM (nx ((ab L).drop (i + 1))) [125] with _ | _
        · rw [hq] at kp3
          have hX := Lib.hid (hm2.out.trans (if_neg (by rw [hq]; decide)))
          clear hq hm2
          go_wp2_with fail
          refine kp3.mono ?_
          rintro en w4 ⟨rfl, hF, hR⟩
          have hrb4 := Lib.hid (hF.keep HR3.out (t := 25) (by decide) (by decide) _ _ _ hrb3.out)
          have C4 := Lib.hid (C3.out.fr HR3.out hF)
          have HF4 := Lib.hid (HF3.out.trans hF)
          have HR4 := Lib.hid hR
          have hz4 := hF.size
          clear hF hR kp3
          have kb := bracketed_c (i := i + 1) HR4.out HW.out C4.out [125]
          rw [show bs [125] = ⟨#[125]⟩ from rfl] at kb
          unfold clV at kb
          rcases hx : bracketP x [125] ((ab L).drop (i + 1), nm) with k | ⟨t, s'⟩
          · rw [hx] at kb
            have hX2 := Lib.hid (show X = .error k from hX.out.trans (by rw [hx]))
            clear hX hx
            go_wp2_with fail
            refine kb.mono ?_
            rintro en w9 ⟨p, rfl, hb⟩
            have HB := Lib.hid ((HF4.out.below H.out).trans hb)
            clear hb kb
            unfold Wr
            go_wp2
            exact ⟨rfl, by rw [hX2.out]; exact ⟨p, rfl, HB.out⟩⟩
          · rw [hx] at kb
            have hX2 := Lib.hid (show X = .ok (.cmp [123, 125] [t], s') from hX.out.trans (by rw [hx]))
            clear hX hx
            go_wp2_with fail
            refine kb.mono ?_
            rintro en w9 ⟨a, i2, nv2, rfl, hT, hs, hi2, hR2, hF2⟩
            obtain ⟨ap, an, ac, rfl⟩ := hT.shape
            have hrb9 := hF2.keep HR4.out (t := 25) (by decide) (by decide) _ _ _ hrb4.out
            have hrb10 := Lib.hid ((Lib.alloc_old w9 (.cells (tv t (.slice ap an ac)).toArray 25) w.heap.size (lt_of hrb9)).trans hrb9)
            have hz9 := hF2.size
            have HRw := Lib.hid (Rw.one (D := fun k => w.heap.size + 1 ≤ k) (hT.imp fun k _ hk => by omega) (by omega))
            have HF10 := Lib.hid ((HF4.out.trans hF2).alloc (.cells (tv t (.slice ap an ac)).toArray 25))
            have HR10 := Lib.hid (hR2.alloc (.cells (tv t (.slice ap an ac)).toArray 25))
            have Hs := Lib.hid hs
            clear hT hR2 hF2 hs kb hrb9
            go_wp2_with fail
            refine (compound_c _ _ _ _ _).mono ?_
            rintro en w11 ⟨rfl, hb⟩
            have hrb11 := Lib.hid ((hb.block w.heap.size (lt_of hrb10.out)).trans hrb10.out)
            have HF11 := Lib.hid (HF10.out.trans (Fr.of_below hb))
            have HR11 := Lib.hid (HR10.out.stay hb)
            have HT := Lib.hid ((HRw.out.kept (Kt.below hb)).cmp [123, 125])
            obtain ⟨r0, r1, r2, r3, f0⟩ := cells4 hrb11.out
            clear hb HRw hrb10
            generalize hBe : w.heap.size = B at *
            have HBe := Lib.hid hBe
            clear hBe
            go_wp2
            (try simp only [Exit.inBlock, Exit.then])
            have hsx : s' = ((ab L).drop i2, s'.2) := by rw [← Hs.out]
            refine fin_term (t := .cmp [123, 125] [t]) rfl rfl HR11.out HF11.out hrb11.out (Nat.le_of_eq HBe.out) (by rw [HBe.out]; omega) HT.out (fun k hk => ⟨by rw [HBe.out]; omega, by omega⟩) (by rw [hX2.out, ← hsx]) (by omega)
        · rw [hq] at kp3
          have hil2 := isM_lt hq
          have hX := Lib.hid (hm2.out.trans (if_pos hq))
          clear hq hm2
          go_wp2_with fail
          refine kp3.mono ?_
          rintro en w4 ⟨rfl, hF, hR⟩
          have hrb4 := Lib.hid (hF.keep HR3.out (t := 25) (by decide) (by decide) _ _ _ hrb3.out)
          have C4 := Lib.hid (C3.out.fr HR3.out hF)
          have HF4 := Lib.hid (HF3.out.trans hF)
          have HR4 := Lib.hid hR
          have hz4 := hF.size
          clear hF hR kp3
          go_wp2_with fail
          refine (atom_c _ _).mono ?_
          rintro en w9 ⟨rfl, hb⟩
          have hrb9 := Lib.hid ((hb.block w.heap.size (lt_of hrb4.out)).trans hrb4.out)
          have HF9 := Lib.hid (HF4.out.trans (Fr.of_below hb))
          have HR9 := Lib.hid (HR4.out.stay hb)
          obtain ⟨r0, r1, r2, r3, f0⟩ := cells4 hrb9.out
          clear hb
          generalize hBe : w.heap.size = B at *
          have HBe := Lib.hid hBe
          clear hBe
          go_wp2
          (try simp only [Exit.inBlock, Exit.then])
          refine fin_term (D := fun _ => False) (t := .leaf 3 0 [123, 125]) rfl rfl HR9.out HF9.out hrb9.out (Nat.le_of_eq HBe.out) (by rw [HBe.out]; omega) (by rw [Rp]) (fun _ h => h.elim) hX.out (by simp; omega)
    · rw [hq] at kp1
      have hil := isM_lt hq
      have hX := Lib.hid (hm0.out.trans (if_pos hq))
      clear hq hm0
      go_wp2_with fail
      refine kp1.mono ?_
      rintro en w2 ⟨rfl, hF, hR⟩
      have hrb2 := Lib.hid (hF.keep HR1.out (t := 25) (by decide) (by decide) _ _ _ hrb1.out)
      have C2 := Lib.hid (C1.out.fr HR1.out hF)
      have HF2 := Lib.hid (HF1.out.trans hF)
      have HR2 := Lib.hid hR
      have hz2 := hF.size
      clear hF hR kp1
      have kb := list_c (i := i + 1) HR2.out HW.out C2.out
      rw [← hX.out] at kb
      unfold clV at kb
      go_wp2_with fail
      refine kb.mono ?_
      clear hX
      rcases X with k | ⟨t, s'⟩
      · rintro en w9 ⟨p, rfl, hb⟩
        have HB := Lib.hid ((HF2.out.below H.out).trans hb)
        clear hb kb
        unfold Wr
        go_wp2
        exact ⟨rfl, p, rfl, HB.out⟩
      · rintro en w9 ⟨a, i2, nv2, rfl, hT, hs, hi2, hR2, hF2⟩
        obtain ⟨ap, an, ac, rfl⟩ := hT.shape
        have hrb9 := Lib.hid (hF2.keep HR2.out (t := 25) (by decide) (by decide) _ _ _ hrb2.out)
        have HF9 := Lib.hid (HF2.out.trans hF2)
        have HR9 := Lib.hid hR2
        have HT := Lib.hid hT
        have Hs := Lib.hid hs
        obtain ⟨r0, r1, r2, r3, f0⟩ := cells4 hrb9.out
        clear hR2 hF2 hT hs kb
        generalize hBe : w.heap.size = B at *
        have HBe := Lib.hid hBe
        clear hBe
        go_wp2
        (try simp only [Exit.inBlock, Exit.then])
        have hsx : s' = ((ab L).drop i2, s'.2) := by rw [← Hs.out]
        refine fin_term rfl rfl HR9.out HF9.out hrb9.out (Nat.le_of_eq HBe.out) (by rw [HBe.out]; omega) HT.out (fun k hk => ⟨by rw [HBe.out]; omega, by omega⟩) (by rw [← hsx]) (by omega)
  · rw [hq] at kp0
    have hil := isM_lt hq
    have hX := Lib.hid (show markedP x ((ab L).drop i, nm) = bracketP x [41] ((ab L).drop (i + 1), nm) by unfold markedP; rw [if_pos hq, tail_drop])
    clear hq
    generalize markedP x ((ab L).drop i, nm) = X at *
    unfold clV
    go_enter Tryz.func88, Tryz.ntmps88
    go_wp2_with fail
    refine kp0.mono ?_
    rintro en w1 ⟨rfl, hF, hR⟩
    have hrb1 := Lib.hid (hF.keep HR0.out (t := 25) (by decide) (by decide) _ _ _ hrb0.out)
    have C1 := Lib.hid (C0.out.fr HR0.out hF)
    have HF1 := Lib.hid (HF0.out.trans hF)
    have HR1 := Lib.hid hR
    have hz1 := hF.size
    clear hF hR kp0
    rw [Hws.out] at hz1
    have kb := bracketed_c (i := i + 1) HR1.out HW.out C1.out [41]
    rw [← hX.out, show bs [41] = ⟨#[41]⟩ from rfl] at kb
    unfold clV at kb
    go_wp2_with fail
    refine kb.mono ?_
    clear hX
    rcases X with k | ⟨t, s'⟩
    · rintro en w9 ⟨p, rfl, hb⟩
      have HB := Lib.hid ((HF1.out.below H.out).trans hb)
      clear hb kb
      unfold Wr
      go_wp2
      exact ⟨rfl, p, rfl, HB.out⟩
    · rintro en w9 ⟨a, i2, nv2, rfl, hT, hs, hi2, hR2, hF2⟩
      obtain ⟨ap, an, ac, rfl⟩ := hT.shape
      have hrb9 := Lib.hid (hF2.keep HR1.out (t := 25) (by decide) (by decide) _ _ _ hrb1.out)
      have HF9 := Lib.hid (HF1.out.trans hF2)
      have HR9 := Lib.hid hR2
      have HT := Lib.hid hT
      have Hs := Lib.hid hs
      obtain ⟨r0, r1, r2, r3, f0⟩ := cells4 hrb9.out
      clear hR2 hF2 hT hs kb
      generalize hBe : w.heap.size = B at *
      have HBe := Lib.hid hBe
      clear hBe
      go_wp2
      (try simp only [Exit.inBlock, Exit.then])
      have hsx : s' = ((ab L).drop i2, s'.2) := by rw [← Hs.out]
      refine fin_term rfl rfl HR9.out HF9.out hrb9.out (Nat.le_of_eq HBe.out) (by rw [HBe.out]; omega) HT.out (fun k hk => ⟨by rw [HBe.out]; omega, by omega⟩) (by rw [← hsx]) (by omega)
end Go.Proofs.YtcdmmcogegnieaaGreatDoor.rd
end
section
/- The program's reader: named. -/
namespace Go.Proofs.YtcdmmcogegnieaaGreatDoor.rd
open Go.RowKit
open Go.Proofs.YtcdmmcogegnieaaGreatDoor.op (bs strC Both Tb progI progP tupI lI lP)
open Go.Proofs.YtcdmmcogegnieaaGreatDoor.lx (Tok Tk tcell tcells cell_at ieq_yes ieq_no)
set_option maxRecDepth 20000

theorem ret_pair {fn : Func} {p u : Tmp} (h : fn.results = #[.cell p 25, .tmp u]) (tmps : Array Value) (w : World) {g : Nat} {a b c d : Value} (hp : tmps.getD p undef = .pointer (some ⟨g, 0, none⟩)) (hg : w.heap[g]? = some (.cells #[a, b, c, d] 25 (0, 0))) :
    (results fn tmps).run Tryz.prog w = .ok (.tuple #[.agg #[a, b, c, d], tmps.getD u undef]) w := by
  rw [results_cell_tmp h, hp]
  simp [asAddr, run_loadVar_row w g 25 25 _ _ _ hg Tryz.underlying25 rfl term_info, Result.andThen]
/-- the end of a function that gives a term and a priority -/
theorem fin_pair {fn : Func} {p u : Tmp} (hf : fn.results = #[.cell p 25, .tmp u]) {r b e i i' B : Nat} {tk nv' : Value} {L : List Tok} {nm' : List (List UInt8)} {w W : World} {tmps : Array Value} {a0 a1 a2 a3 : Value} {D : Nat → Prop}
    (hp : tmps.getD p undef = .pointer (some ⟨B, 0, none⟩)) (hR : Rd r b tk L e i' nv' nm' W) (hF : Fr r b w W) (hB : W.heap[B]? = some (.cells #[a0, a1, a2, a3] 25 (0, 0))) (hlo : w.heap.size ≤ B) (hr : r < w.heap.size)
    {t : T} {a : Value} (hT : Rp D W t a) (hD : ∀ k, D k → w.heap.size ≤ k ∧ k ≠ B) {q : Int} (hu : tmps.getD u undef = .int .i64 q) {X : Res (T × Int)} (hX : X = .ok ((t, q), ((ab L).drop i', nm'))) (hi : i ≤ i') :
    bodyPost Tryz.prog fn (PQ r b tk L e i w X) .ret { tmps := tmps, defers := [] } ((((W.setCell ⟨B, 0, none⟩ (.int .i64 (t.k : Nat))).setCell ⟨B, 1, none⟩ (.int .i64 t.n)).setCell ⟨B, 2, none⟩ (.string (bs t.s))).setCell ⟨B, 3, none⟩ a) := by
  subst hX
  refine bodyPost_ret (ret_pair hf _ _ hp (Go.Proofs.YtcdmmcogegnieaaGreatDoor.rd.set4 hB _ _ _ _)) rfl ?_
  have hn : ¬ D B := fun h => (hD B h).2 rfl
  refine ⟨a, i', nv', by rw [hu], ?_, rfl, hi, hR.set4 hB (by omega) (by decide) (by decide) _ _ _ _, ?_⟩
  · exact (((((hT.set (p := ⟨B, 0, none⟩) hn _).set (p := ⟨B, 1, none⟩) hn _).set (p := ⟨B, 2, none⟩) hn _).set (p := ⟨B, 3, none⟩) hn _)).imp fun k _ hk => (hD k hk).1
  · exact (((hF.set (p := ⟨B, 0, none⟩) (.inr hlo) _).set (p := ⟨B, 1, none⟩) (.inr hlo) _).set (p := ⟨B, 2, none⟩) (.inr hlo) _).set (p := ⟨B, 3, none⟩) (.inr hlo) _
/-- a token's cells -/
def TkC (t : Tok) : Obj := .cells #[.int .i64 (t.kind : Nat), .string (bs t.text), .int .i64 (t.frm : Nat), .int .i64 (t.to : Nat)] 51
theorem nx_eta (L : List Tok) (e i : Nat) : nx ((ab L).drop i) = ⟨(tokAt L e i).kind, (tokAt L e i).text, (nx ((ab L).drop i)).near⟩ := by
  rw [← (nx_tok L e i).1, ← (nx_tok L e i).2]
theorem named_eq (x : W) (most : Int) (L : List Tok) (e i : Nat) (nm : List (List UInt8)) (hk : (tokAt L e i).kind = 1) : namedP x most ((ab L).drop i, nm) =
    if (tokAt L e (i + 1)).kind = 4 then
      match rowP x ((ab L).drop (i + 2), nm) with
      | .error k => .error k
      | .ok (l, s2) => if isM (nx s2.1) [41] = true then .ok ((.cmp (tokAt L e i).text l, 0), (s2.1.tail, s2.2)) else .error 50
    else if (tokAt L e i).text = [45] ∧ (tokAt L e (i + 1)).kind = 3 ∧ (tokAt L e (i + 1)).frm = (tokAt L e i).to then zeroP (intP [45] ((ab L).drop (i + 1), nm))
    else if (progP (tokAt L e i).text).2.2 = true ∧ (progP (tokAt L e i).text).1 ≤ most ∧ mayB (nx ((ab L).drop (i + 1))) = true then
      match x (progP (tokAt L e i).text).2.1 ((ab L).drop (i + 1), nm) with
      | .error k => .error k
      | .ok (t, s2) => .ok ((.cmp (tokAt L e i).text [t], (progP (tokAt L e i).text).1), s2)
    else .ok ((.leaf 3 0 (tokAt L e i).text, 0), ((ab L).drop (i + 1), nm)) := by
  have h2 : (nx ((ab L).drop i)).text = (tokAt L e i).text := (nx_tok L e i).2
  have h3 : (nx ((ab L).drop (i + 1))).kind = (tokAt L e (i + 1)).kind := (nx_tok L e (i + 1)).1
  have hn : (tokAt L e (i + 1)).kind = 3 → ((nx ((ab L).drop i)).near = true ↔ (tokAt L e (i + 1)).frm = (tokAt L e i).to) := fun hk3 => by
    rw [nx_near L e i (lt_of_kind (e := e) (by omega))]
    unfold nearB
    simp [hk]
  unfold namedP expectP
  simp only [tail_drop, h2, h3]
  by_cases c1 : (tokAt L e (i + 1)).kind = 4
  · rw [if_pos c1, if_pos c1]
    rcases rowP x ((ab L).drop (i + 2), nm) with k | ⟨l, s2⟩
    · rfl
    · dsimp only
      cases isM (nx s2.1) [41] <;> rfl
  · rw [if_neg c1, if_neg c1]
    by_cases c2 : (tokAt L e i).text = [45] ∧ (tokAt L e (i + 1)).kind = 3 ∧ (tokAt L e (i + 1)).frm = (tokAt L e i).to
    · rw [if_pos c2, if_pos ⟨c2.1, c2.2.1, (hn c2.2.1).2 c2.2.2⟩]
    · rw [if_neg c2, if_neg fun h => c2 ⟨h.1, h.2.1, (hn h.2.1).1 h.2.2⟩]
      rfl

theorem minus_beq (n : List UInt8) : ((bs n).toList == [45]) = decide (n = [45]) := by
  rw [ByteArray.toList_eq]
  show (n == [45]) = _
  by_cases h : n = [45] <;> simp [h]
theorem prefix_bound (n : List UInt8) : -10000 ≤ (progP n).2.1 ∧ (progP n).2.1 ≤ 10000 := by
  by_cases h : n ∈ op.rowsP.map (·.1)
  · exact (by decide +kernel : ∀ n ∈ op.rowsP.map (·.1), -10000 ≤ (progP n).2.1 ∧ (progP n).2.1 ≤ 10000) n h
  · unfold progP; rw [op.find_not h]; decide
theorem set4_other {W : World} {g k : Nat} (h : k ≠ g) (j : Nat) (a b c d : Value) : ((((W.setCell ⟨g, 0, none⟩ a).setCell ⟨g, 1, none⟩ b).setCell ⟨g, 2, none⟩ c).setCell ⟨g, 3, none⟩ d).cell? ⟨k, j, none⟩ = W.cell? ⟨k, j, none⟩ := by
  have e : ∀ (W : World) (m : Nat) (v : Value), (W.setCell ⟨g, m, none⟩ v).heap[k]? = W.heap[k]? := fun W m v => Below.heap_setCell _ _ _ _ (by show k ≠ g; exact h)
  exact World.cell?_of_block (((e _ _ _).trans (e _ _ _)).trans ((e _ _ _).trans (e _ _ _)))
theorem tkcell_alloc {w : World} {k : Nat} {a b c d : Value} {t : TypeId} (h : w.heap[k]? = some (.cells #[a, b, c, d] t (0, 0))) (o : Obj) : (w.alloc o).cell? ⟨k, 1, none⟩ = some b := by
  rw [cell_at ((Lib.alloc_old w o k (lt_of h)).trans h)]; rfl
/-- behind the closure's call, in a region that draws -/
theorem named_a {r b e i q i6 B k z : Nat} {tk nv nv6 : Value} {L : List Tok} {nm nm6 : List (List UInt8)} {w w5 w6 : World} {t : T} {a : Value} {T0 : Tok} {a0 a1 a2 a3 : Value} {l : List K} (HR5 : Rd r b tk L e i nv nm w5) (hrb5 : w5.heap[B]? = some (.cells #[a0, a1, a2, a3] 25 (0, 0)))
    (hk5 : w5.heap[k]? = some (.cells #[.int .i64 (T0.kind : Nat), .string (bs T0.text), .int .i64 (T0.frm : Nat), .int .i64 (T0.to : Nat)] 51 (0, 0))) (HF5 : Fr r b w w5) (hz : z ≤ w5.heap.size)
    (hT : Rp (fun k => (w5.drewN q).heap.size ≤ k) w6 t a) (hs : l = (ab L).drop i6) (hR6 : Rd r b tk L e i6 nv6 nm6 w6) (hF6 : Fr r b (w5.drewN q) w6) :
    Hid (Rp (fun k => z ≤ k) w6 t a) ∧ Hid (Rd r b tk L e i6 nv6 nm6 w6) ∧ Hid (Fr r b w w6) ∧ Hid (w6.heap[B]? = some (.cells #[a0, a1, a2, a3] 25 (0, 0))) ∧
      Hid (w6.heap[k]? = some (.cells #[.int .i64 (T0.kind : Nat), .string (bs T0.text), .int .i64 (T0.frm : Nat), .int .i64 (T0.to : Nat)] 51 (0, 0))) ∧ z ≤ w6.heap.size ∧ Hid (l = (ab L).drop i6) :=
  ⟨Lib.hid (hT.imp fun k _ hk => Nat.le_trans hz hk), Lib.hid hR6, Lib.hid ((HF5.drew q).trans hF6), Lib.hid (hF6.keep (HR5.drew q) (by decide) (by decide) _ _ _ hrb5), Lib.hid (hF6.keep (HR5.drew q) (by decide) (by decide) _ _ _ hk5), Nat.le_trans hz hF6.size, Lib.hid hs⟩
/-- behind compound -/
theorem named_b {r b e i6 B k z : Nat} {tk nv6 : Value} {L : List Tok} {nm6 : List (List UInt8)} {w w6 w7 : World} {t : T} {a : Value} {T0 : Tok} {a0 a1 a2 a3 : Value} (hz : z ≤ w6.heap.size) (HT : Rp (fun k => z ≤ k) w6 t a) (HR6 : Rd r b tk L e i6 nv6 nm6 w6) (HF6 : Fr r b w w6) (hrb6 : w6.heap[B]? = some (.cells #[a0, a1, a2, a3] 25 (0, 0)))
    (hk6 : w6.heap[k]? = some (.cells #[.int .i64 (T0.kind : Nat), .string (bs T0.text), .int .i64 (T0.frm : Nat), .int .i64 (T0.to : Nat)] 51 (0, 0)))
    (hb : Below (w6.alloc (.cells (tv t a).toArray 25)).heap.size (w6.alloc (.cells (tv t a).toArray 25)) w7) :
    Hid (Rp (fun k => z ≤ k) w7 (.cmp T0.text [t]) (.slice (some ⟨w6.heap.size, 0, none⟩) 1 1)) ∧ Hid (Rd r b tk L e i6 nv6 nm6 w7) ∧ Hid (Fr r b w w7) ∧ Hid (w7.heap[B]? = some (.cells #[a0, a1, a2, a3] 25 (0, 0))) ∧ w7.cell? ⟨k, 1, none⟩ = some (.string (bs T0.text)) := by
  have hal : ∀ k, k < w6.heap.size → w7.heap[k]? = w6.heap[k]? := fun k hk => (hb.block k (by rw [size_alloc]; omega)).trans (Lib.alloc_old w6 _ k hk)
  refine ⟨Lib.hid (((Rw.one (D := fun k => z ≤ k) HT hz).kept (Kt.below hb)).cmp T0.text), Lib.hid ((HR6.alloc _).stay hb), Lib.hid ((HF6.alloc _).trans (Fr.of_below hb)), Lib.hid ((hal B (lt_of hrb6)).trans hrb6), ?_⟩
  rw [cell_at ((hal k (lt_of hk6)).trans hk6)]; rfl
set_option maxHeartbeats 4000000 in
theorem named_c {r b e i cb cd d : Nat} {tk nv : Value} {L : List Tok} {nm : List (List UInt8)} {w : World} {x : W} (h : Rd r b tk L e i nv nm w) (hw : WOk r b cb cd d tk L e x) (hC : Cl r cb d cd w) (hk : (tokAt L e i).kind = 1) (most : Int) (_hm1 : -10000 ≤ most) (_hm2 : most ≤ 10000) :
    Calls Tryz.prog 84 #[.pointer (some ⟨r, 0, none⟩), .int .i64 most, clV cb cd] w (PQ r b tk L e i w (namedP x most ((ab L).drop i, nm))) := by
  have H := Lib.hid h
  have HW := Lib.hid hw
  have hil : i < L.length := lt_of_kind (e := e) (by omega)
  have hll := h.good.len
  have hrb0 := Lib.hid (heap_alloc_new w (.cells #[.int .i64 0, .int .i64 0, .string ⟨#[]⟩, .slice none 0 0] 25))
  have h0 := h.alloc (.cells #[.int .i64 0, .int .i64 0, .string ⟨#[]⟩, .slice none 0 0] 25)
  have C0 := Lib.hid (hC.stay ((Below.refl _ _).alloc (Nat.le_refl _) (.cells #[.int .i64 0, .int .i64 0, .string ⟨#[]⟩, .slice none 0 0] 25)))
  have HF0 := Lib.hid (Fr.of_below (r := r) (b := b) ((Below.refl w.heap.size w).alloc (Nat.le_refl _) (.cells #[.int .i64 0, .int .i64 0, .string ⟨#[]⟩, .slice none 0 0] 25)))
  have hlt := h.lt
  have hws := Lib.hid (size_alloc w (.cells #[.int .i64 0, .int .i64 0, .string ⟨#[]⟩, .slice none 0 0] 25))
  have HR0 := Lib.hid h0
  have HE := Lib.hid (named_eq x most L e i nm hk)
  have Hk := Lib.hid hk
  clear h hw hC h0 hk
  generalize namedP x most ((ab L).drop i, nm) = X at *
  unfold clV
  go_enter Tryz.func84, Tryz.ntmps84
  go_wp2_with fail
  refine (next_c HR0.out).mono ?_
  rintro en w1 ⟨rfl, hb⟩
  have HR1 := Lib.hid ((HR0.out.stay hb).alloc (.cells #[.int .i64 ((tokAt L e i).kind : Nat), .string (bs (tokAt L e i).text), .int .i64 ((tokAt L e i).frm : Nat), .int .i64 ((tokAt L e i).to : Nat)] 51))
  have hrb1 := Lib.hid (((Lib.alloc_old w1 (.cells #[.int .i64 ((tokAt L e i).kind : Nat), .string (bs (tokAt L e i).text), .int .i64 ((tokAt L e i).frm : Nat), .int .i64 ((tokAt L e i).to : Nat)] 51) w.heap.size (by have := hb.size; rw [hws.out] at this; omega)).trans (hb.block w.heap.size (by rw [hws.out]; omega))).trans hrb0.out)
  have HF1 := Lib.hid ((HF0.out.trans (Fr.of_below hb)).alloc (.cells #[.int .i64 ((tokAt L e i).kind : Nat), .string (bs (tokAt L e i).text), .int .i64 ((tokAt L e i).frm : Nat), .int .i64 ((tokAt L e i).to : Nat)] 51))
  have C1 := Lib.hid ((C0.out.stay hb).stay ((Below.refl _ _).alloc (Nat.le_refl _) (.cells #[.int .i64 ((tokAt L e i).kind : Nat), .string (bs (tokAt L e i).text), .int .i64 ((tokAt L e i).frm : Nat), .int .i64 ((tokAt L e i).to : Nat)] 51)))
  have hk1 := Lib.hid (heap_alloc_new w1 (.cells #[.int .i64 ((tokAt L e i).kind : Nat), .string (bs (tokAt L e i).text), .int .i64 ((tokAt L e i).frm : Nat), .int .i64 ((tokAt L e i).to : Nat)] 51))
  have hz1 : w.heap.size + 1 ≤ w1.heap.size := by have := hb.size; rw [hws.out] at this; exact this
  have c2 : (w1.alloc (.cells #[.int .i64 ((tokAt L e i).kind : Nat), .string (bs (tokAt L e i).text), .int .i64 ((tokAt L e i).frm : Nat), .int .i64 ((tokAt L e i).to : Nat)] 51)).cell? ⟨r, 2, none⟩ = some (.int .i64 (i : Nat)) := by rw [HR1.out.cell]; rfl
  have f2 := HR1.out.free 2
  have i1 : IntKind.i64.wrap ((i : Int) + 1) = ((i + 1 : Nat) : Int) := by rw [IntWalk.i64_in _ (by omega)]; omega
  clear hb hrb0 HF0 HR0
  unfold tokV
  go_wp2_with fail
  have HR2 := Lib.hid (HR1.out.step hil)
  have hrb2 := Lib.hid ((Below.heap_setCell (w1.alloc (.cells #[.int .i64 ((tokAt L e i).kind : Nat), .string (bs (tokAt L e i).text), .int .i64 ((tokAt L e i).frm : Nat), .int .i64 ((tokAt L e i).to : Nat)] 51)) ⟨r, 2, none⟩ (.int .i64 ((i : Int) + 1)) w.heap.size (by show w.heap.size ≠ r; omega)).trans hrb1.out)
  have hk2 := Lib.hid ((Below.heap_setCell (w1.alloc (.cells #[.int .i64 ((tokAt L e i).kind : Nat), .string (bs (tokAt L e i).text), .int .i64 ((tokAt L e i).frm : Nat), .int .i64 ((tokAt L e i).to : Nat)] 51)) ⟨r, 2, none⟩ (.int .i64 ((i : Int) + 1)) w1.heap.size (by show w1.heap.size ≠ r; omega)).trans hk1.out)
  have HF2 := Lib.hid (HF1.out.set (p := ⟨r, 2, none⟩) (.inl rfl) (.int .i64 ((i : Int) + 1)))
  have hkp : ∀ t, t ≠ 70 → Kt t (w1.alloc (.cells #[.int .i64 ((tokAt L e i).kind : Nat), .string (bs (tokAt L e i).text), .int .i64 ((tokAt L e i).frm : Nat), .int .i64 ((tokAt L e i).to : Nat)] 51)) ((w1.alloc (.cells #[.int .i64 ((tokAt L e i).kind : Nat), .string (bs (tokAt L e i).text), .int .i64 ((tokAt L e i).frm : Nat), .int .i64 ((tokAt L e i).to : Nat)] 51)).setCell ⟨r, 2, none⟩ (.int .i64 ((i : Int) + 1))) := fun t ht => kt_set HR1.out.blk ht
  have C2 := Lib.hid (C1.out.kept (hkp _ (by decide)) (hkp _ (by decide)))
  have hz2 : ((w1.alloc (.cells #[.int .i64 ((tokAt L e i).kind : Nat), .string (bs (tokAt L e i).text), .int .i64 ((tokAt L e i).frm : Nat), .int .i64 ((tokAt L e i).to : Nat)] 51)).setCell ⟨r, 2, none⟩ (.int .i64 ((i : Int) + 1))).heap.size = w1.heap.size + 1 := by simp [World.setCell]
  have Hz2 := Lib.hid hz2
  clear hz2 hkp
  generalize World.setCell (World.alloc w1 _) ⟨r, 2, none⟩ _ = W2 at *
  refine (next_c HR2.out).mono ?_
  rintro en w3 ⟨rfl, hb⟩
  have hz3 : w1.heap.size + 1 ≤ w3.heap.size := by have := hb.size; rw [Hz2.out] at this; exact this
  have HR3 := Lib.hid ((HR2.out.stay hb).alloc (.cells #[.int .i64 ((tokAt L e (i + 1)).kind : Nat), .string (bs (tokAt L e (i + 1)).text), .int .i64 ((tokAt L e (i + 1)).frm : Nat), .int .i64 ((tokAt L e (i + 1)).to : Nat)] 51))
  have hrb3 := Lib.hid (((Lib.alloc_old w3 (.cells #[.int .i64 ((tokAt L e (i + 1)).kind : Nat), .string (bs (tokAt L e (i + 1)).text), .int .i64 ((tokAt L e (i + 1)).frm : Nat), .int .i64 ((tokAt L e (i + 1)).to : Nat)] 51) w.heap.size (by omega)).trans (hb.block w.heap.size (by rw [Hz2.out]; omega))).trans hrb2.out)
  have hk3 := Lib.hid (((Lib.alloc_old w3 (.cells #[.int .i64 ((tokAt L e (i + 1)).kind : Nat), .string (bs (tokAt L e (i + 1)).text), .int .i64 ((tokAt L e (i + 1)).frm : Nat), .int .i64 ((tokAt L e (i + 1)).to : Nat)] 51) w1.heap.size (by omega)).trans (hb.block w1.heap.size (by rw [Hz2.out]; omega))).trans hk2.out)
  have hb3 := Lib.hid (heap_alloc_new w3 (.cells #[.int .i64 ((tokAt L e (i + 1)).kind : Nat), .string (bs (tokAt L e (i + 1)).text), .int .i64 ((tokAt L e (i + 1)).frm : Nat), .int .i64 ((tokAt L e (i + 1)).to : Nat)] 51))
  have HF3 := Lib.hid ((HF2.out.trans (Fr.of_below hb)).alloc (.cells #[.int .i64 ((tokAt L e (i + 1)).kind : Nat), .string (bs (tokAt L e (i + 1)).text), .int .i64 ((tokAt L e (i + 1)).frm : Nat), .int .i64 ((tokAt L e (i + 1)).to : Nat)] 51))
  have C3 := Lib.hid ((C2.out.stay hb).stay ((Below.refl _ _).alloc (Nat.le_refl _) (.cells #[.int .i64 ((tokAt L e (i + 1)).kind : Nat), .string (bs (tokAt L e (i + 1)).text), .int .i64 ((tokAt L e (i + 1)).frm : Nat), .int .i64 ((tokAt L e (i + 1)).to : Nat)] 51)))
  clear hb hrb2 HF2 hk2 C2 HR2 hrb1 hk1 HF1 C1 HR1 c2 f2
  unfold tokV
  obtain ⟨k0, k1, k2, k3, _⟩ := cells4 hk3.out
  obtain ⟨v0, v1, v2, v3, _⟩ := cells4 hb3.out
  have hz4 := Lib.hid (size_alloc w3 (.cells #[.int .i64 ((tokAt L e (i + 1)).kind : Nat), .string (bs (tokAt L e (i + 1)).text), .int .i64 ((tokAt L e (i + 1)).frm : Nat), .int .i64 ((tokAt L e (i + 1)).to : Nat)] 51))
  have hb0 := HR3.out.cell 2
  have c2 : (w3.alloc (.cells #[.int .i64 ((tokAt L e (i + 1)).kind : Nat), .string (bs (tokAt L e (i + 1)).text), .int .i64 ((tokAt L e (i + 1)).frm : Nat), .int .i64 ((tokAt L e (i + 1)).to : Nat)] 51)).cell? ⟨r, 2, none⟩ = some (.int .i64 ((i + 1 : Nat) : Int)) := by rw [hb0]; rfl
  have f2 := HR3.out.free 2
  have i2 : IntKind.i64.wrap ((i : Int) + 1 + 1) = (i : Int) + 1 + 1 := by rw [IntWalk.i64_in _ (by omega)]
  have hnr : ¬ w.heap.size = r := by omega
  have hn1 : ¬ w1.heap.size = r := by omega
  have hn3 : ¬ w3.heap.size = r := by omega
  clear hb0
  generalize hW3 : World.alloc w3 _ = W3 at *
  clear i1
  generalize hT0 : tokAt L e i = T0 at *
  generalize hT1 : tokAt L e (i + 1) = T1 at *
  have HT1 := Lib.hid hT1
  clear hT0 hT1
  by_cases hb4 : T1.kind = 4
  · obtain ⟨x1, x2⟩ := ieq_yes (a := T1.kind) 4 (by omega)
    have hil1 : i + 1 < L.length := lt_of_kind (e := e) (by rw [HT1.out]; omega)
    have hE := Lib.hid (HE.out.trans (if_pos hb4))
    clear HE hb4
    have HR4 : Rd r b tk L e (i + 2) nv nm (W3.setCell ⟨r, 2, none⟩ (.int .i64 ((i : Int) + 1 + 1))) := HR3.out.step hil1
    have hset : ∀ k, k ≠ r → (W3.setCell ⟨r, 2, none⟩ (.int .i64 ((i : Int) + 1 + 1))).heap[k]? = W3.heap[k]? := fun k hk => Below.heap_setCell _ _ _ _ hk
    have hrb4 := Lib.hid ((hset w.heap.size hnr).trans hrb3.out)
    have hk4 := Lib.hid ((hset w1.heap.size hn1).trans hk3.out)
    have C4 := C3.out.kept (kt_set (v := .int .i64 ((i : Int) + 1 + 1)) (p := ⟨r, 2, none⟩) HR3.out.blk (by decide)) (kt_set (v := .int .i64 ((i : Int) + 1 + 1)) (p := ⟨r, 2, none⟩) HR3.out.blk (by decide))
    have HF4 := Lib.hid (HF3.out.set (p := ⟨r, 2, none⟩) (.inl rfl) (.int .i64 ((i : Int) + 1 + 1)))
    have hz5 : (W3.setCell ⟨r, 2, none⟩ (.int .i64 ((i : Int) + 1 + 1))).heap.size = w3.heap.size + 1 := by rw [← hz4.out]; simp [World.setCell]
    have Hz5 := Lib.hid hz5
    have kr := row_c (i := i + 2) HR4 HW.out C4
    unfold clV at kr
    have HR4' := Lib.hid HR4
    clear HR4 hset C4 hz5
    go_wp2_with fail
    generalize World.setCell W3 ⟨r, 2, none⟩ _ = W4 at *
    clear c2 f2 k0 k1 k2 k3 v0 v1 v2 v3 hb3 hk3 hrb3 HR3 HF3 C3
    rcases hx : rowP x ((ab L).drop (i + 2), nm) with k | ⟨l, s2⟩
    · rw [hx] at kr
      have hX := Lib.hid (show X = .error k from hE.out.trans (by rw [hx]))
      clear hE hx
      refine kr.mono ?_
      rintro en w9 ⟨p, rfl, hb⟩
      have HB := Lib.hid ((HF4.out.below H.out).trans hb)
      clear hb kr
      unfold Wr
      go_wp2
      exact ⟨rfl, by rw [hX.out]; exact ⟨p, rfl, HB.out⟩⟩
    · rw [hx] at kr
      have hX := Lib.hid (show X = (if isM (nx s2.1) [41] = true then .ok ((.cmp T0.text l, 0), (s2.1.tail, s2.2)) else .error 50) from hE.out.trans (by rw [hx]))
      clear hE hx
      refine kr.mono ?_
      rintro en w5 ⟨g, cap, i5, nv5, rfl, hRw, hs, hi5, hR5, hF5, _, hl0⟩
      have hrb5 := Lib.hid (hF5.keep HR4'.out (t := 25) (by decide) (by decide) _ _ _ hrb4.out)
      have hk5 := Lib.hid (hF5.keep HR4'.out (t := 51) (by decide) (by decide) _ _ _ hk4.out)
      have HF5 := Lib.hid (HF4.out.trans hF5)
      have hz6 := hF5.size
      rw [Hz5.out] at hz6
      have HRw := Lib.hid (hRw.imp (D' := fun k => w3.heap.size + 1 ≤ k) fun k _ hk => by rw [Hz5.out] at hk; exact hk)
      have HR5 := Lib.hid hR5
      have ke := expect_c hR5 [41]
      rw [show bs [41] = ⟨#[41]⟩ from rfl, ← hs] at ke
      have Hs := Lib.hid hs
      clear hRw hR5 hF5 hs kr
      go_wp2_with fail
      refine ke.mono ?_
      rintro en w6 (⟨hm, rfl, hR6, hF6⟩ | ⟨hm, p, rfl, hb⟩)
      · have hX3 := Lib.hid (hX.out.trans (if_pos hm))
        have hrb6 := Lib.hid (hF6.keep HR5.out (t := 25) (by decide) (by decide) _ _ _ hrb5.out)
        have hk6 := hF6.keep HR5.out (t := 51) (by decide) (by decide) _ _ _ hk5.out
        obtain ⟨_, q1, _, _, _⟩ := cells4 hk6
        have HRw6 := Lib.hid (HRw.out.kept (hF6.keep HR5.out (by decide) (by decide)))
        have HF6 := Lib.hid (HF5.out.trans hF6)
        have HR6 := Lib.hid hR6
        clear hF6 hR6 hm hX ke hk6
        go_wp2_with fail
        refine (compound_c _ _ _ _ _).mono ?_
        rintro en w7 ⟨rfl, hb⟩
        have hrb7 := Lib.hid ((hb.block w.heap.size (lt_of hrb6.out)).trans hrb6.out)
        have HF7 := Lib.hid (HF6.out.trans (Fr.of_below hb))
        have HR7 := Lib.hid (HR6.out.stay hb)
        have HT := Lib.hid ((HRw6.out.kept (Kt.below hb)).cmp T0.text)
        obtain ⟨r0, r1, r2, r3, f0⟩ := cells4 hrb7.out
        clear hb HRw6
        generalize hBe : w.heap.size = B at *
        have HBe := Lib.hid hBe
        clear hBe
        go_wp2
        (try simp only [Exit.inBlock, Exit.then])
        refine fin_pair (t := .cmp T0.text l) rfl rfl HR7.out HF7.out hrb7.out (Nat.le_of_eq HBe.out) (by rw [HBe.out]; omega) HT.out (fun k hk => ⟨by rw [HBe.out]; omega, by omega⟩) rfl (by rw [hX3.out, Hs.out, tail_drop]) (by omega)
      · have hX3 := Lib.hid (hX.out.trans (if_neg (by rw [hm]; decide)))
        have HB := Lib.hid ((HF5.out.below H.out).trans hb)
        clear hb hm ke hX
        unfold Wr
        go_wp2
        exact ⟨rfl, by rw [hX3.out]; exact ⟨p, rfl, HB.out⟩⟩
  · obtain ⟨x1, x2⟩ := ieq_no (a := T1.kind) 4 (by omega)
    have hE := Lib.hid (HE.out.trans (if_neg hb4))
    clear HE hb4
    have e0 := minus_beq T0.text
    by_cases c2' : T0.text = [45] ∧ T1.kind = 3 ∧ T1.frm = T0.to
    · have y1 : ((bs T0.text).toList == [45]) = true := by rw [e0]; simpa using c2'.1
      obtain ⟨y2, _⟩ := ieq_yes (a := T1.kind) 3 (by omega)
      have y3 : ((T1.frm : Int) == (T0.to : Int)) = true := by simp [c2'.2.2]
      have hX := Lib.hid (hE.out.trans (if_pos c2'))
      have ki := integer_c (i := i + 1) HR3.out [45] (by decide) (by rw [HT1.out]; exact c2'.2.1)
      rw [show bs [45] = ⟨#[45]⟩ from rfl] at ki
      clear hE e0 c2'
      go_wp2_with fail
      refine ki.mono ?_
      clear ki
      generalize intP [45] ((ab L).drop (i + 1), nm) = Y at *
      rcases Y with k | ⟨t, s'⟩
      · rintro en w9 ⟨p, rfl, hb⟩
        have HB := Lib.hid ((HF3.out.below H.out).trans hb)
        clear hb
        unfold Wr
        go_wp2
        exact ⟨rfl, by rw [hX.out]; exact ⟨p, rfl, HB.out⟩⟩
      · rintro en w9 ⟨a, i9, nv9, rfl, hT, hs, hi9, hR9, hF9⟩
        obtain ⟨ap, an, ac, rfl⟩ := hT.shape
        have hrb9 := Lib.hid (hF9.keep HR3.out (t := 25) (by decide) (by decide) _ _ _ hrb3.out)
        have HF9 := Lib.hid (HF3.out.trans hF9)
        have HR9 := Lib.hid hR9
        have HT := Lib.hid (hT.imp (D' := fun k => w3.heap.size + 1 ≤ k) fun k _ hk => by rw [← hz4.out]; exact hk)
        have Hs := Lib.hid hs
        obtain ⟨r0, r1, r2, r3, f0⟩ := cells4 hrb9.out
        clear hR9 hF9 hT hs
        generalize hBe : w.heap.size = B at *
        have HBe := Lib.hid hBe
        clear hBe
        go_wp2
        (try simp only [Exit.inBlock, Exit.then])
        have hsx : s' = ((ab L).drop i9, s'.2) := by rw [← Hs.out]
        refine fin_pair rfl rfl HR9.out HF9.out hrb9.out (Nat.le_of_eq HBe.out) (by rw [HBe.out]; omega) HT.out (fun k hk => ⟨by rw [HBe.out]; omega, by omega⟩) rfl (by rw [hX.out, zeroP, ← hsx]) (by omega)
    · have hE2 := Lib.hid (hE.out.trans (if_neg c2'))
      have hc : (((bs T0.text).toList == [45]) = false) ∨ (((bs T0.text).toList == [45]) = true ∧ ((T1.kind : Int) == 3) = false) ∨ (((bs T0.text).toList == [45]) = true ∧ ((T1.kind : Int) == 3) = true ∧ ((T1.frm : Int) == (T0.to : Int)) = false) := by
        rw [e0]
        by_cases a1 : T0.text = [45]
        · by_cases a2 : T1.kind = 3
          · by_cases a3 : T1.frm = T0.to
            · exact absurd ⟨a1, a2, a3⟩ c2'
            · right; right; exact ⟨by simpa using a1, (ieq_yes 3 (by omega)).1, by rw [beq_eq_false_iff_ne]; omega⟩
          · right; left; exact ⟨by simpa using a1, (ieq_no 3 (by omega)).1⟩
        · left; simpa using a1
      clear hE e0 c2'
      have hpb := prefix_bound T0.text
      have hnx := nx_eta L e (i + 1)
      rw [HT1.out] at hnx
      generalize hnr2 : (nx ((ab L).drop (i + 1))).near = nr at *
      have km := fun w h => mayBegin_c T1 nr w h
      rw [← hnx] at km
      generalize hmb : mayB (nx ((ab L).drop (i + 1))) = mb at *
      obtain ⟨p, m, ok, hP⟩ : ∃ p m ok, progP T0.text = (p, m, ok) := ⟨_, _, _, rfl⟩
      have kp := fun w h => lP (bs T0.text) w h (p := p) (l := m) (b := ok) hP
      rw [hP] at hpb
      have hE3 := Lib.hid (hE2.out.trans (show _ = (if ok = true ∧ p ≤ most ∧ mb = true then
          match x m ((ab L).drop (i + 1), nm) with
          | .error k => .error k
          | .ok (t, s2) => .ok ((.cmp T0.text [t], p), s2)
        else .ok ((.leaf 3 0 T0.text, 0), ((ab L).drop (i + 1), nm))) by rw [hP]))
      have kmm := Lib.hid km
      have kpp := Lib.hid kp
      clear km kp hE2 hP hnx hmb hnr2
      have hmb2 := hpb.1
      have hmb3 := hpb.2
      clear hpb
      rcases hc with y1 | ⟨y1, y2⟩ | ⟨y1, y2, y3⟩
      all_goals
        go_wp2_with fail
        refine (kpp.out _ HR3.out.tb.2).mono ?_
        rintro en w4 ⟨rfl, hb⟩
        have HR4 := Lib.hid (HR3.out.stay hb)
        have hrb4 := Lib.hid ((hb.block w.heap.size (lt_of hrb3.out)).trans hrb3.out)
        have hk4 := Lib.hid ((hb.block w1.heap.size (lt_of hk3.out)).trans hk3.out)
        have hb4 := Lib.hid ((hb.block w3.heap.size (lt_of hb3.out)).trans hb3.out)
        have HF4 := Lib.hid (HF3.out.trans (Fr.of_below hb))
        have C4 := Lib.hid (C3.out.stay hb)
        have hz5 := hb.size
        rw [hz4.out] at hz5
        obtain ⟨k0, k1, k2, k3, _⟩ := cells4 hk4.out
        obtain ⟨v0, v1, v2, v3, _⟩ := cells4 hb4.out
        clear hb kpp hb3 hk3 hrb3 HF3 C3
        by_cases hgo : ok = true ∧ p ≤ most ∧ mb = true
        · have hX := Lib.hid (hE3.out.trans (if_pos hgo))
          obtain ⟨rfl, hpm, rfl⟩ := hgo
          clear hE3
          go_wp2_with fail
          refine (kmm.out _ HR4.out.tb).mono ?_
          rintro en w5 ⟨rfl, hb⟩
          have HR5 := Lib.hid (HR4.out.stay hb)
          have hrb5 := Lib.hid ((hb.block w.heap.size (lt_of hrb4.out)).trans hrb4.out)
          have hk5 := Lib.hid ((hb.block w1.heap.size (lt_of hk4.out)).trans hk4.out)
          have HF5 := Lib.hid (HF4.out.trans (Fr.of_below hb))
          have C5 := Lib.hid (C4.out.stay hb)
          have hz6 := hb.size
          obtain ⟨k0, k1, k2, k3, _⟩ := cells4 hk5.out
          clear hb kmm
          go_wp2_with fail
          have kx : ∀ q, Calls Tryz.prog 66 #[.int .i64 m, .pointer (some ⟨cb, 0, none⟩), .pointer (some ⟨cd, 0, none⟩)] (w5.drewN q) (TQ r b tk L e (i + 1) (w5.drewN q) (x m ((ab L).drop (i + 1), nm))) := fun q =>
            HW.out m (i + 1) nv nm (w5.drewN q) hmb2 hmb3 (C5.out.stay (below_drawn _ _ _)) (HR5.out.drew q)
          have hz7 : w3.heap.size + 1 ≤ w5.heap.size := Nat.le_trans hz5 hz6
          rcases hx : x m ((ab L).drop (i + 1), nm) with k | ⟨t, s2⟩
          · rw [hx] at kx
            have hX2 := Lib.hid (show X = .error k from hX.out.trans (by rw [hx]))
            clear hX hx
            have hbw := Lib.hid (HF5.out.below H.out)
            have k1d : w5.drew.cell? ⟨w1.heap.size, 1, none⟩ = some (.string (bs T0.text)) := k1
            refine wp_region_held_drew (S := fun w' => w'.cell? ⟨w1.heap.size, 1, none⟩ = some (.string (bs T0.text))) (by kernel_rfl) k1d (fun hHeld => ?_)
            refine wpAnyH_take (i := 0) (v := ?_) rfl (by kernel_rfl) (by kernel_rfl) (by kernel_rfl) (fun _ _ _ h => h) (Or.inl ⟨by rfl, ?_⟩) hHeld ?_
            rotate_left
            · intro w hSw; (try dsimp only at hSw); go_simp
              all_goals with_reducible rfl
            simp only [Act.put, List.setIfInBounds_toArray]
            refine wpAnyH_take (i := 1) (v := ?_) rfl (by kernel_rfl) (by kernel_rfl) (by kernel_rfl) (fun _ _ _ h => h) (Or.inl ⟨by rfl, ?_⟩) hHeld ?_
            rotate_left
            · intro w hSw; (try dsimp only at hSw); go_simp
              all_goals with_reducible rfl
            simp only [Act.put]
            refine wpAnyH_take (i := 2) (v := ?_) rfl (by kernel_rfl) (by kernel_rfl) (by kernel_rfl) (fun _ _ _ h => h) (Or.inl ⟨by rfl, ?_⟩) hHeld ?_
            rotate_left
            · intro w hSw; (try dsimp only at hSw); go_simp
              all_goals with_reducible rfl
            simp only [Act.put]
            refine wpAnyH_take (i := 3) (v := ?_) rfl (by kernel_rfl) (by kernel_rfl) (by kernel_rfl) (fun _ _ _ h => h) (Or.inl ⟨by rfl, ?_⟩) hHeld ?_
            rotate_left
            · intro w hSw; (try dsimp only at hSw); go_simp
              all_goals with_reducible rfl
            simp only [Act.put]
            refine wpAnyH_take (i := 7) (v := ?_) rfl (by kernel_rfl) (by kernel_rfl) (by kernel_rfl) (fun _ _ _ h => h) (Or.inl ⟨by rfl, ?_⟩) hHeld ?_
            rotate_left
            · intro w hSw; (try dsimp only at hSw); go_simp
              all_goals with_reducible rfl
            simp only [Act.put]
            refine wpAnyH_ready (rs := [4]) (by kernel_rfl) (by simp) ?_
            refine AllReadyH.cons rfl (fun K hK => ?_) AllReadyH.nil
            go_simp
            refine (kx 1).mono ?_
            rintro en w6 ⟨p6, rfl, hb⟩
            exact ⟨rfl, by rw [hX2.out]; exact ⟨p6, rfl, hbw.out.trans ((below_drawn _ _ 1).trans hb)⟩⟩
          · rw [hx] at kx
            have hX2 := Lib.hid (show X = .ok ((.cmp T0.text [t], p), s2) from hX.out.trans (by rw [hx]))
            clear hX hx
            have k1d : w5.drew.cell? ⟨w1.heap.size, 1, none⟩ = some (.string (bs T0.text)) := k1
            go_region_held3 (fun w' => w'.cell? ⟨w1.heap.size, 1, none⟩ = some (.string (bs T0.text)))
              (first | with_reducible exact k1d | with_reducible exact q1 | with_reducible exact q2 | with_reducible exact tkcell_alloc hk6.out _ | with_reducible exact (set4_other (by omega) _ _ _ _ _).trans q2)
              (first
                | (go_at_call 66; (refine (kx _).mono ?_); rintro en w6 ⟨a, i6, nv6, rfl, hT, hs, hi6, hR6, hF6⟩; obtain ⟨ap, an, ac, rfl⟩ := hT.shape; have q1 : w6.cell? ⟨w1.heap.size, 1, none⟩ = some (.string (bs T0.text)) := (by rw [cell_at (hF6.keep (HR5.out.drew _) (t := 51) (by decide) (by decide) _ _ _ hk5.out)]; rfl); obtain ⟨HT, HR6, HF6, hrb6, hk6, hz8, Hs⟩ := named_a HR5.out hrb5.out hk5.out HF5.out hz7 hT hs hR6 hF6; clear hT hs hR6 hF6)
                | (go_at_call 69; (refine (compound_c _ _ _ _ _).mono ?_); rintro en w7 ⟨rfl, hb⟩; obtain ⟨HTc, HR7, HF7, hrb7, q2⟩ := named_b (by omega) HT.out HR6.out HF6.out hrb6.out hk6.out hb; obtain ⟨r0, r1, r2, r3, f0⟩ := cells4 hrb7.out; clear hb))
            clear kx
            generalize hBe : w.heap.size = B at *
            have HBe := Lib.hid hBe
            clear hBe
            go_wp2
            (try simp only [Exit.inBlock, Exit.then])
            have hsx : s2 = ((ab L).drop i6, s2.2) := by rw [← Hs.out]
            refine fin_pair (t := .cmp T0.text [t]) rfl rfl HR7.out HF7.out hrb7.out (Nat.le_of_eq HBe.out) (by rw [HBe.out]; omega) HTc.out (fun k hk => ⟨by rw [HBe.out]; omega, by omega⟩) rfl (by rw [hX2.out, ← hsx]) (by omega)
        · have hX := Lib.hid (hE3.out.trans (if_neg hgo))
          clear hE3
          cases ok
          · clear hgo
            go_wp2_with fail
            refine (atom_c _ _).mono ?_
            rintro en w9 ⟨rfl, hb⟩
            have hrb9 := Lib.hid ((hb.block w.heap.size (lt_of hrb4.out)).trans hrb4.out)
            have HF9 := Lib.hid (HF4.out.trans (Fr.of_below hb))
            have HR9 := Lib.hid (HR4.out.stay hb)
            obtain ⟨r0, r1, r2, r3, f0⟩ := cells4 hrb9.out
            clear hb
            generalize hBe : w.heap.size = B at *
            have HBe := Lib.hid hBe
            clear hBe
            go_wp2
            (try simp only [Exit.inBlock, Exit.then])
            refine fin_pair (D := fun _ => False) (t := .leaf 3 0 T0.text) rfl rfl HR9.out HF9.out hrb9.out (Nat.le_of_eq HBe.out) (by rw [HBe.out]; omega) (by rw [Rp]) (fun _ h => h.elim) rfl hX.out (by omega)
          · by_cases hpm : p ≤ most
            · obtain rfl : mb = false := by cases mb; rfl; exact absurd ⟨rfl, hpm, rfl⟩ hgo
              clear hgo
              go_wp2_with fail
              refine (kmm.out _ HR4.out.tb).mono ?_
              rintro en w5 ⟨rfl, hb⟩
              have HR5 := Lib.hid (HR4.out.stay hb)
              have hrb5 := Lib.hid ((hb.block w.heap.size (lt_of hrb4.out)).trans hrb4.out)
              have hk5 := Lib.hid ((hb.block w1.heap.size (lt_of hk4.out)).trans hk4.out)
              have HF5 := Lib.hid (HF4.out.trans (Fr.of_below hb))
              have C5 := Lib.hid (C4.out.stay hb)
              have hz6 := hb.size
              obtain ⟨k0, k1, k2, k3, _⟩ := cells4 hk5.out
              clear hb kmm
              go_wp2_with fail
              refine (atom_c _ _).mono ?_
              rintro en w9 ⟨rfl, hb⟩
              have hrb9 := Lib.hid ((hb.block w.heap.size (lt_of hrb5.out)).trans hrb5.out)
              have HF9 := Lib.hid (HF5.out.trans (Fr.of_below hb))
              have HR9 := Lib.hid (HR5.out.stay hb)
              obtain ⟨r0, r1, r2, r3, f0⟩ := cells4 hrb9.out
              clear hb
              generalize hBe : w.heap.size = B at *
              have HBe := Lib.hid hBe
              clear hBe
              go_wp2
              (try simp only [Exit.inBlock, Exit.then])
              refine fin_pair (D := fun _ => False) (t := .leaf 3 0 T0.text) rfl rfl HR9.out HF9.out hrb9.out (Nat.le_of_eq HBe.out) (by rw [HBe.out]; omega) (by rw [Rp]) (fun _ h => h.elim) rfl hX.out (by omega)
            · clear hgo
              go_wp2_with fail
              refine (atom_c _ _).mono ?_
              rintro en w9 ⟨rfl, hb⟩
              have hrb9 := Lib.hid ((hb.block w.heap.size (lt_of hrb4.out)).trans hrb4.out)
              have HF9 := Lib.hid (HF4.out.trans (Fr.of_below hb))
              have HR9 := Lib.hid (HR4.out.stay hb)
              obtain ⟨r0, r1, r2, r3, f0⟩ := cells4 hrb9.out
              clear hb
              generalize hBe : w.heap.size = B at *
              have HBe := Lib.hid hBe
              clear hBe
              go_wp2
              (try simp only [Exit.inBlock, Exit.then])
              refine fin_pair (D := fun _ => False) (t := .leaf 3 0 T0.text) rfl rfl HR9.out HF9.out hrb9.out (Nat.le_of_eq HBe.out) (by rw [HBe.out]; omega) (by rw [Rp]) (fun _ h => h.elim) rfl hX.out (by omega)
end Go.Proofs.YtcdmmcogegnieaaGreatDoor.rd
end
