/- The reference's reader: named. -/
import Derived.Test.YtjccohcigopdfaaQ5
import Derived.Test.YtjccohcigopdfaaQ7
import Derived.Deep.RegionHeld3
set_option linter.unusedVariables false
set_option linter.unusedSimpArgs false
section
/- The reference's reader: named. -/
namespace Go.Proofs.Ytjccohcigopdfaa.rr
open Go.RowKit
open Go.Proofs.Ytjccohcigopdfaa.rd
open Go.Proofs.Ytjccohcigopdfaa.op (bs strC Both Tb progI progP rI rP)
open Go.Proofs.Ytjccohcigopdfaa.lx (Tok Tk tcell tcells cell_at ieq_yes ieq_no)
set_option maxRecDepth 20000

/-- the end of a function that gives a term and a priority -/
theorem fin_spq {fn : Func} {q u : Tmp} (hf : fn.results = #[.cell q 25, .tmp u]) {r b i i' B p k : Nat} {S : List UInt8} {tk nv' : Value} {L : List Tok} {nm' : List (List UInt8)} {w W : World} {tmps : Array Value} {a0 a1 a2 a3 : Value} {D : Nat → Prop}
    (hp : tmps.getD q undef = .pointer (some ⟨B, 0, none⟩)) (hR : Rr r b S tk L i' nv' nm' p k W) (hF : Fr r b w W) (hB : W.heap[B]? = some (.cells #[a0, a1, a2, a3] 25 (0, 0))) (hlo : w.heap.size ≤ B) (hr : r < w.heap.size)
    {t : T} {a : Value} (hT : Rp D W t a) (hD : ∀ k, D k → w.heap.size ≤ k ∧ k ≠ B) {n : Int} (hu : tmps.getD u undef = .int .i64 n) (hi : i ≤ i') {X : Res (T × Int)} (hX : Agree L X (t, n) i' nm' k) :
    bodyPost Try.prog fn (SPQ r b S tk L i w X) .ret { tmps := tmps, defers := [] } ((((W.setCell ⟨B, 0, none⟩ (.int .i64 (t.k : Nat))).setCell ⟨B, 1, none⟩ (.int .i64 t.n)).setCell ⟨B, 2, none⟩ (.string (bs t.s))).setCell ⟨B, 3, none⟩ a) := by
  refine bodyPost_ret (ret_pair hf _ _ hp (Go.Proofs.Ytjccohcigopdfaa.rd.set4 hB _ _ _ _)) rfl ?_
  have hn : ¬ D B := fun h => (hD B h).2 rfl
  refine ⟨t, n, a, i', nv', nm', p, k, by rw [hu], ?_, hi, hR.set4 hB (by omega) (by decide) (by decide) _ _ _ _, ?_, hX⟩
  · exact (((((hT.set (p := ⟨B, 0, none⟩) hn _).set (p := ⟨B, 1, none⟩) hn _).set (p := ⟨B, 2, none⟩) hn _).set (p := ⟨B, 3, none⟩) hn _)).imp fun k _ hk => (hD k hk).1
  · exact (((hF.set (p := ⟨B, 0, none⟩) (.inr hlo) _).set (p := ⟨B, 1, none⟩) (.inr hlo) _).set (p := ⟨B, 2, none⟩) (.inr hlo) _).set (p := ⟨B, 3, none⟩) (.inr hlo) _
theorem tk_tok {L : List Tok} {n i : Nat} (h : i < L.length) : tkAt L n i = tokAt L n i := by simp [tkAt, tokAt, h]
theorem named_eqR (x : W) (most : Int) (L : List Tok) (n i : Nat) (nm : List (List UInt8)) (hk : (tkAt L n i).kind = 1) : namedP x most ((ab L).drop i, nm) =
    if (tkAt L n (i + 1)).kind = 4 then
      match rowP x ((ab L).drop (i + 2), nm) with
      | .error k => .error k
      | .ok (l, s2) => if isM (nx s2.1) [41] = true then .ok ((.cmp (tkAt L n i).text l, 0), (s2.1.tail, s2.2)) else .error 50
    else if (tkAt L n i).text = [45] ∧ (tkAt L n (i + 1)).kind = 3 ∧ (tkAt L n (i + 1)).frm = (tkAt L n i).to then zeroP (intQ [45] (tkAt L n (i + 1)).text ((ab L).drop (i + 2), nm))
    else if (progP (tkAt L n i).text).2.2 = true ∧ (progP (tkAt L n i).text).1 ≤ most ∧ mayB (nx ((ab L).drop (i + 1))) = true then
      match x (progP (tkAt L n i).text).2.1 ((ab L).drop (i + 1), nm) with
      | .error k => .error k
      | .ok (t, s2) => .ok ((.cmp (tkAt L n i).text [t], (progP (tkAt L n i).text).1), s2)
    else .ok ((.leaf 3 0 (tkAt L n i).text, 0), ((ab L).drop (i + 1), nm)) := by
  have e0 : tkAt L n i = tokAt L n i := tk_tok (tk_lt (n := n) (by omega))
  have hi : intP [45] ((ab L).drop (i + 1), nm) = intQ [45] (tkAt L n (i + 1)).text ((ab L).drop (i + 2), nm) := by rw [intP_eq, ← tkAt_text L n (i + 1), tail_drop]
  rw [named_eq x most L n i nm (by rw [← e0]; exact hk), ← e0, hi]
  rcases Nat.lt_or_ge (i + 1) L.length with h1 | h1
  · rw [← tk_tok (n := n) h1] <;> rfl
  · have e1 : (tokAt L n (i + 1)).kind = 0 := by simp [tokAt, List.getElem?_eq_none h1]
    have e2 : (tkAt L n (i + 1)).kind = 0 := by simp [tkAt, List.getElem?_eq_none h1]
    simp only [e1, e2]
    simp
    rfl
theorem agree_zero {L : List Tok} {y : Res T} {t : T} {i : Nat} {nm : List (List UInt8)} {k : Nat} (h : Agree L y t i nm k) : Agree L (zeroP y) (t, 0) i nm k := by
  by_cases hk : k = 0
  · subst hk; rw [h.ok rfl]; exact ⟨rfl, rfl, rfl⟩
  · rw [h.bad hk]; exact ⟨rfl, hk⟩
set_option maxHeartbeats 4000000 in
theorem named_c {r b i j p deep : Nat} {S : List UInt8} {tk nv : Value} {L : List Tok} {nm : List (List UInt8)} {w : World} {x : W} (h : Rr r b S tk L j nv nm p 0 w) (hj : j = i + 1) (hw : XOk r b S tk L (deep + 1) x) (hd : deep ≤ 1000) (hk : (tkAt L S.length i).kind = 1) (_hnl : nm.length ≤ i) (most : Int) (_hm1 : -10000 ≤ most) (_hm2 : most ≤ 10000) :
    Calls Try.prog 94 #[.pointer (some ⟨r, 0, none⟩), tokV (tkAt L S.length i), .int .i64 most, .int .i64 (deep : Nat)] w (SPQ r b S tk L i w (namedP x most ((ab L).drop i, nm))) := by
  have H := Lib.hid h
  have HW := Lib.hid hw
  have hX := named_eqR x most L S.length i nm hk
  rw [show i + 2 = j + 1 by omega, ← hj] at hX
  have HX := Lib.hid hX
  have hll := h.good.len
  have hle := h.le
  have hlt := h.lt
  have dw := wrap1 (n := deep) (by omega)
  have iw : IntKind.i64.wrap ((j : Int) + 1) = (j : Int) + 1 := wrap1' (by omega)
  have hmin := minus_beq (tkAt L S.length i).text
  have hb3 : ∀ t, t = tkAt L S.length j → t.kind = 3 → t.text ≠ [] ∧ t.text.length ≤ 4096 ∧ j < L.length := fun t e h3 => by
    subst e
    have h1 : j < L.length := tk_lt (n := S.length) (by omega)
    exact ⟨h.good.digs _ (tk_mem h1) h3, tk_len h.good, h1⟩
  have hb4 : ∀ t, t = tkAt L S.length j → t.kind = 4 → j < L.length := fun t e h4 => by
    subst e; exact tk_lt (n := S.length) (by omega)
  have hkn : (nx ((ab L).drop j)).kind = (tkAt L S.length j).kind := (tkAt_kind _ _ _).symm
  have hpb := prefix_bound (tkAt L S.length i).text
  generalize namedP x most ((ab L).drop i, nm) = X at *
  have Hb3 := Lib.hid hb3
  have Hb4 := Lib.hid hb4
  have kn := fun w h => next_c (r := r) (b := b) (S := S) (tk := tk) (L := L) (i := j) (nv := nv) (nm := nm) (p := p) (k := 0) (w := w) h
  clear hb3 hb4
  generalize hT1 : tkAt L S.length j = T1 at *
  generalize tkAt L S.length i = T0 at *
  have hb1 : Below w.heap.size w ((w.alloc (.cells #[.int .i64 (T0.kind : Nat), .string (bs T0.text), .int .i64 (T0.frm : Nat), .int .i64 (T0.to : Nat)] 73)).alloc (.cells #[.int .i64 0, .int .i64 0, .string ⟨#[]⟩, .slice none 0 0] 25)) := ((Below.refl _ w).alloc (Nat.le_refl _) _).alloc (by simp) _
  have hk0 : ((w.alloc (.cells #[.int .i64 (T0.kind : Nat), .string (bs T0.text), .int .i64 (T0.frm : Nat), .int .i64 (T0.to : Nat)] 73)).alloc (.cells #[.int .i64 0, .int .i64 0, .string ⟨#[]⟩, .slice none 0 0] 25)).heap[w.heap.size]? = some (.cells #[.int .i64 (T0.kind : Nat), .string (bs T0.text), .int .i64 (T0.frm : Nat), .int .i64 (T0.to : Nat)] 73 (0, 0)) := (Lib.alloc_old _ _ _ (by simp)).trans (heap_alloc_new w _)
  have hrb : ((w.alloc (.cells #[.int .i64 (T0.kind : Nat), .string (bs T0.text), .int .i64 (T0.frm : Nat), .int .i64 (T0.to : Nat)] 73)).alloc (.cells #[.int .i64 0, .int .i64 0, .string ⟨#[]⟩, .slice none 0 0] 25)).heap[w.heap.size + 1]? = some (.cells #[.int .i64 0, .int .i64 0, .string ⟨#[]⟩, .slice none 0 0] 25 (0, 0)) := by
    have := heap_alloc_new (w.alloc (.cells #[.int .i64 (T0.kind : Nat), .string (bs T0.text), .int .i64 (T0.frm : Nat), .int .i64 (T0.to : Nat)] 73)) (.cells #[.int .i64 0, .int .i64 0, .string ⟨#[]⟩, .slice none 0 0] 25)
    rwa [size_alloc] at this
  have hs0 : ((w.alloc (.cells #[.int .i64 (T0.kind : Nat), .string (bs T0.text), .int .i64 (T0.frm : Nat), .int .i64 (T0.to : Nat)] 73)).alloc (.cells #[.int .i64 0, .int .i64 0, .string ⟨#[]⟩, .slice none 0 0] 25)).heap.size = w.heap.size + 2 := by simp
  have kn0 := kn _ (h.stay hb1)
  have HB1 := Lib.hid hb1
  have HK0 := Lib.hid hk0
  have Hrb0 := Lib.hid hrb
  have Hs0 := Lib.hid hs0
  clear h hw kn hb1 hk0 hrb hs0 hk hX
  have hj1 := Lib.hid hj
  have hij : i ≤ j := by omega
  clear hj
  unfold tokV at kn0 ⊢
  go_enter Try.func94, Try.ntmps94
  go_wp2_with fail
  refine kn0.mono ?_
  rintro en w1 ⟨rfl, hb⟩
  have hz1 := hb.size
  rw [Hs0.out] at hz1
  have hb2 := (HB1.out.trans (hb.mono (by rw [Hs0.out]; omega))).trans ((Below.refl w.heap.size w1).alloc (by omega) (.cells #[.int .i64 (T1.kind : Nat), .string (bs T1.text), .int .i64 (T1.frm : Nat), .int .i64 (T1.to : Nat)] 73))
  have HR1 := Lib.hid (H.out.stay hb2)
  have HF1 := Lib.hid (Fr.of_below (r := r) (b := b) hb2)
  have hal : ∀ k, k < w1.heap.size → (w1.alloc (.cells #[.int .i64 (T1.kind : Nat), .string (bs T1.text), .int .i64 (T1.frm : Nat), .int .i64 (T1.to : Nat)] 73)).heap[k]? = w1.heap[k]? := fun k hk => Lib.alloc_old w1 _ k hk
  have HK1 := Lib.hid ((hal _ (by omega)).trans ((hb.block w.heap.size (by rw [Hs0.out]; omega)).trans HK0.out))
  have Hrb1 := Lib.hid ((hal _ (by omega)).trans ((hb.block (w.heap.size + 1) (by rw [Hs0.out]; omega)).trans Hrb0.out))
  have HJ1 := Lib.hid (heap_alloc_new w1 (.cells #[.int .i64 (T1.kind : Nat), .string (bs T1.text), .int .i64 (T1.frm : Nat), .int .i64 (T1.to : Nat)] 73))
  have Hs1 := Lib.hid (size_alloc w1 (.cells #[.int .i64 (T1.kind : Nat), .string (bs T1.text), .int .i64 (T1.frm : Nat), .int .i64 (T1.to : Nat)] 73))
  clear kn0 hb hb2 hal HB1 HK0 Hrb0 Hs0
  have hn1 : ¬ w.heap.size + 1 = r := by omega
  have hn2 : ¬ w.heap.size = r := by omega
  have hn3 : ¬ w1.heap.size = r := by omega
  generalize hW1 : World.alloc w1 _ = W1 at *
  obtain ⟨x0, x1, x2, x3, _⟩ := cells4 HJ1.out
  by_cases h4 : T1.kind = 4
  · obtain ⟨y4, _⟩ := ieq_yes (a := T1.kind) 4 (by omega)
    have hX1 := Lib.hid (HX.out.trans (if_pos h4))
    have hil := Hb4.out T1 rfl h4
    have c2 : W1.cell? ⟨r, 2, none⟩ = some (.int .i64 (j : Nat)) := by rw [HR1.out.cell]; rfl
    have f2 := HR1.out.free 2
    have HR2 := Lib.hid (HR1.out.step hil)
    have HF2 := Lib.hid (HF1.out.set (p := ⟨r, 2, none⟩) (.inl rfl) (.int .i64 ((j : Int) + 1)))
    have Hrb2 := Lib.hid ((Below.heap_setCell W1 ⟨r, 2, none⟩ (.int .i64 ((j : Int) + 1)) (w.heap.size + 1) hn1).trans Hrb1.out)
    have HK2 := Lib.hid ((Below.heap_setCell W1 ⟨r, 2, none⟩ (.int .i64 ((j : Int) + 1)) w.heap.size hn2).trans HK1.out)
    have hz2 : w1.heap.size + 1 ≤ (W1.setCell ⟨r, 2, none⟩ (.int .i64 ((j : Int) + 1))).heap.size := by simp [World.setCell, Hs1.out]
    have kr := row_c HR2.out HW.out hd
    clear HX h4 Hb3 Hb4 HR1 HF1 HK1 Hrb1 HJ1
    go_wp2_with fail
    generalize World.setCell W1 ⟨r, 2, none⟩ _ = W2 at *
    refine kr.mono ?_
    rintro en w3 ⟨l, g, cap, i3, nv3, nm3, p3, k3, rfl, hRw, hi3, hl3, hl0, hR3, hF3, hA⟩
    have hz3 := hF3.size
    have Hrb := Lib.hid (keep hF3 HR2.out (t := 25) (by decide) (by decide) _ _ _ Hrb2.out)
    have HK := Lib.hid (keep hF3 HR2.out (t := 73) (by decide) (by decide) _ _ _ HK2.out)
    have HRw := Lib.hid hRw
    have HR := Lib.hid hR3
    have HF := Lib.hid (HF2.out.trans hF3)
    have hle3 := hR3.le
    have hA := Lib.hid hA
    clear hRw hR3 hF3 kr HR2 HF2 Hrb2 HK2 c2 f2 x0 x1 x2 x3
    have HRs := Lib.hid (show W2.heap.size ≤ w3.heap.size from hz3)
    by_cases hk3 : k3 = 0
    · subst hk3
      have HXm := Lib.hid (show X = (if isM (nx ((ab L).drop i3)) [41] = true then .ok ((.cmp T0.text l, 0), ((ab L).drop (i3 + 1), nm3)) else .error 50) from by
        rw [hX1.out, hA.out.ok rfl]; simp only [tail_drop])
      have kq := must_c HR.out [41]
      rw [show bs [41] = ⟨#[41]⟩ from rfl] at kq
      clear hA hX1
      go_wp2_with fail
      refine kq.mono ?_
      rintro en w5 ⟨rfl, hF5, h5⟩
      have hz5 := hF5.size
      have Hrb5 := Lib.hid (keep hF5 HR.out (t := 25) (by decide) (by decide) _ _ _ Hrb.out)
      have HK5 := Lib.hid (keep hF5 HR.out (t := 73) (by decide) (by decide) _ _ _ HK.out)
      have HRw5 := Lib.hid (HRw.out.kept (keep hF5 HR.out (by decide) (by decide)))
      have HF5 := Lib.hid (HF.out.trans hF5)
      have HRs5 := Lib.hid (Nat.le_trans HRs.out hz5)
      rcases h5 with ⟨hmm, hR5⟩ | ⟨hmm, pp, hR5⟩
      · have HA := Lib.hid (show Agree L X (.cmp T0.text l, 0) (i3 + 1) nm3 0 from agree_ok (HXm.out.trans (if_pos hmm)))
        have HR5 := Lib.hid hR5
        clear hmm hR5 hF5 kq HR HF Hrb HK HRw HRs HXm
        have HR := HR5
        have HF := HF5
        have Hrb := Hrb5
        have HK := HK5
        have HRw := HRw5
        have HRs := HRs5
        clear HR5 HF5 Hrb5 HK5 HRw5 HRs5
        obtain ⟨z0, z1, z2, z3, _⟩ := cells4 HK.out
        have kc := cmp_c HRw.out (fun k hk => by have := HRs.out; omega) (by omega) T0.text
        go_wp2_with fail
        refine kc.mono ?_
        rintro en w8 ⟨v8, rfl, hT8, hb8⟩
        obtain ⟨va, vm, vc, rfl⟩ := hT8.shape
        have HR8 := Lib.hid (HR.out.stay hb8)
        have HF8 := Lib.hid (HF.out.trans (Fr.of_below hb8))
        have hrb8 := (hb8.block _ (lt_of Hrb.out)).trans Hrb.out
        obtain ⟨r0, r1, r2, r3, rf⟩ := cells4 hrb8
        have HT8 := Lib.hid hT8
        have Hrb8 := Lib.hid hrb8
        clear hb8 hT8 kc HR HF Hrb HK HRw hrb8
        generalize hBe : w.heap.size + 1 = B at *
        have HBe := Lib.hid hBe
        clear hBe
        go_wp2
        (try simp only [Exit.inBlock, Exit.then])
        exact fin_spq (t := .cmp T0.text l) rfl rfl HR8.out HF8.out Hrb8.out (by have := HBe.out; omega) (by omega) HT8.out (fun k hk => by have := HBe.out; omega) rfl (by omega) HA.out
      · have HA := Lib.hid (show Agree L X (.cmp T0.text l, 0) i3 nm3 50 from agree_bad (HXm.out.trans (if_neg (by rw [hmm]; decide))) (by decide))
        have HR5 := Lib.hid hR5
        clear hmm hR5 hF5 kq HR HF Hrb HK HRw HRs HXm
        have HR := HR5
        have HF := HF5
        have Hrb := Hrb5
        have HK := HK5
        have HRw := HRw5
        have HRs := HRs5
        clear HR5 HF5 Hrb5 HK5 HRw5 HRs5
        obtain ⟨z0, z1, z2, z3, _⟩ := cells4 HK.out
        have kc := cmp_c HRw.out (fun k hk => by have := HRs.out; omega) (by omega) T0.text
        go_wp2_with fail
        refine kc.mono ?_
        rintro en w8 ⟨v8, rfl, hT8, hb8⟩
        obtain ⟨va, vm, vc, rfl⟩ := hT8.shape
        have HR8 := Lib.hid (HR.out.stay hb8)
        have HF8 := Lib.hid (HF.out.trans (Fr.of_below hb8))
        have hrb8 := (hb8.block _ (lt_of Hrb.out)).trans Hrb.out
        obtain ⟨r0, r1, r2, r3, rf⟩ := cells4 hrb8
        have HT8 := Lib.hid hT8
        have Hrb8 := Lib.hid hrb8
        clear hb8 hT8 kc HR HF Hrb HK HRw hrb8
        generalize hBe : w.heap.size + 1 = B at *
        have HBe := Lib.hid hBe
        clear hBe
        go_wp2
        (try simp only [Exit.inBlock, Exit.then])
        exact fin_spq (t := .cmp T0.text l) rfl rfl HR8.out HF8.out Hrb8.out (by have := HBe.out; omega) (by omega) HT8.out (fun k hk => by have := HBe.out; omega) rfl (by omega) HA.out
    · have HA := Lib.hid (show Agree L X (.cmp T0.text l, 0) i3 nm3 k3 from agree_bad (by rw [hX1.out, hA.out.bad hk3]) hk3)
      have kq := must_bad HR.out hk3 [41]
      rw [show bs [41] = ⟨#[41]⟩ from rfl] at kq
      clear hA hX1 hk3
      go_wp2_with fail
      refine kq.mono ?_
      rintro en w5 ⟨rfl, rfl⟩
      clear kq
      obtain ⟨z0, z1, z2, z3, _⟩ := cells4 HK.out
      have kc := cmp_c HRw.out (fun k hk => by have := HRs.out; omega) (by omega) T0.text
      go_wp2_with fail
      refine kc.mono ?_
      rintro en w8 ⟨v8, rfl, hT8, hb8⟩
      obtain ⟨va, vm, vc, rfl⟩ := hT8.shape
      have HR8 := Lib.hid (HR.out.stay hb8)
      have HF8 := Lib.hid (HF.out.trans (Fr.of_below hb8))
      have hrb8 := (hb8.block _ (lt_of Hrb.out)).trans Hrb.out
      obtain ⟨r0, r1, r2, r3, rf⟩ := cells4 hrb8
      have HT8 := Lib.hid hT8
      have Hrb8 := Lib.hid hrb8
      clear hb8 hT8 kc HR HF Hrb HK HRw hrb8
      generalize hBe : w.heap.size + 1 = B at *
      have HBe := Lib.hid hBe
      clear hBe
      go_wp2
      (try simp only [Exit.inBlock, Exit.then])
      exact fin_spq (t := .cmp T0.text l) rfl rfl HR8.out HF8.out Hrb8.out (by have := HBe.out; omega) (by omega) HT8.out (fun k hk => by have := HBe.out; omega) rfl (by omega) HA.out
  · have HX1 := Lib.hid (HX.out.trans (if_neg h4))
    obtain ⟨y4, _⟩ := ieq_no (a := T1.kind) 4 (by omega)
    have hk4 : (nx ((ab L).drop j)).kind ≠ 4 := by rw [hkn]; exact h4
    have H4 := Lib.hid hk4
    clear HX h4 hk4 Hb4 hkn
    obtain ⟨z0, z1, z2, z3, _⟩ := cells4 HK1.out
    by_cases hB : T0.text = [45] ∧ T1.kind = 3 ∧ T1.frm = T0.to
    · obtain ⟨e1, e2, e3⟩ := hB
      have hX2 := Lib.hid (HX1.out.trans (if_pos ⟨e1, e2, e3⟩))
      obtain ⟨b1, b2, b3⟩ := Hb3.out T1 rfl e2
      obtain ⟨y3, _⟩ := ieq_yes (a := T1.kind) 3 (by omega)
      have hm2 : ((bs T0.text).toList == [45]) = true := by rw [hmin]; simpa using e1
      have hf2 : ((T1.frm : Int) == (T0.to : Int)) = true := by rw [e3]; simp
      have c2 : W1.cell? ⟨r, 2, none⟩ = some (.int .i64 (j : Nat)) := by rw [HR1.out.cell]; rfl
      have f2 := HR1.out.free 2
      have HR2 := Lib.hid (HR1.out.step b3)
      have HF2 := Lib.hid (HF1.out.set (p := ⟨r, 2, none⟩) (.inl rfl) (.int .i64 ((j : Int) + 1)))
      have Hrb2 := Lib.hid ((Below.heap_setCell W1 ⟨r, 2, none⟩ (.int .i64 ((j : Int) + 1)) (w.heap.size + 1) hn1).trans Hrb1.out)
      have HJ2 := Lib.hid ((Below.heap_setCell W1 ⟨r, 2, none⟩ (.int .i64 ((j : Int) + 1)) w1.heap.size hn3).trans HJ1.out)
      have hz2 : w.heap.size + 1 < (W1.setCell ⟨r, 2, none⟩ (.int .i64 ((j : Int) + 1))).heap.size := by simp [World.setCell, Hs1.out]; omega
      have ki := integer_c HR2.out T1 b1 b2 true
      simp only [if_true] at ki
      unfold tokV at ki
      clear HX1 Hb3 hmin hpb HR1 HF1 HK1 Hrb1 HJ1 e1 e2 e3 b1 b2
      have Hz2 := Lib.hid hz2
      have HJ2c := cells4 HJ2.out
      obtain ⟨u0, u1, u2, u3, _⟩ := HJ2c
      go_wp2_with fail
      refine ki.mono ?_
      rintro en w3 ⟨t3, a3, i3, nv3, nm3, p3, k3, rfl, hT3, hi3, hR3, hF3, hA3⟩
      obtain ⟨va, vm, vc, rfl⟩ := hT3.shape
      have hrb3 := keep hF3 HR2.out (t := 25) (by decide) (by decide) _ _ _ Hrb2.out
      have HF3 := Lib.hid (HF2.out.trans hF3)
      have HR3 := Lib.hid hR3
      have HT3 := Lib.hid (hT3.imp (D' := fun k => w.heap.size + 1 < k) fun k _ hk => Nat.lt_of_lt_of_le Hz2.out hk)
      have HA := Lib.hid (show Agree L X (t3, 0) i3 nm3 k3 from by rw [hX2.out]; exact agree_zero hA3)
      obtain ⟨r0, r1, r2, r3, rf⟩ := cells4 hrb3
      have Hrb3 := Lib.hid hrb3
      clear hT3 hR3 hF3 hA3 hrb3 ki HR2 HF2 Hrb2 HJ2 Hz2 hz2 c2 f2 u0 u1 u2 u3 hX2
      generalize hBe : w.heap.size + 1 = B at *
      have HBe := Lib.hid hBe
      clear hBe
      go_wp2
      (try simp only [Exit.inBlock, Exit.then])
      exact fin_spq rfl rfl HR3.out HF3.out Hrb3.out (by have := HBe.out; omega) (by omega) HT3.out (fun k hk => by have := HBe.out; omega) rfl (by omega) HA.out
    · have HX2 := Lib.hid (HX1.out.trans (if_neg hB))
      have hBc : (T0.text = [45] ∧ T1.kind = 3 ∧ T1.frm ≠ T0.to) ∨ (T0.text = [45] ∧ T1.kind ≠ 3) ∨ T0.text ≠ [45] := by
        by_cases a1 : T0.text = [45]
        · by_cases a2 : T1.kind = 3
          · exact .inl ⟨a1, a2, fun a3 => hB ⟨a1, a2, a3⟩⟩
          · exact .inr (.inl ⟨a1, a2⟩)
        · exact .inr (.inr a1)
      obtain ⟨pp, m, ok, hP⟩ : ∃ p l q, progP T0.text = (p, l, q) := ⟨_, _, _, rfl⟩
      have kp := fun w => rP (bs T0.text) w (p := pp) (l := m) (b := ok) hP
      have ke := fun w h => ends_c (r := r) (b := b) (S := S) (tk := tk) (L := L) (i := j) (nv := nv) (nm := nm) (p := p) (k := 0) (w := w) h H4.out
      rw [hP] at hpb
      have HX3 := Lib.hid (show X = if ok = true ∧ pp ≤ most ∧ mayB (nx ((ab L).drop j)) = true then
          match x m ((ab L).drop j, nm) with
          | .error k => .error k
          | .ok (t, s2) => .ok ((.cmp T0.text [t], pp), s2)
        else .ok ((.leaf 3 0 T0.text, 0), ((ab L).drop j, nm)) from by rw [HX2.out, hP])
      have Hmin := Lib.hid hmin
      clear HX1 HX2 hB hP hmin Hb3
      have hcond : (((bs T0.text).toList == [45]) = true ∧ ((T1.kind : Int) == 3) = true ∧ ((T1.frm : Int) == (T0.to : Int)) = false) ∨ (((bs T0.text).toList == [45]) = true ∧ ((T1.kind : Int) == 3) = false) ∨ ((bs T0.text).toList == [45]) = false := by
        rcases hBc with ⟨a1, a2, a3⟩ | ⟨a1, a2⟩ | a1
        · exact .inl ⟨by rw [Hmin.out]; simpa using a1, by simp [a2], by rw [beq_eq_false_iff_ne]; omega⟩
        · exact .inr (.inl ⟨by rw [Hmin.out]; simpa using a1, by rw [beq_eq_false_iff_ne]; omega⟩)
        · exact .inr (.inr (by rw [Hmin.out]; simpa using a1))
      clear hBc
      generalize mayB (nx ((ab L).drop j)) = mb at *
      have HX4 := Lib.hid (show (ok = true ∧ pp ≤ most ∧ mb = true) → X = (match x m ((ab L).drop j, nm) with
          | .error k => .error k
          | .ok (t, s2) => .ok ((.cmp T0.text [t], pp), s2)) from fun e => HX3.out.trans (if_pos e))
      have HX5 := Lib.hid (show ¬ (ok = true ∧ pp ≤ most ∧ mb = true) → X = .ok ((.leaf 3 0 T0.text, 0), ((ab L).drop j, nm)) from fun e => HX3.out.trans (if_neg e))
      clear HX3
      have Hpb := Lib.hid hpb
      clear hpb
      rcases hcond with ⟨q1, q2, q3⟩ | ⟨q1, q2⟩ | q1
      all_goals
        go_wp2_with fail
        refine (kp _).mono ?_
        rintro en w2 ⟨rfl, hb2⟩
        have HR := Lib.hid (HR1.out.stay hb2)
        have HF := Lib.hid (HF1.out.trans (Fr.of_below hb2))
        have HK := Lib.hid ((hb2.block _ (lt_of HK1.out)).trans HK1.out)
        have Hrb := Lib.hid ((hb2.block _ (lt_of Hrb1.out)).trans Hrb1.out)
        have hz2 := hb2.size
        clear hb2 HR1 HF1 HK1 Hrb1 HJ1 kp
        cases ok
        · have hXe := Lib.hid (HX5.out (by simp))
          clear HX4 HX5
          obtain ⟨z0, z1, z2, z3, _⟩ := cells4 HK.out
          go_wp2_with fail
          refine (atom_c _ _).mono ?_
          rintro en w8 ⟨rfl, hb8⟩
          have HR8 := Lib.hid (HR.out.stay hb8)
          have HF8 := Lib.hid (HF.out.trans (Fr.of_below hb8))
          have hrb8 := (hb8.block _ (lt_of Hrb.out)).trans Hrb.out
          obtain ⟨r0, r1, r2, r3, rf⟩ := cells4 hrb8
          have Hrb8 := Lib.hid hrb8
          clear hb8 HR HF Hrb HK hrb8
          generalize hBe : w.heap.size + 1 = B at *
          have HBe := Lib.hid hBe
          clear hBe
          go_wp2
          (try simp only [Exit.inBlock, Exit.then])
          exact fin_spq (t := .leaf 3 0 T0.text) (D := fun _ => False) rfl rfl HR8.out HF8.out Hrb8.out (by have := HBe.out; omega) (by omega) (by rw [Rp]) (fun _ h => h.elim) rfl hij (agree_ok hXe.out)
        · by_cases hpm : pp ≤ most
          · have ke2 := ke _ HR.out
            cases mb
            · have hXe := Lib.hid (HX5.out (by simp))
              clear HX4 HX5
              go_wp2_with fail
              refine ke2.mono ?_
              rintro en w3 ⟨rfl, hb3⟩
              have HR' := Lib.hid (HR.out.stay hb3)
              have HF' := Lib.hid (HF.out.trans (Fr.of_below hb3))
              have HK' := Lib.hid ((hb3.block _ (lt_of HK.out)).trans HK.out)
              have Hrb' := Lib.hid ((hb3.block _ (lt_of Hrb.out)).trans Hrb.out)
              clear hb3 HR HF HK Hrb ke2
              have HR := HR'
              have HF := HF'
              have HK := HK'
              have Hrb := Hrb'
              clear HR' HF' HK' Hrb'
              obtain ⟨z0, z1, z2, z3, _⟩ := cells4 HK.out
              go_wp2_with fail
              refine (atom_c _ _).mono ?_
              rintro en w8 ⟨rfl, hb8⟩
              have HR8 := Lib.hid (HR.out.stay hb8)
              have HF8 := Lib.hid (HF.out.trans (Fr.of_below hb8))
              have hrb8 := (hb8.block _ (lt_of Hrb.out)).trans Hrb.out
              obtain ⟨r0, r1, r2, r3, rf⟩ := cells4 hrb8
              have Hrb8 := Lib.hid hrb8
              clear hb8 HR HF Hrb HK hrb8
              generalize hBe : w.heap.size + 1 = B at *
              have HBe := Lib.hid hBe
              clear hBe
              go_wp2
              (try simp only [Exit.inBlock, Exit.then])
              exact fin_spq (t := .leaf 3 0 T0.text) (D := fun _ => False) rfl rfl HR8.out HF8.out Hrb8.out (by have := HBe.out; omega) (by omega) (by rw [Rp]) (fun _ h => h.elim) rfl hij (agree_ok hXe.out)
            · have hX2 := Lib.hid (HX4.out ⟨rfl, hpm, rfl⟩)
              clear HX4 HX5
              go_wp2_with fail
              refine ke2.mono ?_
              rintro en w3 ⟨rfl, hb3⟩
              have HR' := Lib.hid (HR.out.stay hb3)
              have HF' := Lib.hid (HF.out.trans (Fr.of_below hb3))
              have HK' := Lib.hid ((hb3.block _ (lt_of HK.out)).trans HK.out)
              have Hrb' := Lib.hid ((hb3.block _ (lt_of Hrb.out)).trans Hrb.out)
              clear hb3 HR HF HK Hrb ke2
              have hz3 : w.heap.size + 1 < w3.heap.size := lt_of Hrb'.out
              have kx : ∀ q : Nat, Calls Try.prog 55 #[.pointer (some ⟨r, 0, none⟩), .int .i64 m, .int .i64 ((deep + 1 : Nat) : Nat)] (w3.drewN q) (SQ r b S tk L j (w3.drewN q) (x m ((ab L).drop j, nm))) := fun q =>
                HW.out m j nv nm p (w3.drewN q) Hpb.out.1 Hpb.out.2 (HR'.out.drew q)
              have k1 : w3.cell? ⟨w.heap.size, 1, none⟩ = some (.string (bs T0.text)) := by rw [cell_at HK'.out]; rfl
              have k1d : w3.drew.cell? ⟨w.heap.size, 1, none⟩ = some (.string (bs T0.text)) := k1
              have nb : w.heap.size ≠ w.heap.size + 1 := by omega
              clear z0 z1 z2 z3
              go_wp2_with fail
              go_region_held3 (fun w' => w'.cell? ⟨w.heap.size, 1, none⟩ = some (.string (bs T0.text)))
                (first | with_reducible exact k1d | with_reducible exact q1 | with_reducible exact q2 | with_reducible exact (set4_other nb _ _ _ _ _).trans q2)
                (first
                  | (go_at_call 55; (refine (kx _).mono ?_); rintro en w6 ⟨t6, a6, i6, nv6, nm6, p6, k6, rfl, hT6, hi6, hR6, hF6, hA6⟩; obtain ⟨ap, an, ac, rfl⟩ := hT6.shape; have q1 : w6.cell? ⟨w.heap.size, 1, none⟩ = some (.string (bs T0.text)) := (by rw [cell_at (keep hF6 (HR'.out.drew _) (t := 73) (by decide) (by decide) _ _ _ HK'.out)]; rfl); have HT6 := Lib.hid (hT6.imp (D' := fun k => w.heap.size + 1 < k) fun k _ hk => Nat.lt_of_lt_of_le hz3 hk); have HR6 := Lib.hid hR6; have HF6 := Lib.hid ((HF'.out.drew _).trans hF6); have hrb6 := Lib.hid (keep hF6 (HR'.out.drew _) (t := 25) (by decide) (by decide) _ _ _ Hrb'.out); have HA6 := Lib.hid hA6; clear hT6 hR6 hF6 hA6)
                  | (go_at_call 93; (refine (one_c HT6.out (fun k hk => Nat.lt_of_lt_of_le (lt_of hrb6.out) hk) T0.text).mono ?_); rintro en w7 ⟨v7, rfl, hT7, hb7⟩; obtain ⟨bp, bn, bc, rfl⟩ := hT7.shape; have q2 : w7.cell? ⟨w.heap.size, 1, none⟩ = some (.string (bs T0.text)) := (World.cell?_of_block (hb7.block _ (Nat.lt_of_le_of_lt (Nat.le_succ _) (lt_of hrb6.out)))).trans q1; have HR7 := Lib.hid (HR6.out.stay hb7); have HF7 := Lib.hid (HF6.out.trans (Fr.of_below hb7)); have hrb7 := (hb7.block _ (lt_of hrb6.out)).trans hrb6.out; obtain ⟨r0, r1, r2, r3, f0⟩ := cells4 hrb7; have Hrb7 := Lib.hid hrb7; have HT7 := Lib.hid hT7; clear hb7 hrb7 hT7))
              clear kx
              have HA := Lib.hid (show Agree L X (.cmp T0.text [t6], pp) i6 nm6 k6 from by
                by_cases hk : k6 = 0
                · subst hk
                  refine agree_ok ?_
                  rw [hX2.out, HA6.out.ok rfl]
                · exact agree_bad (by rw [hX2.out, HA6.out.bad hk]) hk)
              clear HA6 hX2
              generalize hBe : w.heap.size + 1 = B at *
              have HBe := Lib.hid hBe
              clear hBe
              go_wp2
              (try simp only [Exit.inBlock, Exit.then])
              exact fin_spq (t := .cmp T0.text [t6]) rfl rfl HR7.out HF7.out Hrb7.out (by have := HBe.out; omega) (by omega) HT7.out (fun k hk => by have := HBe.out; omega) rfl (by omega) HA.out
          · have hXe := Lib.hid (HX5.out fun h => hpm h.2.1)
            have hpm2 : decide (pp ≤ most) = false := by simpa using hpm
            clear HX4 HX5
            obtain ⟨z0, z1, z2, z3, _⟩ := cells4 HK.out
            go_wp2_with fail
            refine (atom_c _ _).mono ?_
            rintro en w8 ⟨rfl, hb8⟩
            have HR8 := Lib.hid (HR.out.stay hb8)
            have HF8 := Lib.hid (HF.out.trans (Fr.of_below hb8))
            have hrb8 := (hb8.block _ (lt_of Hrb.out)).trans Hrb.out
            obtain ⟨r0, r1, r2, r3, rf⟩ := cells4 hrb8
            have Hrb8 := Lib.hid hrb8
            clear hb8 HR HF Hrb HK hrb8
            generalize hBe : w.heap.size + 1 = B at *
            have HBe := Lib.hid hBe
            clear hBe
            go_wp2
            (try simp only [Exit.inBlock, Exit.then])
            exact fin_spq (t := .leaf 3 0 T0.text) (D := fun _ => False) rfl rfl HR8.out HF8.out Hrb8.out (by have := HBe.out; omega) (by omega) (by rw [Rp]) (fun _ h => h.elim) rfl hij (agree_ok hXe.out)
end Go.Proofs.Ytjccohcigopdfaa.rr
end
