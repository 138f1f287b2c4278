/- The reference's reader: operand. -/
import Derived.Test.YtjccohcigopdfaaQ6
import Derived.Test.YtjccohcigopdfaaQ8
set_option linter.unusedVariables false
set_option linter.unusedSimpArgs false
section
/- The reference's reader: operand. -/
namespace Go.Proofs.Ytjccohcigopdfaa.rr
open Go.RowKit
open Go.Proofs.Ytjccohcigopdfaa.rd
open Go.Proofs.Ytjccohcigopdfaa.op (bs strC Both Tb)
open Go.Proofs.Ytjccohcigopdfaa.lx (Tok Tk tcell tcells cell_at ieq_yes ieq_no)
set_option maxRecDepth 20000

theorem operand_eqR (x : W) (most : Int) (L : List Tok) (n i : Nat) (nm : List (List UInt8)) : operandP x most ((ab L).drop i, nm) =
    if (tkAt L n i).kind = 3 then zeroP (intQ [] (tkAt L n i).text ((ab L).drop (i + 1), nm))
    else if (tkAt L n i).kind = 2 then zeroP (.ok (varQ (tkAt L n i).text ((ab L).drop (i + 1), nm)))
    else if (tkAt L n i).kind = 4 ∨ isM (nx ((ab L).drop i)) [40] = true then zeroP (bracketP x [41] ((ab L).drop (i + 1), nm))
    else if isM (nx ((ab L).drop i)) [91] = true then zeroP (listP x ((ab L).drop (i + 1), nm))
    else if isM (nx ((ab L).drop i)) [123] = true then
      zeroP (if isM (nx ((ab L).drop (i + 1))) [125] = true then .ok (.leaf 3 0 [123, 125], ((ab L).drop (i + 2), nm))
        else match bracketP x [125] ((ab L).drop (i + 1), nm) with
          | .error e => .error e
          | .ok (t, s') => .ok (.cmp [123, 125] [t], s'))
    else if (tkAt L n i).kind = 1 then namedP x most ((ab L).drop i, nm)
    else .error 50 := by
  have hk := tkAt_kind L n i
  have hm : ∀ m, isM (nx ((ab L).drop i)) m = true → (tkAt L n i).kind = 5 := fun m h => by
    rw [hk]; unfold isM at h; simp at h; exact h.1
  unfold operandP
  simp only [tail_drop, varP_eq, intP_eq, ← tkAt_text L n i, ← hk]
  generalize (tkAt L n i).kind = q at *
  by_cases h3 : q = 3
  · subst h3; simp
  by_cases h2 : q = 2
  · subst h2; simp; rfl
  by_cases h4 : q = 4
  · subst h4; simp
  by_cases h1 : q = 1
  · subst h1
    have hn : ∀ m, isM (nx ((ab L).drop i)) m = false := fun m => by
      cases h : isM (nx ((ab L).drop i)) m
      · rfl
      · exact absurd (hm m h) (by decide)
    simp [hn]
  rw [if_neg h1, if_neg h2, if_neg h3, if_neg h4, if_neg h3, if_neg h2]
  unfold markedP
  simp only [tail_drop]
  by_cases c1 : isM (nx ((ab L).drop i)) [40] = true
  · rw [if_pos c1, if_pos (.inr c1)]
  have z : ¬ (q = 4 ∨ isM (nx ((ab L).drop i)) [40] = true) := fun h => h.elim h4 c1
  rw [if_neg c1, if_neg z]
  by_cases c2 : isM (nx ((ab L).drop i)) [91] = true
  · rw [if_pos c2, if_pos c2]
  rw [if_neg c2, if_neg c2]
  by_cases c3 : isM (nx ((ab L).drop i)) [123] = true
  · rw [if_pos c3, if_pos c3]; rfl
  · rw [if_neg c3, if_neg c3, if_neg h1]; rfl
set_option maxHeartbeats 4000000 in
theorem operand_c {r b i p deep : Nat} {S : List UInt8} {tk nv : Value} {L : List Tok} {nm : List (List UInt8)} {w : World} {x : W} (h : Rr r b S tk L i nv nm p 0 w) (hw : XOk r b S tk L (deep + 1) x) (hd : deep ≤ 1000) (most : Int) (hm1 : -10000 ≤ most) (hm2 : most ≤ 10000) :
    Calls Try.prog 72 #[.pointer (some ⟨r, 0, none⟩), .int .i64 most, .int .i64 (deep : Nat)] w (SPQ r b S tk L i w (operandP x most ((ab L).drop i, nm))) := by
  have H := Lib.hid h
  have HW := Lib.hid hw
  have HX := Lib.hid (operand_eqR x most L S.length i nm)
  have hll := h.good.len
  have hle := h.le
  have hlt := h.lt
  have hnml := h.nml
  have dw := wrap1 (n := deep) (by omega)
  have iw := wrap1' (n := i) (by omega)
  have ht3 : (tkAt L S.length i).kind = 3 → (tkAt L S.length i).text ≠ [] := fun h3 => h.good.digs _ (tk_mem (tk_lt (n := S.length) (by omega))) h3
  have htl : (tkAt L S.length i).text.length ≤ 4096 := tk_len h.good
  have hki : (tkAt L S.length i).kind ≠ 0 → i < L.length := tk_lt
  have hkn := tkAt_kind L S.length i
  generalize hX0 : operandP x most ((ab L).drop i, nm) = X at *
  have kn := next_c (h.alloc (.cells #[.int .i64 0, .int .i64 0, .string ⟨#[]⟩, .slice none 0 0] 25))
  generalize hT0 : tkAt L S.length i = T0 at *
  have hrb0 := Lib.hid (heap_alloc_new w (.cells #[.int .i64 0, .int .i64 0, .string ⟨#[]⟩, .slice none 0 0] 25))
  have HF0 := Lib.hid (Fr.of_below (r := r) (b := b) ((Below.refl w.heap.size w).alloc (Nat.le_refl _) (.cells #[.int .i64 0, .int .i64 0, .string ⟨#[]⟩, .slice none 0 0] 25)))
  have hws := Lib.hid (size_alloc w (.cells #[.int .i64 0, .int .i64 0, .string ⟨#[]⟩, .slice none 0 0] 25))
  have HR0 := Lib.hid (h.alloc (.cells #[.int .i64 0, .int .i64 0, .string ⟨#[]⟩, .slice none 0 0] 25))
  have Ht3 := Lib.hid ht3
  have HT0 := Lib.hid hT0
  have Hki := Lib.hid hki
  have Hkn := Lib.hid hkn
  clear h hw hX0 ht3 hT0 hki hkn
  unfold tokV at kn
  go_enter Try.func72, Try.ntmps72
  go_wp2_with fail
  refine kn.mono ?_
  rintro en w1 ⟨rfl, hb⟩
  have hz1 : w.heap.size + 1 ≤ w1.heap.size := by have := hb.size; rw [hws.out] at this; exact this
  have HR := Lib.hid ((HR0.out.stay hb).alloc (.cells #[.int .i64 (T0.kind : Nat), .string (bs T0.text), .int .i64 (T0.frm : Nat), .int .i64 (T0.to : Nat)] 73))
  have Hrb := Lib.hid (((Lib.alloc_old w1 (.cells #[.int .i64 (T0.kind : Nat), .string (bs T0.text), .int .i64 (T0.frm : Nat), .int .i64 (T0.to : Nat)] 73) w.heap.size (by omega)).trans (hb.block w.heap.size (by rw [hws.out]; omega))).trans hrb0.out)
  have HF := Lib.hid ((HF0.out.trans (Fr.of_below hb)).alloc (.cells #[.int .i64 (T0.kind : Nat), .string (bs T0.text), .int .i64 (T0.frm : Nat), .int .i64 (T0.to : Nat)] 73))
  have HK := Lib.hid (heap_alloc_new w1 (.cells #[.int .i64 (T0.kind : Nat), .string (bs T0.text), .int .i64 (T0.frm : Nat), .int .i64 (T0.to : Nat)] 73))
  have hn1 : w.heap.size ≠ r := by omega
  have hn2 : w1.heap.size ≠ r := by omega
  have hz2 := size_alloc w1 (.cells #[.int .i64 (T0.kind : Nat), .string (bs T0.text), .int .i64 (T0.frm : Nat), .int .i64 (T0.to : Nat)] 73)
  clear hb hrb0 HF0 HR0 kn
  generalize hW1 : World.alloc w1 _ = W1 at *
  obtain ⟨k0, k1, k2, k3, _⟩ := cells4 HK.out
  by_cases h3 : T0.kind = 3
  · obtain ⟨x3, _⟩ := ieq_yes (a := T0.kind) 3 (by omega)
    have hX := Lib.hid (HX.out.trans (if_pos h3))
    have hil := Hki.out (by omega)
    have htx := Ht3.out h3
    have c2 : W1.cell? ⟨r, 2, none⟩ = some (.int .i64 (i : Nat)) := by rw [HR.out.cell]; rfl
    have f2 := HR.out.free 2
    have HR2 := Lib.hid (HR.out.step hil)
    have HF2 := Lib.hid (HF.out.set (p := ⟨r, 2, none⟩) (.inl rfl) (.int .i64 ((i : Int) + 1)))
    have Hrb2 := Lib.hid ((Below.heap_setCell W1 ⟨r, 2, none⟩ (.int .i64 ((i : Int) + 1)) w.heap.size hn1).trans Hrb.out)
    have HK2 := Lib.hid ((Below.heap_setCell W1 ⟨r, 2, none⟩ (.int .i64 ((i : Int) + 1)) w1.heap.size hn2).trans HK.out)
    clear HR HF Hrb HK
    have kb := integer_c HR2.out T0 htx htl false
    simp only [Bool.false_eq_true, if_false] at kb
    unfold tokV at kb
    clear HX h3 htx
    obtain ⟨j0, j1, j2, j3, _⟩ := cells4 HK2.out
    go_wp2_with fail
    refine kb.mono ?_
    clear kb
    rintro en w3 ⟨t3, a3, i3, nv3, nm3, p3, k3, rfl, hT3, hi3, hR3, hF3, hA3⟩
    obtain ⟨va, vm, vc, rfl⟩ := hT3.shape
    have hrb3 := keep hF3 HR2.out (t := 25) (by decide) (by decide) _ _ _ Hrb2.out
    have hz3 := lt_of Hrb2.out
    have HF3 := Lib.hid (HF2.out.trans hF3)
    have HR3 := Lib.hid hR3
    have HT3 := Lib.hid (hT3.imp (D' := fun k => w.heap.size < k) fun k _ hk => Nat.lt_of_lt_of_le hz3 hk)
    have HA := Lib.hid (show Agree L X (t3, 0) i3 nm3 k3 from by rw [hX.out]; exact agree_zero hA3)
    obtain ⟨r0, r1, r2, r3, rf⟩ := cells4 hrb3
    have Hrb3 := Lib.hid hrb3
    clear hT3 hR3 hF3 hA3 hrb3 HR2 HF2 Hrb2 HK2 hX hz3
    generalize hBe : w.heap.size = B at *
    have HBe := Lib.hid hBe
    clear hBe
    go_wp2
    (try simp only [Exit.inBlock, Exit.then])
    exact fin_spq rfl rfl HR3.out HF3.out Hrb3.out (Nat.le_of_eq HBe.out) (by rw [HBe.out]; exact hlt) HT3.out (fun k hk => by have := HBe.out; omega) rfl (by omega) HA.out
  have e3 := Lib.hid (HX.out.trans (if_neg h3))
  obtain ⟨x3, _⟩ := ieq_no (a := T0.kind) 3 (by omega)
  clear HX
  by_cases h2 : T0.kind = 2
  · obtain ⟨x2, _⟩ := ieq_yes (a := T0.kind) 2 (by omega)
    have hX := Lib.hid (e3.out.trans (if_pos h2))
    have hil := Hki.out (by omega)
    have c2 : W1.cell? ⟨r, 2, none⟩ = some (.int .i64 (i : Nat)) := by rw [HR.out.cell]; rfl
    have f2 := HR.out.free 2
    have HR2 := Lib.hid (HR.out.step hil)
    have HF2 := Lib.hid (HF.out.set (p := ⟨r, 2, none⟩) (.inl rfl) (.int .i64 ((i : Int) + 1)))
    have Hrb2 := Lib.hid ((Below.heap_setCell W1 ⟨r, 2, none⟩ (.int .i64 ((i : Int) + 1)) w.heap.size hn1).trans Hrb.out)
    have HK2 := Lib.hid ((Below.heap_setCell W1 ⟨r, 2, none⟩ (.int .i64 ((i : Int) + 1)) w1.heap.size hn2).trans HK.out)
    clear HR HF Hrb HK
    have kb := variable_c HR2.out (by omega) T0.text
    clear e3 h2 h3
    obtain ⟨j0, j1, j2, j3, _⟩ := cells4 HK2.out
    go_wp2_with fail
    refine kb.mono ?_
    clear kb
    rintro en w3 ⟨t3, a3, i3, nv3, nm3, p3, k3, rfl, hT3, hi3, hR3, hF3, hA3⟩
    obtain ⟨va, vm, vc, rfl⟩ := hT3.shape
    have hrb3 := keep hF3 HR2.out (t := 25) (by decide) (by decide) _ _ _ Hrb2.out
    have hz3 := lt_of Hrb2.out
    have HF3 := Lib.hid (HF2.out.trans hF3)
    have HR3 := Lib.hid hR3
    have HT3 := Lib.hid (hT3.imp (D' := fun k => w.heap.size < k) fun k _ hk => Nat.lt_of_lt_of_le hz3 hk)
    have HA := Lib.hid (show Agree L X (t3, 0) i3 nm3 k3 from by rw [hX.out]; exact agree_zero hA3)
    obtain ⟨r0, r1, r2, r3, rf⟩ := cells4 hrb3
    have Hrb3 := Lib.hid hrb3
    clear hT3 hR3 hF3 hA3 hrb3 HR2 HF2 Hrb2 HK2 hX hz3
    generalize hBe : w.heap.size = B at *
    have HBe := Lib.hid hBe
    clear hBe
    go_wp2
    (try simp only [Exit.inBlock, Exit.then])
    exact fin_spq rfl rfl HR3.out HF3.out Hrb3.out (Nat.le_of_eq HBe.out) (by rw [HBe.out]; exact hlt) HT3.out (fun k hk => by have := HBe.out; omega) rfl (by omega) HA.out
  have e2 := Lib.hid (e3.out.trans (if_neg h2))
  obtain ⟨x2, _⟩ := ieq_no (a := T0.kind) 2 (by omega)
  clear e3
  by_cases h4 : T0.kind = 4
  · obtain ⟨x4, _⟩ := ieq_yes (a := T0.kind) 4 (by omega)
    have hX := Lib.hid (e2.out.trans (if_pos (.inl h4)))
    have hil := Hki.out (by omega)
    have c2 : W1.cell? ⟨r, 2, none⟩ = some (.int .i64 (i : Nat)) := by rw [HR.out.cell]; rfl
    have f2 := HR.out.free 2
    have HR2 := Lib.hid (HR.out.step hil)
    have HF2 := Lib.hid (HF.out.set (p := ⟨r, 2, none⟩) (.inl rfl) (.int .i64 ((i : Int) + 1)))
    have Hrb2 := Lib.hid ((Below.heap_setCell W1 ⟨r, 2, none⟩ (.int .i64 ((i : Int) + 1)) w.heap.size hn1).trans Hrb.out)
    have HK2 := Lib.hid ((Below.heap_setCell W1 ⟨r, 2, none⟩ (.int .i64 ((i : Int) + 1)) w1.heap.size hn2).trans HK.out)
    clear HR HF Hrb HK
    clear e2 h2 h3 h4
    have kx := HW.out 1200 (i + 1) nv nm p _ (by decide) (by decide) HR2.out
    go_wp2_with fail
    refine kx.mono ?_
    rintro en w3 ⟨t3, a3, i3, nv3, nm3, p3, k3, rfl, hT3, hi3, hR3, hF3, hA3⟩
    obtain ⟨va, vm, vc, rfl⟩ := hT3.shape
    have hz3 := lt_of Hrb2.out
    have hb4 := (Below.refl w3.heap.size w3).alloc (Nat.le_refl _) (.cells #[.int .i64 (t3.k : Nat), .int .i64 t3.n, .string (bs t3.s), .slice va vm vc] 25)
    have Hrb := Lib.hid ((hb4.block _ (Nat.lt_of_lt_of_le hz3 hF3.size)).trans (keep hF3 HR2.out (t := 25) (by decide) (by decide) _ _ _ Hrb2.out))
    have HF := Lib.hid ((HF2.out.trans hF3).trans (Fr.of_below hb4))
    have HR := Lib.hid (hR3.stay hb4)
    have HT := Lib.hid ((hT3.imp (D' := fun k => w.heap.size < k) fun k _ hk => Nat.lt_of_lt_of_le hz3 hk).kept (Kt.below hb4))
    have HBx := Lib.hid (heap_alloc_new w3 (.cells #[.int .i64 (t3.k : Nat), .int .i64 t3.n, .string (bs t3.s), .slice va vm vc] 25))
    have hz4 : w.heap.size < w3.heap.size := Nat.lt_of_lt_of_le hz3 hF3.size
    clear hb4 hT3 hR3 hF3 kx HR2 HF2 Hrb2 HK2 c2 f2 hz3
    by_cases hk3 : k3 = 0
    · subst hk3
      have HXm := Lib.hid (show X = (if isM (nx ((ab L).drop i3)) [41] = true then .ok ((t3, 0), ((ab L).drop (i3 + 1), nm3)) else .error 50) from by
        rw [hX.out]
        unfold bracketP
        rw [hA3.ok rfl]
        unfold expectP
        dsimp only
        rw [tail_drop]
        cases isM (nx ((ab L).drop i3)) [41] <;> rfl)
      have kq := must_c HR.out [41]
      rw [show bs [41] = ⟨#[41]⟩ from rfl] at kq
      clear hA3 hX
      go_wp2_with fail
      refine kq.mono ?_
      rintro en w5 ⟨rfl, hF5, h5⟩
      have HBx5 := Lib.hid (keep hF5 HR.out (t := 25) (by decide) (by decide) _ _ _ HBx.out)
      have Hrb5 := Lib.hid (keep hF5 HR.out (t := 25) (by decide) (by decide) _ _ _ Hrb.out)
      have HT5 := Lib.hid (HT.out.kept (keep hF5 HR.out (by decide) (by decide)))
      have HF5 := Lib.hid (HF.out.trans hF5)
      rcases h5 with ⟨hmm, hR5⟩ | ⟨hmm, pp, hR5⟩
      · have HA := Lib.hid (show Agree L X (t3, 0) (i3 + 1) nm3 0 from agree_ok (HXm.out.trans (if_pos hmm)))
        have HR5 := Lib.hid hR5
        clear hmm hR5 hF5 kq HR HF Hrb HBx HT HXm
        have HR := HR5
        have HF := HF5
        have Hrb := Hrb5
        have HBx := HBx5
        have HT := HT5
        clear HR5 HF5 Hrb5 HBx5 HT5
        obtain ⟨y0, y1, y2, y3, _⟩ := cells4 HBx.out
        obtain ⟨r0, r1, r2, r3, rf⟩ := cells4 Hrb.out
        have hne : ¬ w3.heap.size = w.heap.size := by omega
        generalize hBe : w.heap.size = B at *
        have HBe := Lib.hid hBe
        clear hBe
        go_wp2
        (try simp only [Exit.inBlock, Exit.then])
        exact fin_spq rfl rfl HR.out HF.out Hrb.out (Nat.le_of_eq HBe.out) (by rw [HBe.out]; exact hlt) HT.out (fun k hk => by have := HBe.out; omega) rfl (by omega) HA.out
      · have HA := Lib.hid (show Agree L X (t3, 0) i3 nm3 50 from agree_bad (HXm.out.trans (if_neg (by rw [hmm]; decide))) (by decide))
        have HR5 := Lib.hid hR5
        clear hmm hR5 hF5 kq HR HF Hrb HBx HT HXm
        have HR := HR5
        have HF := HF5
        have Hrb := Hrb5
        have HBx := HBx5
        have HT := HT5
        clear HR5 HF5 Hrb5 HBx5 HT5
        obtain ⟨y0, y1, y2, y3, _⟩ := cells4 HBx.out
        obtain ⟨r0, r1, r2, r3, rf⟩ := cells4 Hrb.out
        have hne : ¬ w3.heap.size = w.heap.size := by omega
        generalize hBe : w.heap.size = B at *
        have HBe := Lib.hid hBe
        clear hBe
        go_wp2
        (try simp only [Exit.inBlock, Exit.then])
        exact fin_spq rfl rfl HR.out HF.out Hrb.out (Nat.le_of_eq HBe.out) (by rw [HBe.out]; exact hlt) HT.out (fun k hk => by have := HBe.out; omega) rfl (by omega) HA.out
    · have HA := Lib.hid (show Agree L X (t3, 0) i3 nm3 k3 from agree_bad (by
        rw [hX.out]
        unfold bracketP
        rw [hA3.bad hk3]
        rfl) hk3)
      have kq := must_bad HR.out hk3 [41]
      rw [show bs [41] = ⟨#[41]⟩ from rfl] at kq
      clear hA3 hX hk3
      go_wp2_with fail
      refine kq.mono ?_
      rintro en w5 ⟨rfl, hw5⟩
      rw [← hw5] at HR HF HT HBx Hrb
      clear kq hw5
      obtain ⟨y0, y1, y2, y3, _⟩ := cells4 HBx.out
      obtain ⟨r0, r1, r2, r3, rf⟩ := cells4 Hrb.out
      have hne : ¬ w3.heap.size = w.heap.size := by omega
      generalize hBe : w.heap.size = B at *
      have HBe := Lib.hid hBe
      clear hBe
      go_wp2
      (try simp only [Exit.inBlock, Exit.then])
      exact fin_spq rfl rfl HR.out HF.out Hrb.out (Nat.le_of_eq HBe.out) (by rw [HBe.out]; exact hlt) HT.out (fun k hk => by have := HBe.out; omega) rfl (by omega) HA.out
  obtain ⟨x4, _⟩ := ieq_no (a := T0.kind) 4 (by omega)
  have km := mark_c HR.out [40]
  rw [show bs [40] = ⟨#[40]⟩ from rfl] at km
  go_wp2_with fail
  refine km.mono ?_
  clear km
  rintro en w4 ⟨rfl, hb⟩
  have HR' := Lib.hid (HR.out.stay hb)
  have HF' := Lib.hid (HF.out.trans (Fr.of_below hb))
  have HK' := Lib.hid ((hb.block _ (lt_of HK.out)).trans HK.out)
  have Hrb' := Lib.hid ((hb.block _ (lt_of Hrb.out)).trans Hrb.out)
  clear hb HR HF HK Hrb
  have HR := HR'
  have HF := HF'
  have HK := HK'
  have Hrb := Hrb'
  clear HR' HF' HK' Hrb'
  obtain ⟨k0, k1, k2, k3, _⟩ := cells4 HK.out
  rcases hq : isM (nx ((ab L).drop i)) [40] with _ | _
  rotate_left
  · have hX := Lib.hid (e2.out.trans (if_pos (.inr hq)))
    have hil := isM_lt hq
    have c2 : w4.cell? ⟨r, 2, none⟩ = some (.int .i64 (i : Nat)) := by rw [HR.out.cell]; rfl
    have f2 := HR.out.free 2
    have HR2 := Lib.hid (HR.out.step hil)
    have HF2 := Lib.hid (HF.out.set (p := ⟨r, 2, none⟩) (.inl rfl) (.int .i64 ((i : Int) + 1)))
    have Hrb2 := Lib.hid ((Below.heap_setCell w4 ⟨r, 2, none⟩ (.int .i64 ((i : Int) + 1)) w.heap.size hn1).trans Hrb.out)
    have HK2 := Lib.hid ((Below.heap_setCell w4 ⟨r, 2, none⟩ (.int .i64 ((i : Int) + 1)) w1.heap.size hn2).trans HK.out)
    clear HR HF Hrb HK
    clear e2 h2 h3 h4
    have kx := HW.out 1200 (i + 1) nv nm p _ (by decide) (by decide) HR2.out
    go_wp2_with fail
    refine kx.mono ?_
    rintro en w3 ⟨t3, a3, i3, nv3, nm3, p3, k3, rfl, hT3, hi3, hR3, hF3, hA3⟩
    obtain ⟨va, vm, vc, rfl⟩ := hT3.shape
    have hz3 := lt_of Hrb2.out
    have hb4 := (Below.refl w3.heap.size w3).alloc (Nat.le_refl _) (.cells #[.int .i64 (t3.k : Nat), .int .i64 t3.n, .string (bs t3.s), .slice va vm vc] 25)
    have Hrb := Lib.hid ((hb4.block _ (Nat.lt_of_lt_of_le hz3 hF3.size)).trans (keep hF3 HR2.out (t := 25) (by decide) (by decide) _ _ _ Hrb2.out))
    have HF := Lib.hid ((HF2.out.trans hF3).trans (Fr.of_below hb4))
    have HR := Lib.hid (hR3.stay hb4)
    have HT := Lib.hid ((hT3.imp (D' := fun k => w.heap.size < k) fun k _ hk => Nat.lt_of_lt_of_le hz3 hk).kept (Kt.below hb4))
    have HBx := Lib.hid (heap_alloc_new w3 (.cells #[.int .i64 (t3.k : Nat), .int .i64 t3.n, .string (bs t3.s), .slice va vm vc] 25))
    have hz4 : w.heap.size < w3.heap.size := Nat.lt_of_lt_of_le hz3 hF3.size
    clear hb4 hT3 hR3 hF3 kx HR2 HF2 Hrb2 HK2 c2 f2 hz3
    by_cases hk3 : k3 = 0
    · subst hk3
      have HXm := Lib.hid (show X = (if isM (nx ((ab L).drop i3)) [41] = true then .ok ((t3, 0), ((ab L).drop (i3 + 1), nm3)) else .error 50) from by
        rw [hX.out]
        unfold bracketP
        rw [hA3.ok rfl]
        unfold expectP
        dsimp only
        rw [tail_drop]
        cases isM (nx ((ab L).drop i3)) [41] <;> rfl)
      have kq := must_c HR.out [41]
      rw [show bs [41] = ⟨#[41]⟩ from rfl] at kq
      clear hA3 hX
      go_wp2_with fail
      refine kq.mono ?_
      rintro en w5 ⟨rfl, hF5, h5⟩
      have HBx5 := Lib.hid (keep hF5 HR.out (t := 25) (by decide) (by decide) _ _ _ HBx.out)
      have Hrb5 := Lib.hid (keep hF5 HR.out (t := 25) (by decide) (by decide) _ _ _ Hrb.out)
      have HT5 := Lib.hid (HT.out.kept (keep hF5 HR.out (by decide) (by decide)))
      have HF5 := Lib.hid (HF.out.trans hF5)
      rcases h5 with ⟨hmm, hR5⟩ | ⟨hmm, pp, hR5⟩
      · have HA := Lib.hid (show Agree L X (t3, 0) (i3 + 1) nm3 0 from agree_ok (HXm.out.trans (if_pos hmm)))
        have HR5 := Lib.hid hR5
        clear hmm hR5 hF5 kq HR HF Hrb HBx HT HXm
        have HR := HR5
        have HF := HF5
        have Hrb := Hrb5
        have HBx := HBx5
        have HT := HT5
        clear HR5 HF5 Hrb5 HBx5 HT5
        obtain ⟨y0, y1, y2, y3, _⟩ := cells4 HBx.out
        obtain ⟨r0, r1, r2, r3, rf⟩ := cells4 Hrb.out
        have hne : ¬ w3.heap.size = w.heap.size := by omega
        generalize hBe : w.heap.size = B at *
        have HBe := Lib.hid hBe
        clear hBe
        go_wp2
        (try simp only [Exit.inBlock, Exit.then])
        exact fin_spq rfl rfl HR.out HF.out Hrb.out (Nat.le_of_eq HBe.out) (by rw [HBe.out]; exact hlt) HT.out (fun k hk => by have := HBe.out; omega) rfl (by omega) HA.out
      · have HA := Lib.hid (show Agree L X (t3, 0) i3 nm3 50 from agree_bad (HXm.out.trans (if_neg (by rw [hmm]; decide))) (by decide))
        have HR5 := Lib.hid hR5
        clear hmm hR5 hF5 kq HR HF Hrb HBx HT HXm
        have HR := HR5
        have HF := HF5
        have Hrb := Hrb5
        have HBx := HBx5
        have HT := HT5
        clear HR5 HF5 Hrb5 HBx5 HT5
        obtain ⟨y0, y1, y2, y3, _⟩ := cells4 HBx.out
        obtain ⟨r0, r1, r2, r3, rf⟩ := cells4 Hrb.out
        have hne : ¬ w3.heap.size = w.heap.size := by omega
        generalize hBe : w.heap.size = B at *
        have HBe := Lib.hid hBe
        clear hBe
        go_wp2
        (try simp only [Exit.inBlock, Exit.then])
        exact fin_spq rfl rfl HR.out HF.out Hrb.out (Nat.le_of_eq HBe.out) (by rw [HBe.out]; exact hlt) HT.out (fun k hk => by have := HBe.out; omega) rfl (by omega) HA.out
    · have HA := Lib.hid (show Agree L X (t3, 0) i3 nm3 k3 from agree_bad (by
        rw [hX.out]
        unfold bracketP
        rw [hA3.bad hk3]
        rfl) hk3)
      have kq := must_bad HR.out hk3 [41]
      rw [show bs [41] = ⟨#[41]⟩ from rfl] at kq
      clear hA3 hX hk3
      go_wp2_with fail
      refine kq.mono ?_
      rintro en w5 ⟨rfl, hw5⟩
      rw [← hw5] at HR HF HT HBx Hrb
      clear kq hw5
      obtain ⟨y0, y1, y2, y3, _⟩ := cells4 HBx.out
      obtain ⟨r0, r1, r2, r3, rf⟩ := cells4 Hrb.out
      have hne : ¬ w3.heap.size = w.heap.size := by omega
      generalize hBe : w.heap.size = B at *
      have HBe := Lib.hid hBe
      clear hBe
      go_wp2
      (try simp only [Exit.inBlock, Exit.then])
      exact fin_spq rfl rfl HR.out HF.out Hrb.out (Nat.le_of_eq HBe.out) (by rw [HBe.out]; exact hlt) HT.out (fun k hk => by have := HBe.out; omega) rfl (by omega) HA.out
  have hm40 := hq
  clear x4
  have hz5 : w.heap.size < w1.heap.size := by omega
  have e4 := Lib.hid (e2.out.trans (if_neg (fun h => h.elim h4 (by rw [hm40]; decide))))
  clear hm40 hq e2
  have km := mark_c HR.out [91]
  rw [show bs [91] = ⟨#[91]⟩ from rfl] at km
  go_wp2_with fail
  refine km.mono ?_
  clear km
  rintro en w5 ⟨rfl, hb⟩
  have HR' := Lib.hid (HR.out.stay hb)
  have HF' := Lib.hid (HF.out.trans (Fr.of_below hb))
  have HK' := Lib.hid ((hb.block _ (lt_of HK.out)).trans HK.out)
  have Hrb' := Lib.hid ((hb.block _ (lt_of Hrb.out)).trans Hrb.out)
  clear hb HR HF HK Hrb
  have HR := HR'
  have HF := HF'
  have HK := HK'
  have Hrb := Hrb'
  clear HR' HF' HK' Hrb'
  obtain ⟨k0, k1, k2, k3, _⟩ := cells4 HK.out
  rcases hq : isM (nx ((ab L).drop i)) [91] with _ | _
  rotate_left
  · have hX := Lib.hid (e4.out.trans (if_pos hq))
    have hil := isM_lt hq
    have c2 : w5.cell? ⟨r, 2, none⟩ = some (.int .i64 (i : Nat)) := by rw [HR.out.cell]; rfl
    have f2 := HR.out.free 2
    have HR2 := Lib.hid (HR.out.step hil)
    have HF2 := Lib.hid (HF.out.set (p := ⟨r, 2, none⟩) (.inl rfl) (.int .i64 ((i : Int) + 1)))
    have Hrb2 := Lib.hid ((Below.heap_setCell w5 ⟨r, 2, none⟩ (.int .i64 ((i : Int) + 1)) w.heap.size hn1).trans Hrb.out)
    have HK2 := Lib.hid ((Below.heap_setCell w5 ⟨r, 2, none⟩ (.int .i64 ((i : Int) + 1)) w1.heap.size hn2).trans HK.out)
    clear HR HF Hrb HK
    have kb := list_c HR2.out HW.out hd
    clear e4 h2 h3 h4
    go_wp2_with fail
    refine kb.mono ?_
    clear kb
    rintro en w3 ⟨t3, a3, i3, nv3, nm3, p3, k3, rfl, hT3, hi3, hR3, hF3, hA3⟩
    obtain ⟨va, vm, vc, rfl⟩ := hT3.shape
    have hrb3 := keep hF3 HR2.out (t := 25) (by decide) (by decide) _ _ _ Hrb2.out
    have hz3 := lt_of Hrb2.out
    have HF3 := Lib.hid (HF2.out.trans hF3)
    have HR3 := Lib.hid hR3
    have HT3 := Lib.hid (hT3.imp (D' := fun k => w.heap.size < k) fun k _ hk => Nat.lt_of_lt_of_le hz3 hk)
    have HA := Lib.hid (show Agree L X (t3, 0) i3 nm3 k3 from by rw [hX.out]; exact agree_zero hA3)
    obtain ⟨r0, r1, r2, r3, rf⟩ := cells4 hrb3
    have Hrb3 := Lib.hid hrb3
    clear hT3 hR3 hF3 hA3 hrb3 HR2 HF2 Hrb2 HK2 hX hz3
    generalize hBe : w.heap.size = B at *
    have HBe := Lib.hid hBe
    clear hBe
    go_wp2
    (try simp only [Exit.inBlock, Exit.then])
    exact fin_spq rfl rfl HR3.out HF3.out Hrb3.out (Nat.le_of_eq HBe.out) (by rw [HBe.out]; exact hlt) HT3.out (fun k hk => by have := HBe.out; omega) rfl (by omega) HA.out
  have e5 := Lib.hid (e4.out.trans (if_neg (by rw [hq]; decide)))
  clear hq e4
  have km := mark_c HR.out [123]
  rw [show bs [123] = ⟨#[123]⟩ from rfl] at km
  go_wp2_with fail
  refine km.mono ?_
  clear km
  rintro en w6 ⟨rfl, hb⟩
  have HR' := Lib.hid (HR.out.stay hb)
  have HF' := Lib.hid (HF.out.trans (Fr.of_below hb))
  have HK' := Lib.hid ((hb.block _ (lt_of HK.out)).trans HK.out)
  have Hrb' := Lib.hid ((hb.block _ (lt_of Hrb.out)).trans Hrb.out)
  clear hb HR HF HK Hrb
  have HR := HR'
  have HF := HF'
  have HK := HK'
  have Hrb := Hrb'
  clear HR' HF' HK' Hrb'
  obtain ⟨k0, k1, k2, k3, _⟩ := cells4 HK.out
  rcases hq : isM (nx ((ab L).drop i)) [123] with _ | _
  rotate_left
  · have hX := Lib.hid (e5.out.trans (if_pos hq))
    have hil := isM_lt hq
    have c2 : w6.cell? ⟨r, 2, none⟩ = some (.int .i64 (i : Nat)) := by rw [HR.out.cell]; rfl
    have f2 := HR.out.free 2
    have HR2 := Lib.hid (HR.out.step hil)
    have HF2 := Lib.hid (HF.out.set (p := ⟨r, 2, none⟩) (.inl rfl) (.int .i64 ((i : Int) + 1)))
    have Hrb2 := Lib.hid ((Below.heap_setCell w6 ⟨r, 2, none⟩ (.int .i64 ((i : Int) + 1)) w.heap.size hn1).trans Hrb.out)
    have HK2 := Lib.hid ((Below.heap_setCell w6 ⟨r, 2, none⟩ (.int .i64 ((i : Int) + 1)) w1.heap.size hn2).trans HK.out)
    clear HR HF Hrb HK
    have km := mark_c HR2.out [125]
    rw [show bs [125] = ⟨#[125]⟩ from rfl] at km
    clear e5 h2 h3 h4
    rcases hq2 : isM (nx ((ab L).drop (i + 1))) [125] with _ | _
    · rw [hq2] at km
      have hX' := Lib.hid (show X = zeroP (match bracketP x [125] ((ab L).drop (i + 1), nm) with
          | .error e => .error e
          | .ok (t, s') => .ok (.cmp [123, 125] [t], s')) from by rw [hX.out, if_neg (by rw [hq2]; decide)])
      clear hX hq2 hq
      have hX := hX'
      clear hX'
      go_wp2_with fail
      refine km.mono ?_
      clear km
      rintro en w7 ⟨rfl, hb⟩
      have HR2' := Lib.hid (HR2.out.stay hb)
      have HF2' := Lib.hid (HF2.out.trans (Fr.of_below hb))
      have HK2' := Lib.hid ((hb.block _ (lt_of HK2.out)).trans HK2.out)
      have Hrb2' := Lib.hid ((hb.block _ (lt_of Hrb2.out)).trans Hrb2.out)
      clear hb HR2 HF2 HK2 Hrb2 c2 f2
      have HR2 := HR2'
      have HF2 := HF2'
      have HK2 := HK2'
      have Hrb2 := Hrb2'
      clear HR2' HF2' HK2' Hrb2'
      have c2 : True := trivial
      have f2 : True := trivial
      have kx := HW.out 1200 (i + 1) nv nm p _ (by decide) (by decide) HR2.out
      go_wp2_with fail
      refine kx.mono ?_
      rintro en w3 ⟨t3, a3, i3, nv3, nm3, p3, k3, rfl, hT3, hi3, hR3, hF3, hA3⟩
      obtain ⟨va, vm, vc, rfl⟩ := hT3.shape
      have hz3 := lt_of Hrb2.out
      have hb4 := (Below.refl w3.heap.size w3).alloc (Nat.le_refl _) (.cells #[.int .i64 (t3.k : Nat), .int .i64 t3.n, .string (bs t3.s), .slice va vm vc] 25)
      have Hrb := Lib.hid ((hb4.block _ (Nat.lt_of_lt_of_le hz3 hF3.size)).trans (keep hF3 HR2.out (t := 25) (by decide) (by decide) _ _ _ Hrb2.out))
      have HF := Lib.hid ((HF2.out.trans hF3).trans (Fr.of_below hb4))
      have HR := Lib.hid (hR3.stay hb4)
      have HT := Lib.hid ((hT3.imp (D' := fun k => w.heap.size < k) fun k _ hk => Nat.lt_of_lt_of_le hz3 hk).kept (Kt.below hb4))
      have HBx := Lib.hid (heap_alloc_new w3 (.cells #[.int .i64 (t3.k : Nat), .int .i64 t3.n, .string (bs t3.s), .slice va vm vc] 25))
      have hz4 : w.heap.size < w3.heap.size := Nat.lt_of_lt_of_le hz3 hF3.size
      clear hb4 hT3 hR3 hF3 kx HR2 HF2 Hrb2 HK2 c2 f2 hz3
      by_cases hk3 : k3 = 0
      · subst hk3
        have HXm := Lib.hid (show X = (if isM (nx ((ab L).drop i3)) [125] = true then .ok ((.cmp [123, 125] [t3], 0), ((ab L).drop (i3 + 1), nm3)) else .error 50) from by
          rw [hX.out]
          unfold bracketP
          rw [hA3.ok rfl]
          unfold expectP
          dsimp only
          rw [tail_drop]
          cases isM (nx ((ab L).drop i3)) [125] <;> rfl)
        have kq := must_c HR.out [125]
        rw [show bs [125] = ⟨#[125]⟩ from rfl] at kq
        clear hA3 hX
        go_wp2_with fail
        refine kq.mono ?_
        rintro en w5 ⟨rfl, hF5, h5⟩
        have HBx5 := Lib.hid (keep hF5 HR.out (t := 25) (by decide) (by decide) _ _ _ HBx.out)
        have Hrb5 := Lib.hid (keep hF5 HR.out (t := 25) (by decide) (by decide) _ _ _ Hrb.out)
        have HT5 := Lib.hid (HT.out.kept (keep hF5 HR.out (by decide) (by decide)))
        have HF5 := Lib.hid (HF.out.trans hF5)
        rcases h5 with ⟨hmm, hR5⟩ | ⟨hmm, pp, hR5⟩
        · have HA := Lib.hid (show Agree L X (.cmp [123, 125] [t3], 0) (i3 + 1) nm3 0 from agree_ok (HXm.out.trans (if_pos hmm)))
          have HR5 := Lib.hid hR5
          clear hmm hR5 hF5 kq HR HF Hrb HBx HT HXm
          have HR := HR5
          have HF := HF5
          have Hrb := Hrb5
          have HBx := HBx5
          have HT := HT5
          clear HR5 HF5 Hrb5 HBx5 HT5
          obtain ⟨y0, y1, y2, y3, _⟩ := cells4 HBx.out
          have ko := one_c HT.out (fun k hk => Nat.lt_of_lt_of_le (lt_of Hrb.out) hk) [123, 125]
          rw [show bs [123, 125] = ⟨#[123, 125]⟩ from rfl] at ko
          go_wp2_with fail
          refine ko.mono ?_
          rintro en w8 ⟨v8, rfl, hT8, hb8⟩
          obtain ⟨vb, vn, vd, rfl⟩ := hT8.shape
          have HR8 := Lib.hid (HR.out.stay hb8)
          have HF8 := Lib.hid (HF.out.trans (Fr.of_below hb8))
          have hrb8 := (hb8.block _ (lt_of Hrb.out)).trans Hrb.out
          obtain ⟨r0, r1, r2, r3, rf⟩ := cells4 hrb8
          have HT8 := Lib.hid hT8
          have Hrb8 := Lib.hid hrb8
          clear hb8 hT8 hrb8 HR HF Hrb HBx HT ko y0 y1 y2 y3
          generalize hBe : w.heap.size = B at *
          have HBe := Lib.hid hBe
          clear hBe
          go_wp2
          (try simp only [Exit.inBlock, Exit.then])
          exact fin_spq (t := .cmp [123, 125] [t3]) rfl rfl HR8.out HF8.out Hrb8.out (Nat.le_of_eq HBe.out) (by rw [HBe.out]; exact hlt) HT8.out (fun k hk => by have := HBe.out; omega) rfl (by omega) HA.out
        · have HA := Lib.hid (show Agree L X (.cmp [123, 125] [t3], 0) i3 nm3 50 from agree_bad (HXm.out.trans (if_neg (by rw [hmm]; decide))) (by decide))
          have HR5 := Lib.hid hR5
          clear hmm hR5 hF5 kq HR HF Hrb HBx HT HXm
          have HR := HR5
          have HF := HF5
          have Hrb := Hrb5
          have HBx := HBx5
          have HT := HT5
          clear HR5 HF5 Hrb5 HBx5 HT5
          obtain ⟨y0, y1, y2, y3, _⟩ := cells4 HBx.out
          have ko := one_c HT.out (fun k hk => Nat.lt_of_lt_of_le (lt_of Hrb.out) hk) [123, 125]
          rw [show bs [123, 125] = ⟨#[123, 125]⟩ from rfl] at ko
          go_wp2_with fail
          refine ko.mono ?_
          rintro en w8 ⟨v8, rfl, hT8, hb8⟩
          obtain ⟨vb, vn, vd, rfl⟩ := hT8.shape
          have HR8 := Lib.hid (HR.out.stay hb8)
          have HF8 := Lib.hid (HF.out.trans (Fr.of_below hb8))
          have hrb8 := (hb8.block _ (lt_of Hrb.out)).trans Hrb.out
          obtain ⟨r0, r1, r2, r3, rf⟩ := cells4 hrb8
          have HT8 := Lib.hid hT8
          have Hrb8 := Lib.hid hrb8
          clear hb8 hT8 hrb8 HR HF Hrb HBx HT ko y0 y1 y2 y3
          generalize hBe : w.heap.size = B at *
          have HBe := Lib.hid hBe
          clear hBe
          go_wp2
          (try simp only [Exit.inBlock, Exit.then])
          exact fin_spq (t := .cmp [123, 125] [t3]) rfl rfl HR8.out HF8.out Hrb8.out (Nat.le_of_eq HBe.out) (by rw [HBe.out]; exact hlt) HT8.out (fun k hk => by have := HBe.out; omega) rfl (by omega) HA.out
      · have HA := Lib.hid (show Agree L X (.cmp [123, 125] [t3], 0) i3 nm3 k3 from agree_bad (by
          rw [hX.out]
          unfold bracketP
          rw [hA3.bad hk3]
          rfl) hk3)
        have kq := must_bad HR.out hk3 [125]
        rw [show bs [125] = ⟨#[125]⟩ from rfl] at kq
        clear hA3 hX hk3
        go_wp2_with fail
        refine kq.mono ?_
        rintro en w5 ⟨rfl, hw5⟩
        rw [← hw5] at HR HF HT HBx Hrb
        clear kq hw5
        obtain ⟨y0, y1, y2, y3, _⟩ := cells4 HBx.out
        have ko := one_c HT.out (fun k hk => Nat.lt_of_lt_of_le (lt_of Hrb.out) hk) [123, 125]
        rw [show bs [123, 125] = ⟨#[123, 125]⟩ from rfl] at ko
        go_wp2_with fail
        refine ko.mono ?_
        rintro en w8 ⟨v8, rfl, hT8, hb8⟩
        obtain ⟨vb, vn, vd, rfl⟩ := hT8.shape
        have HR8 := Lib.hid (HR.out.stay hb8)
        have HF8 := Lib.hid (HF.out.trans (Fr.of_below hb8))
        have hrb8 := (hb8.block _ (lt_of Hrb.out)).trans Hrb.out
        obtain ⟨r0, r1, r2, r3, rf⟩ := cells4 hrb8
        have HT8 := Lib.hid hT8
        have Hrb8 := Lib.hid hrb8
        clear hb8 hT8 hrb8 HR HF Hrb HBx HT ko y0 y1 y2 y3
        generalize hBe : w.heap.size = B at *
        have HBe := Lib.hid hBe
        clear hBe
        go_wp2
        (try simp only [Exit.inBlock, Exit.then])
        exact fin_spq (t := .cmp [123, 125] [t3]) rfl rfl HR8.out HF8.out Hrb8.out (Nat.le_of_eq HBe.out) (by rw [HBe.out]; exact hlt) HT8.out (fun k hk => by have := HBe.out; omega) rfl (by omega) HA.out
    · rw [hq2] at km
      have hX' := Lib.hid (show X = .ok ((.leaf 3 0 [123, 125], 0), ((ab L).drop (i + 2), nm)) from by rw [hX.out, if_pos hq2]; rfl)
      have hil2 := isM_lt hq2
      have iw2 : IntKind.i64.wrap (((i + 1 : Nat) : Int) + 1) = ((i + 1 : Nat) : Int) + 1 := wrap1' (by omega)
      clear hX hq2 hq
      go_wp2_with fail
      refine km.mono ?_
      clear km
      rintro en w7 ⟨rfl, hb⟩
      have hR7 := HR2.out.stay hb
      have hF7 := HF2.out.trans (Fr.of_below hb)
      have hrb7 := (hb.block _ (lt_of Hrb2.out)).trans Hrb2.out
      have c7 : w7.cell? ⟨r, 2, none⟩ = some (.int .i64 ((i : Int) + 1)) := by rw [hR7.cell]; rfl
      have f7 := hR7.free 2
      have iw3 : IntKind.i64.wrap ((i : Int) + 1 + 1) = (i : Int) + 1 + 1 := IntWalk.i64_in _ (by omega)
      have HR8 := Lib.hid (show Rr r b S tk L (i + 2) nv nm p 0 (w7.setCell ⟨r, 2, none⟩ (.int .i64 ((i : Int) + 1 + 1))) from hR7.step hil2)
      have HF8 := Lib.hid (hF7.set (p := ⟨r, 2, none⟩) (.inl rfl) (.int .i64 ((i : Int) + 1 + 1)))
      have Hrb8 := Lib.hid ((Below.heap_setCell w7 ⟨r, 2, none⟩ (.int .i64 ((i : Int) + 1 + 1)) w.heap.size hn1).trans hrb7)
      clear hb hR7 hF7 hrb7 HR2 HF2 HK2 Hrb2 c2 f2
      go_wp2_with fail
      refine (atom_c _ _).mono ?_
      rintro en w9 ⟨rfl, hb⟩
      have hrb9 := (hb.block _ (lt_of Hrb8.out)).trans Hrb8.out
      have HF9 := Lib.hid (HF8.out.trans (Fr.of_below hb))
      have HR9 := Lib.hid (HR8.out.stay hb)
      obtain ⟨r0, r1, r2, r3, rf⟩ := cells4 hrb9
      have Hrb9 := Lib.hid hrb9
      clear hb hrb9 HR8 HF8 Hrb8 c7 f7
      generalize hBe : w.heap.size = B at *
      have HBe := Lib.hid hBe
      clear hBe
      go_wp2
      (try simp only [Exit.inBlock, Exit.then])
      exact fin_spq (t := .leaf 3 0 [123, 125]) (D := fun _ => False) rfl rfl HR9.out HF9.out Hrb9.out (Nat.le_of_eq HBe.out) (by rw [HBe.out]; exact hlt) (by rw [Rp]) (fun _ h => h.elim) rfl (by omega) (agree_ok hX'.out)
  have e6 := Lib.hid (e5.out.trans (if_neg (by rw [hq]; decide)))
  clear hq e5
  by_cases h1 : T0.kind = 1
  · obtain ⟨x1, _⟩ := ieq_yes (a := T0.kind) 1 (by omega)
    have hX := Lib.hid (e6.out.trans (if_pos h1))
    have hil := Hki.out (by omega)
    have c2 : w6.cell? ⟨r, 2, none⟩ = some (.int .i64 (i : Nat)) := by rw [HR.out.cell]; rfl
    have f2 := HR.out.free 2
    have HR2 := Lib.hid (HR.out.step hil)
    have HF2 := Lib.hid (HF.out.set (p := ⟨r, 2, none⟩) (.inl rfl) (.int .i64 ((i : Int) + 1)))
    have Hrb2 := Lib.hid ((Below.heap_setCell w6 ⟨r, 2, none⟩ (.int .i64 ((i : Int) + 1)) w.heap.size hn1).trans Hrb.out)
    have HK2 := Lib.hid ((Below.heap_setCell w6 ⟨r, 2, none⟩ (.int .i64 ((i : Int) + 1)) w1.heap.size hn2).trans HK.out)
    clear HR HF Hrb HK
    have kb := named_c HR2.out rfl HW.out hd (HT0.out.symm ▸ h1) hnml most hm1 hm2
    rw [HT0.out] at kb
    unfold tokV at kb
    obtain ⟨j0, j1, j2, j3, _⟩ := cells4 HK2.out
    clear e6 h1 h2 h3 h4
    go_wp2_with fail
    refine kb.mono ?_
    clear kb
    rintro en w9 ⟨t3, q3, a3, i3, nv3, nm3, p3, k3, rfl, hT3, hi3, hR3, hF3, hA3⟩
    obtain ⟨va, vm, vc, rfl⟩ := hT3.shape
    have hrb3 := keep hF3 HR2.out (t := 25) (by decide) (by decide) _ _ _ Hrb2.out
    have hz3 := lt_of Hrb2.out
    have HF3 := Lib.hid (HF2.out.trans hF3)
    have HR3 := Lib.hid hR3
    have HT3 := Lib.hid (hT3.imp (D' := fun k => w.heap.size < k) fun k _ hk => Nat.lt_of_lt_of_le hz3 hk)
    have HA := Lib.hid (show Agree L X (t3, q3) i3 nm3 k3 from by rw [hX.out]; exact hA3)
    obtain ⟨r0, r1, r2, r3, rf⟩ := cells4 hrb3
    have Hrb3 := Lib.hid hrb3
    clear hT3 hR3 hF3 hA3 hrb3 HR2 HF2 Hrb2 HK2 hX hz3
    generalize hBe : w.heap.size = B at *
    have HBe := Lib.hid hBe
    clear hBe
    go_wp2
    (try simp only [Exit.inBlock, Exit.then])
    exact fin_spq rfl rfl HR3.out HF3.out Hrb3.out (Nat.le_of_eq HBe.out) (by rw [HBe.out]; exact hlt) HT3.out (fun k hk => by have := HBe.out; omega) rfl (by omega) HA.out
  · obtain ⟨x1, _⟩ := ieq_no (a := T0.kind) 1 (by omega)
    have hX := Lib.hid (e6.out.trans (if_neg h1))
    have kw := wrong_c HR.out
    clear e6 h1 h2 h3 h4
    go_wp2_with fail
    refine kw.mono ?_
    rintro en w9 ⟨rfl, ⟨pp, hR9⟩, hF9⟩
    have hrb9 := keep hF9 HR.out (t := 25) (by decide) (by decide) _ _ _ Hrb.out
    have HF9 := Lib.hid (HF.out.trans hF9)
    have HR9 := Lib.hid hR9
    obtain ⟨r0, r1, r2, r3, rf⟩ := cells4 hrb9
    have Hrb9 := Lib.hid hrb9
    clear hR9 hF9 hrb9 kw HR HF Hrb HK
    generalize hBe : w.heap.size = B at *
    have HBe := Lib.hid hBe
    clear hBe
    go_wp2
    (try simp only [Exit.inBlock, Exit.then])
    exact fin_spq (t := .leaf 0 0 []) (D := fun _ => False) rfl rfl HR9.out HF9.out Hrb9.out (Nat.le_of_eq HBe.out) (by rw [HBe.out]; exact hlt) (by rw [Rp]) (fun _ h => h.elim) rfl (Nat.le_refl _) (agree_bad hX.out (by decide))
end Go.Proofs.Ytjccohcigopdfaa.rr
end
