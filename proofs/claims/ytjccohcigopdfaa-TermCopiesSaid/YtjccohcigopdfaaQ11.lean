/- The reference's reader: term, whole. -/
import Derived.Test.YtjccohcigopdfaaQ9
import Derived.Test.YtjccohcigopdfaaQ10
set_option linter.unusedVariables false
set_option linter.unusedSimpArgs false
section
/- The reference's reader: term, whole. -/
namespace Go.Proofs.Ytjccohcigopdfaa.rr
open Go.RowKit
open Go.Proofs.Ytjccohcigopdfaa.rd
open Go.Proofs.Ytjccohcigopdfaa.op (bs strC Both Tb progI progP tupI rI)
open Go.Proofs.Ytjccohcigopdfaa.lx (Tok Tk tcell tcells cell_at ieq_yes ieq_no)
set_option maxRecDepth 20000

/-- where something is wrong already: no term -/
theorem term_bad {r b i p k deep : Nat} {S : List UInt8} {tk nv : Value} {L : List Tok} {nm : List (List UInt8)} {w : World} (h : Rr r b S tk L i nv nm p k w) (hk : k ≠ 0) (most : Int) :
    Calls Try.prog 55 #[.pointer (some ⟨r, 0, none⟩), .int .i64 most, .int .i64 (deep : Nat)] w fun en w' => en = .returned (.agg #[.int .i64 0, .int .i64 0, .string ⟨#[]⟩, .slice none 0 0]) ∧ Below w.heap.size w w' := by
  have c5 : (w.alloc (.cells #[.int .i64 0, .int .i64 0, .string ⟨#[]⟩, .slice none 0 0] 25)).cell? ⟨r, 5, none⟩ = some (.int .i64 (k : Nat)) := by rw [(h.alloc _).cell]; rfl
  have hk2 : ((k : Int) == 0) = false := by rw [beq_eq_false_iff_ne]; omega
  clear h hk
  go_enter Try.func55, Try.ntmps55
  go_wp2
  (try simp only [Exit.inBlock, Exit.then])
  refine bodyPost_ret (ret_term rfl _ _ rfl (heap_alloc_new w _)) rfl ?_
  exact ⟨rfl, (Below.refl _ w).alloc (Nat.le_refl _) _⟩
theorem tk_eta (L : List Tok) (n i : Nat) : nx ((ab L).drop i) = ⟨(tkAt L n i).kind, (tkAt L n i).text, (nx ((ab L).drop i)).near⟩ := by
  rw [tkAt_kind, tkAt_text]
theorem infix_one {T0 : Tok} {k : K} (_hk : T0.kind = k.kind) (hx : T0.text = k.text) (h : k.kind = 1 ∨ isM k [44] = true) : infixK k = progI T0.text := by
  unfold infixK; rw [if_pos h, hx]
theorem infix_none {k : K} (h : ¬ (k.kind = 1 ∨ isM k [44] = true)) : infixK k = (0, 0, 0, false) := by
  unfold infixK; rw [if_neg h]
/-- a round's world -/
abbrev Ls (r b : Nat) (S : List UInt8) (tk : Value) (L : List Tok) (i : Nat) (nv : Value) (nm : List (List UInt8)) (p k B0 B7 : Nat) (t : T) (a : Value) (w wr : World) : Prop :=
  Lq r b S tk L i nv nm p k B0 B7 B0 [] [] t a w wr
/-- term has given a term, or whatever -/
theorem sterm_a {r b B0 B7 B9 i i6 p k p6 k6 q : Nat} {S : List UInt8} {tk nv nv6 : Value} {L : List Tok} {nm nm6 : List (List UInt8)} {t u : T} {a a2 : Value} {w W w6 : World} {T0 : Tok} (HS : Ls r b S tk L i nv nm p k B0 B7 t a w W)
    (hk : W.heap[B9]? = some (.cells #[.int .i64 (T0.kind : Nat), .string (bs T0.text), .int .i64 (T0.frm : Nat), .int .i64 (T0.to : Nat)] 73 (0, 0)))
    (hT : Rp (fun k => (W.drewN q).heap.size ≤ k) w6 u a2) (hR : Rr r b S tk L i6 nv6 nm6 p6 k6 w6) (hF : Fr r b (W.drewN q) w6) (h0 : w.heap.size ≤ W.heap.size) :
    Hid (Ls r b S tk L i6 nv6 nm6 p6 k6 B0 B7 t a w w6) ∧ Hid (Rp (fun k => w.heap.size ≤ k ∧ k ≠ B0 ∧ k ≠ B7) w6 u a2) ∧
      (w6.cell? ⟨B9, 1, none⟩ = some (.string (bs T0.text)) ∧ w6.cell? ⟨B7, 0, none⟩ = some (.int .i64 (t.k : Nat)) ∧ w6.cell? ⟨B7, 1, none⟩ = some (.int .i64 t.n) ∧ w6.cell? ⟨B7, 2, none⟩ = some (.string (bs t.s)) ∧ w6.cell? ⟨B7, 3, none⟩ = some a) := by
  have HD := HS.stay (below_drawn W.heap.size W q)
  have h1 := HD.fr' hF hR
  have h2 := keep hF HD.rd (t := 73) (by decide) (by decide) _ _ _ hk
  obtain ⟨c0, c1, c2, c3, _⟩ := cells4 h1.loc
  have z0 := lt_of HS.res
  have z7 := lt_of HS.loc
  exact ⟨Lib.hid h1, Lib.hid (hT.imp fun k _ hk => by have : W.heap.size ≤ k := hk; exact ⟨by omega, by omega, by omega⟩), by rw [cell_at h2]; rfl, c0, c1, c2, c3⟩
set_option maxHeartbeats 8000000 in
theorem term_all {r b : Nat} {S : List UInt8} {tk : Value} {L : List Tok} : ∀ f deep, f + deep = 65 → XOk r b S tk L deep (termP f) := by
  intro f
  induction f with
  | zero =>
    intro deep hd most i nv nm p w h1 h2 hR
    have hdp : (64 : Int) < (deep : Int) := by omega
    have hX : termP 0 most ((ab L).drop i, nm) = .error 52 := rfl
    rw [hX]
    have c5 : (w.alloc (.cells #[.int .i64 0, .int .i64 0, .string ⟨#[]⟩, .slice none 0 0] 25)).cell? ⟨r, 5, none⟩ = some (.int .i64 0) := by rw [(hR.alloc _).cell]; rfl
    have kn := next_c (hR.alloc (.cells #[.int .i64 0, .int .i64 0, .string ⟨#[]⟩, .slice none 0 0] 25))
    have hrb := Lib.hid (heap_alloc_new w (.cells #[.int .i64 0, .int .i64 0, .string ⟨#[]⟩, .slice none 0 0] 25))
    have HF := Lib.hid (Fr.of_below (r := r) (b := b) ((Below.refl w.heap.size w).alloc (Nat.le_refl _) (.cells #[.int .i64 0, .int .i64 0, .string ⟨#[]⟩, .slice none 0 0] 25)))
    have HR := Lib.hid (hR.alloc (.cells #[.int .i64 0, .int .i64 0, .string ⟨#[]⟩, .slice none 0 0] 25))
    have hf := field_f
    have hlt := hR.lt
    clear hR hX
    unfold tokV at kn
    go_enter Try.func55, Try.ntmps55
    go_wp2_with fail
    refine kn.mono ?_
    rintro en w1 ⟨rfl, hb⟩
    have hz := size_alloc w (.cells #[.int .i64 0, .int .i64 0, .string ⟨#[]⟩, .slice none 0 0] 25)
    have kf := fail_c (HR.out.stay hb) (tkAt L S.length i).frm 52
    have HF1 := Lib.hid (HF.out.trans (Fr.of_below hb))
    have HR1 := Lib.hid (HR.out.stay hb)
    have hrb1 := Lib.hid ((hb.block _ (lt_of hrb.out)).trans hrb.out)
    clear hb kn c5 HR HF hrb
    go_wp2_with fail
    refine kf.mono ?_
    rintro en w2 ⟨rfl, hR2, hF2⟩
    have c5 : w2.cell? ⟨r, 5, none⟩ = some (.int .i64 52) := by rw [hR2.cell]; rfl
    have hrb2 := keep hF2 HR1.out (t := 25) (by decide) (by decide) _ _ _ hrb1.out
    obtain ⟨r0, r1, r2, r3, rf⟩ := cells4 hrb2
    have HF2 := Lib.hid (HF1.out.trans hF2)
    have HR2 := Lib.hid hR2
    have Hrb2 := Lib.hid hrb2
    clear hR2 hF2 hrb2 kf hrb1 HR1 HF1
    generalize hBe : w.heap.size = B at *
    have HBe := Lib.hid hBe
    clear hBe
    go_wp2
    (try simp only [Exit.inBlock, Exit.then])
    exact fin_sq (t := .leaf 0 0 []) (D := fun _ => False) rfl rfl HR2.out HF2.out Hrb2.out (Nat.le_of_eq HBe.out) (by rw [HBe.out]; exact hlt) (by rw [Rp]) (fun _ h => h.elim) (Nat.le_refl _) (agree_bad rfl (by decide))
  | succ f ih =>
    intro deep hd most i nv nm p w h1 h2 hR
    have hdp : ¬ (64 : Int) < (deep : Int) := by omega
    have HW := Lib.hid (ih (deep + 1) (by omega))
    have hX : termP (f + 1) most ((ab L).drop i, nm) = match operandP (termP f) most ((ab L).drop i, nm) with | .error k => .error k | .ok ((t, prio), s') => loopP (termP f) most s'.1.length t prio s' := rfl
    have dw := wrap1 (n := deep) (by omega)
    have hll := hR.good.len
    have c5 : (w.alloc (.cells #[.int .i64 0, .int .i64 0, .string ⟨#[]⟩, .slice none 0 0] 25)).cell? ⟨r, 5, none⟩ = some (.int .i64 0) := by rw [(hR.alloc _).cell]; rfl
    have hrb := Lib.hid (heap_alloc_new w (.cells #[.int .i64 0, .int .i64 0, .string ⟨#[]⟩, .slice none 0 0] 25))
    have HF := Lib.hid (Fr.of_below (r := r) (b := b) ((Below.refl w.heap.size w).alloc (Nat.le_refl _) (.cells #[.int .i64 0, .int .i64 0, .string ⟨#[]⟩, .slice none 0 0] 25)))
    have HR := Lib.hid (hR.alloc (.cells #[.int .i64 0, .int .i64 0, .string ⟨#[]⟩, .slice none 0 0] 25))
    have kb := operand_c HR.out HW.out (by omega) most h1 h2
    have hlt := hR.lt
    have hz := Lib.hid (size_alloc w (.cells #[.int .i64 0, .int .i64 0, .string ⟨#[]⟩, .slice none 0 0] 25))
    generalize termP (f + 1) most ((ab L).drop i, nm) = X at *
    have HX := Lib.hid hX
    clear hR hX
    go_enter Try.func55, Try.ntmps55
    go_wp2_with fail
    refine kb.mono ?_
    rintro en w1 ⟨t, q, a, i1, nv1, nm1, p1, k1, rfl, hT, hi1, hR1, hF1, hA⟩
    obtain ⟨ap, an, ac, rfl⟩ := hT.shape
    have hz1 := hF1.size
    rw [hz.out] at hz1
    have hrb1 := keep hF1 HR.out (t := 25) (by decide) (by decide) _ _ _ hrb.out
    have hL0 := Lib.hid (show Ls r b S tk L i1 nv1 nm1 p1 k1 w.heap.size w1.heap.size t (.slice ap an ac) w (w1.alloc (.cells #[.int .i64 (t.k : Nat), .int .i64 t.n, .string (bs t.s), .slice ap an ac] 25)) from
      ⟨hR1.alloc _, (HF.out.trans hF1).alloc _, (Lib.alloc_old w1 _ _ (by omega)).trans hrb1, heap_alloc_new w1 _, Rp.kept (Kt.alloc (Kt.refl _ _) _) (hT.imp fun k hk hh => by rw [hz.out] at hh; exact ⟨by omega, by omega, by omega⟩), fun i hi => absurd hi (Nat.not_lt_zero _), fun i hi => absurd hi (Nat.not_lt_zero _), ⟨_, (Lib.alloc_old w1 _ _ (by omega)).trans hrb1⟩, by omega⟩)
    have HX1 := Lib.hid (show (k1 = 0 ∧ X = loopP (termP f) most (L.length - i1) t q ((ab L).drop i1, nm1)) ∨ (k1 ≠ 0 ∧ X = .error k1) from by
      by_cases hk : k1 = 0
      · left; refine ⟨hk, ?_⟩
        rw [HX.out, hA.ok hk]
        show loopP (termP f) most ((ab L).drop i1).length t q ((ab L).drop i1, nm1) = _
        rw [List.length_drop, ab_len]
      · right; refine ⟨hk, ?_⟩
        rw [HX.out, hA.bad hk])
    have hle1 := hR1.le
    clear HX hT hR1 hF1 kb c5 hrb1 hrb HF HR hA hz
    generalize hB7 : w1.heap.size = B7 at *
    go_wp2_with fail
    go_loopg [8] (L.length - i1) (fun k v wr => ∃ (t : T) (a : Value) (j : Nat) (nv : Value) (nm : List (List UInt8)) (q : Int) (g p e : Nat), k = L.length - j ∧ v = .int .i64 q ∧ i ≤ j ∧ L.length - j ≤ g ∧
      Hid (Ls r b S tk L j nv nm p e w.heap.size B7 t a w wr) ∧ Hid ((e = 0 ∧ X = loopP (termP f) most g t q ((ab L).drop j, nm)) ∨ (e ≠ 0 ∧ X = .error e)))
    case atStart => exact ⟨t, _, i1, nv1, nm1, q, L.length - i1, p1, k1, rfl, rfl, hi1, Nat.le_refl _, hL0, HX1⟩
    case round =>
      clear hL0 HX1 hle1
      obtain ⟨t, a, j, nv, nm, q, g, p, e, hgk, rfl, hij, hg, HL, HX⟩ := hrel
      obtain ⟨ap, an, ac, rfl⟩ := HL.out.tm.shape
      have c5 : wr.cell? ⟨r, 5, none⟩ = some (.int .i64 (e : Nat)) := by rw [HL.out.rd.cell]; rfl
      have n67 : ¬ w.heap.size = B7 := by omega
      have n76 : ¬ B7 = w.heap.size := by omega
      by_cases he : e = 0
      · subst he
        have HY := Lib.hid (show X = loopP (termP f) most g t q ((ab L).drop j, nm) from by
          rcases HX.out with h | h
          · exact h.2
          · exact absurd rfl h.1)
        clear HX
        have HX := HY
        clear HY
        have kn := next_c HL.out.rd
        have hjl := HL.out.rd.le
        have Hkk := Lib.hid (tkAt_kind L S.length j)
        have Htx := Lib.hid (tkAt_text L S.length j)
        generalize tkAt L S.length j = T0 at *
        unfold tokV at kn
        go_wp2_with fail
        refine kn.mono ?_
        rintro en w2 ⟨rfl, hb⟩
        have hb2 := hb.trans ((Below.refl _ w2).alloc hb.size (.cells #[.int .i64 (T0.kind : Nat), .string (bs T0.text), .int .i64 (T0.frm : Nat), .int .i64 (T0.to : Nat)] 73))
        have HL3 := Lib.hid (HL.out.stay hb2)
        have hk3 := Lib.hid (heap_alloc_new w2 (.cells #[.int .i64 (T0.kind : Nat), .string (bs T0.text), .int .i64 (T0.frm : Nat), .int .i64 (T0.to : Nat)] 73))
        have hzr := HL.out.fr.size
        have hz2 := hb.size
        have hz7 := lt_of HL.out.loc
        have hz0 := lt_of HL.out.res
        clear kn hb hb2 HL c5
        obtain ⟨p', l', m', ok, hI⟩ : ∃ p l m ok, progI T0.text = (p, l, m, ok) := ⟨_, _, _, _, rfl⟩
        have ki := fun w => rI (bs T0.text) w (p := p') (l := l') (r := m') (b := ok) hI
        by_cases h1 : T0.kind = 1
        · obtain ⟨y0, _⟩ := ieq_yes (a := T0.kind) 1 (by omega)
          have HI := Lib.hid ((infix_one Hkk.out Htx.out (.inl (Hkk.out.symm.trans h1))).trans hI)
          clear hI h1
          go_wp2_with fail
          generalize World.alloc w2 (.cells #[.int .i64 (T0.kind : Nat), .string (bs T0.text), .int .i64 (T0.frm : Nat), .int .i64 (T0.to : Nat)] 73) = W3 at *
          generalize w2.heap.size = B9 at *
          refine (ki _).mono ?_
          rintro en w5 ⟨rfl, hb⟩
          have HL5 := Lib.hid (HL3.out.stay hb)
          have hk5 := Lib.hid ((hb.block B9 (lt_of hk3.out)).trans hk3.out)
          clear hb ki HL3 hk3
          (try clear k0 k1 k2 k3)
          obtain ⟨k0, k1, k2, k3, _⟩ := cells4 hk5.out
          obtain ⟨t0, t1, t2, t3, tf⟩ := cells4 HL5.out.loc
          obtain ⟨r0, r1, r2, r3, rf⟩ := cells4 HL5.out.res
          by_cases hst : ok = false ∨ most < p' ∨ l' < q
          · have hXe := Lib.hid (show Agree L X t j nm 0 from agree_ok (HX.out.trans (loop_stop _ _ _ _ _ _ (by rw [HI.out]; exact hst))))
            have hst3 : ok = false ∨ (ok = true ∧ decide (most < p') = true) ∨ (ok = true ∧ decide (most < p') = false ∧ decide (l' < q) = true) := by
              rcases Bool.eq_false_or_eq_true ok with h | h
              · right
                rcases hst with h' | h' | h'
                · rw [h] at h'; cases h'
                · left; exact ⟨h, by simpa using h'⟩
                · by_cases h'' : most < p'
                  · left; exact ⟨h, by simpa using h''⟩
                  · right; exact ⟨h, by simpa using h'', by simpa using h'⟩
              · left; exact h
            clear hst HX HI Hkk Htx
            generalize hBe : w.heap.size = B at *
            have HBe := Lib.hid hBe
            clear hBe
            rcases hst3 with rfl | ⟨rfl, y1⟩ | ⟨rfl, y1, y2⟩
            all_goals
              go_wp2
              (try simp only [Exit.inBlock, Exit.then])
              exact fin_sq rfl rfl HL5.out.rd HL5.out.fr HL5.out.res (Nat.le_of_eq HBe.out) (by rw [HBe.out]; exact hlt) HL5.out.tm (fun k hk => ⟨hk.1, hk.2.1⟩) hij hXe.out
          · have hok : ok = true := by cases ok; exact absurd (.inl rfl) hst; rfl
            subst hok
            have y1 : decide (most < p') = false := by simp only [not_or] at hst; simpa using hst.2.1
            have y2 : decide (l' < q) = false := by simp only [not_or] at hst; simpa using hst.2.2
            have hjlt : j < L.length := infix_lt (by rw [HI.out])
            have hmb := infix_bound (nx ((ab L).drop j))
            rw [HI.out] at hmb
            obtain ⟨hm1, hm2⟩ := hmb
            obtain ⟨g, rfl⟩ : ∃ g', g = g' + 1 := ⟨g - 1, by omega⟩
            have hXy : ∀ u s2, termP f m' ((ab L).drop (j + 1), nm) = .ok (u, s2) → X = loopP (termP f) most g (.cmp T0.text [t, u]) p' s2 := fun u s2 hx =>
              HX.out.trans ((loop_go _ _ _ _ _ _ (by rw [HI.out]; exact hst) (by rw [HI.out, tail_drop]; exact hx)).trans (by rw [HI.out, Htx.out]))
            have hXn : ∀ k, termP f m' ((ab L).drop (j + 1), nm) = .error k → X = .error k := fun k hx =>
              HX.out.trans (loop_err _ _ _ _ _ _ (by rw [HI.out]; exact hst) (by rw [HI.out, tail_drop]; exact hx))
            have HXy := Lib.hid hXy
            have HXn := Lib.hid hXn
            clear hXy hXn hst HX HI Hkk Htx
            have hB9r : B9 ≠ r := by have := lt_of HL5.out.loc; omega
            have HS4 := Lib.hid (HL5.out.fr' ((Fr.refl r b w5).set (p := ⟨r, 2, none⟩) (.inl rfl) (.int .i64 ((j : Int) + 1))) (HL5.out.rd.step hjlt))
            have hk4 := Lib.hid ((Below.heap_setCell w5 ⟨r, 2, none⟩ (.int .i64 ((j : Int) + 1)) B9 hB9r).trans hk5.out)
            have c2 : w5.cell? ⟨r, 2, none⟩ = some (.int .i64 (j : Nat)) := by rw [HL5.out.rd.cell]; rfl
            have f2 := HL5.out.rd.free 2
            have jw := wrap1' (n := j) (by omega)
            go_wp2_with fail
            clear t0 t1 t2 t3 tf r0 r1 r2 r3 rf k0 k1 k2 k3 c2 f2 HL5 hk5
            generalize World.setCell w5 ⟨r, 2, none⟩ _ = W at *
            obtain ⟨k0, k1, k2, k3, _⟩ := cells4 hk4.out
            obtain ⟨t0, t1, t2, t3, tf⟩ := cells4 HS4.out.loc
            have kx := fun q => HW.out m' (j + 1) nv nm p (W.drewN q) hm1 hm2 (HS4.out.rd.drew q)
            have hwz := HS4.out.fr.size
            have hl7 := lt_of HS4.out.loc
            have hl0 := lt_of HS4.out.res
            have hr7 : r < B7 := by omega
            go_region_with (first
              | (go_at_call 55; (refine (kx _).mono ?_); rintro en w6 ⟨u6, a6, i6, nv6, nm6, p6, k6, rfl, hT6, hi6, hR6, hF6, hA6⟩; obtain ⟨ap6, an6, ac6, rfl⟩ := hT6.shape; obtain ⟨HL6, HT6, q1, z0, z1, z2, z3⟩ := sterm_a HS4.out hk4.out hT6 hR6 hF6 hwz; have hz6 := hF6.size; have HA6 := Lib.hid hA6; clear hT6 hR6 hF6 hA6)
              | (go_at_call 75; (refine (two_c (D := fun k => w.heap.size ≤ k ∧ k ≠ w.heap.size ∧ k ≠ B7) HL6.out.tm HT6.out (fun k hk => by simp at hz6; exact ⟨by omega, by omega, by omega⟩) T0.text).mono ?_); rintro en w7 ⟨v7, rfl, hT7, hb7⟩; obtain ⟨va, vm, vc, rfl⟩ := hT7.shape; have HL7 := Lib.hid (HL6.out.stay hb7); have HS7 := Lib.hid (HL7.out.store hT7 hr7 (by omega) n67); obtain ⟨x0, x1, x2, x3, xf⟩ := cells4 HL7.out.loc; clear hT7 hb7))
            all_goals
              have hle6 := HL7.out.rd.le
              have HA7 := Lib.hid (show (k6 = 0 ∧ X = loopP (termP f) most g (.cmp T0.text [t, u6]) p' ((ab L).drop i6, nm6)) ∨ (k6 ≠ 0 ∧ X = .error k6) from by
                by_cases hk : k6 = 0
                · exact .inl ⟨hk, HXy.out _ _ (HA6.out.ok hk)⟩
                · exact .inr ⟨hk, HXn.out _ (HA6.out.bad hk)⟩)
              clear kx HL7 HL6 HT6 HA6 HXy HXn
              go_wp2
              go_roundg (L.length - i6)
              case measure => omega
              case rel => exact ⟨.cmp T0.text [t, u6], _, i6, nv6, nm6, p', g, p6, k6, rfl, rfl, by omega, by omega, HS7, HA7⟩
        · obtain ⟨y0, _⟩ := ieq_no (a := T0.kind) 1 (by omega)
          have km := mark_c HL3.out.rd [44]
          rw [show bs [44] = ⟨#[44]⟩ from rfl] at km
          rcases hq : isM (nx ((ab L).drop j)) [44] with _ | _
          · rw [hq] at km
            have hXe := Lib.hid (show Agree L X t j nm 0 from agree_ok (HX.out.trans (loop_stop _ _ _ _ _ _ (by rw [infix_none (by rw [hq, ← Hkk.out]; rintro (h | h); exact h1 h; exact absurd h (by decide))]; exact .inl rfl))))
            clear HX ki hI
            go_wp2_with fail
            generalize World.alloc w2 (.cells #[.int .i64 (T0.kind : Nat), .string (bs T0.text), .int .i64 (T0.frm : Nat), .int .i64 (T0.to : Nat)] 73) = W3 at *
            generalize w2.heap.size = B9 at *
            refine km.mono ?_
            rintro en w4 ⟨rfl, hb⟩
            have HL4 := Lib.hid (HL3.out.stay hb)
            clear hb km HL3 hk3
            obtain ⟨t0, t1, t2, t3, _⟩ := cells4 HL4.out.loc
            obtain ⟨r0, r1, r2, r3, rf⟩ := cells4 HL4.out.res
            generalize hBe : w.heap.size = B at *
            have HBe := Lib.hid hBe
            clear hBe
            go_wp2
            (try simp only [Exit.inBlock, Exit.then])
            exact fin_sq rfl rfl HL4.out.rd HL4.out.fr HL4.out.res (Nat.le_of_eq HBe.out) (by rw [HBe.out]; exact hlt) HL4.out.tm (fun k hk => ⟨hk.1, hk.2.1⟩) hij hXe.out
          · rw [hq] at km
            have hone : (nx ((ab L).drop j)).kind = 1 ∨ isM (nx ((ab L).drop j)) [44] = true := .inr hq
            have HI := Lib.hid ((infix_one Hkk.out Htx.out hone).trans hI)
            clear hone hq hI
            go_wp2_with fail
            generalize World.alloc w2 (.cells #[.int .i64 (T0.kind : Nat), .string (bs T0.text), .int .i64 (T0.frm : Nat), .int .i64 (T0.to : Nat)] 73) = W3 at *
            generalize w2.heap.size = B9 at *
            refine km.mono ?_
            rintro en w4 ⟨rfl, hb⟩
            have HL4 := Lib.hid (HL3.out.stay hb)
            have hk4 := Lib.hid ((hb.block B9 (lt_of hk3.out)).trans hk3.out)
            clear hb km HL3 hk3
            have HL3 := HL4
            have hk3 := hk4
            clear HL4 hk4
            obtain ⟨k0, k1, k2, k3, _⟩ := cells4 hk3.out
            go_wp2_with fail
            refine (ki _).mono ?_
            rintro en w5 ⟨rfl, hb⟩
            have HL5 := Lib.hid (HL3.out.stay hb)
            have hk5 := Lib.hid ((hb.block B9 (lt_of hk3.out)).trans hk3.out)
            clear hb ki HL3 hk3
            (try clear k0 k1 k2 k3)
            obtain ⟨k0, k1, k2, k3, _⟩ := cells4 hk5.out
            obtain ⟨t0, t1, t2, t3, tf⟩ := cells4 HL5.out.loc
            obtain ⟨r0, r1, r2, r3, rf⟩ := cells4 HL5.out.res
            by_cases hst : ok = false ∨ most < p' ∨ l' < q
            · have hXe := Lib.hid (show Agree L X t j nm 0 from agree_ok (HX.out.trans (loop_stop _ _ _ _ _ _ (by rw [HI.out]; exact hst))))
              have hst3 : ok = false ∨ (ok = true ∧ decide (most < p') = true) ∨ (ok = true ∧ decide (most < p') = false ∧ decide (l' < q) = true) := by
                rcases Bool.eq_false_or_eq_true ok with h | h
                · right
                  rcases hst with h' | h' | h'
                  · rw [h] at h'; cases h'
                  · left; exact ⟨h, by simpa using h'⟩
                  · by_cases h'' : most < p'
                    · left; exact ⟨h, by simpa using h''⟩
                    · right; exact ⟨h, by simpa using h'', by simpa using h'⟩
                · left; exact h
              clear hst HX HI Hkk Htx
              generalize hBe : w.heap.size = B at *
              have HBe := Lib.hid hBe
              clear hBe
              rcases hst3 with rfl | ⟨rfl, y1⟩ | ⟨rfl, y1, y2⟩
              all_goals
                go_wp2
                (try simp only [Exit.inBlock, Exit.then])
                exact fin_sq rfl rfl HL5.out.rd HL5.out.fr HL5.out.res (Nat.le_of_eq HBe.out) (by rw [HBe.out]; exact hlt) HL5.out.tm (fun k hk => ⟨hk.1, hk.2.1⟩) hij hXe.out
            · have hok : ok = true := by cases ok; exact absurd (.inl rfl) hst; rfl
              subst hok
              have y1 : decide (most < p') = false := by simp only [not_or] at hst; simpa using hst.2.1
              have y2 : decide (l' < q) = false := by simp only [not_or] at hst; simpa using hst.2.2
              have hjlt : j < L.length := infix_lt (by rw [HI.out])
              have hmb := infix_bound (nx ((ab L).drop j))
              rw [HI.out] at hmb
              obtain ⟨hm1, hm2⟩ := hmb
              obtain ⟨g, rfl⟩ : ∃ g', g = g' + 1 := ⟨g - 1, by omega⟩
              have hXy : ∀ u s2, termP f m' ((ab L).drop (j + 1), nm) = .ok (u, s2) → X = loopP (termP f) most g (.cmp T0.text [t, u]) p' s2 := fun u s2 hx =>
                HX.out.trans ((loop_go _ _ _ _ _ _ (by rw [HI.out]; exact hst) (by rw [HI.out, tail_drop]; exact hx)).trans (by rw [HI.out, Htx.out]))
              have hXn : ∀ k, termP f m' ((ab L).drop (j + 1), nm) = .error k → X = .error k := fun k hx =>
                HX.out.trans (loop_err _ _ _ _ _ _ (by rw [HI.out]; exact hst) (by rw [HI.out, tail_drop]; exact hx))
              have HXy := Lib.hid hXy
              have HXn := Lib.hid hXn
              clear hXy hXn hst HX HI Hkk Htx
              have hB9r : B9 ≠ r := by have := lt_of HL5.out.loc; omega
              have HS4 := Lib.hid (HL5.out.fr' ((Fr.refl r b w5).set (p := ⟨r, 2, none⟩) (.inl rfl) (.int .i64 ((j : Int) + 1))) (HL5.out.rd.step hjlt))
              have hk4 := Lib.hid ((Below.heap_setCell w5 ⟨r, 2, none⟩ (.int .i64 ((j : Int) + 1)) B9 hB9r).trans hk5.out)
              have c2 : w5.cell? ⟨r, 2, none⟩ = some (.int .i64 (j : Nat)) := by rw [HL5.out.rd.cell]; rfl
              have f2 := HL5.out.rd.free 2
              have jw := wrap1' (n := j) (by omega)
              go_wp2_with fail
              clear t0 t1 t2 t3 tf r0 r1 r2 r3 rf k0 k1 k2 k3 c2 f2 HL5 hk5
              generalize World.setCell w5 ⟨r, 2, none⟩ _ = W at *
              obtain ⟨k0, k1, k2, k3, _⟩ := cells4 hk4.out
              obtain ⟨t0, t1, t2, t3, tf⟩ := cells4 HS4.out.loc
              have kx := fun q => HW.out m' (j + 1) nv nm p (W.drewN q) hm1 hm2 (HS4.out.rd.drew q)
              have hwz := HS4.out.fr.size
              have hl7 := lt_of HS4.out.loc
              have hl0 := lt_of HS4.out.res
              have hr7 : r < B7 := by omega
              go_region_with (first
                | (go_at_call 55; (refine (kx _).mono ?_); rintro en w6 ⟨u6, a6, i6, nv6, nm6, p6, k6, rfl, hT6, hi6, hR6, hF6, hA6⟩; obtain ⟨ap6, an6, ac6, rfl⟩ := hT6.shape; obtain ⟨HL6, HT6, q1, z0, z1, z2, z3⟩ := sterm_a HS4.out hk4.out hT6 hR6 hF6 hwz; have hz6 := hF6.size; have HA6 := Lib.hid hA6; clear hT6 hR6 hF6 hA6)
                | (go_at_call 75; (refine (two_c (D := fun k => w.heap.size ≤ k ∧ k ≠ w.heap.size ∧ k ≠ B7) HL6.out.tm HT6.out (fun k hk => by simp at hz6; exact ⟨by omega, by omega, by omega⟩) T0.text).mono ?_); rintro en w7 ⟨v7, rfl, hT7, hb7⟩; obtain ⟨va, vm, vc, rfl⟩ := hT7.shape; have HL7 := Lib.hid (HL6.out.stay hb7); have HS7 := Lib.hid (HL7.out.store hT7 hr7 (by omega) n67); obtain ⟨x0, x1, x2, x3, xf⟩ := cells4 HL7.out.loc; clear hT7 hb7))
              all_goals
                have hle6 := HL7.out.rd.le
                have HA7 := Lib.hid (show (k6 = 0 ∧ X = loopP (termP f) most g (.cmp T0.text [t, u6]) p' ((ab L).drop i6, nm6)) ∨ (k6 ≠ 0 ∧ X = .error k6) from by
                  by_cases hk : k6 = 0
                  · exact .inl ⟨hk, HXy.out _ _ (HA6.out.ok hk)⟩
                  · exact .inr ⟨hk, HXn.out _ (HA6.out.bad hk)⟩)
                clear kx HL7 HL6 HT6 HA6 HXy HXn
                go_wp2
                go_roundg (L.length - i6)
                case measure => omega
                case rel => exact ⟨.cmp T0.text [t, u6], _, i6, nv6, nm6, p', g, p6, k6, rfl, rfl, by omega, by omega, HS7, HA7⟩
      · have he2 : ((e : Int) == 0) = false := by rw [beq_eq_false_iff_ne]; omega
        have hXe := Lib.hid (show Agree L X t j nm e from by
          rcases HX.out with h | h
          · exact absurd h.1 he
          · exact agree_bad h.2 he)
        obtain ⟨t0, t1, t2, t3, _⟩ := cells4 HL.out.loc
        obtain ⟨r0, r1, r2, r3, rf⟩ := cells4 HL.out.res
        clear he HX
        generalize hBe : w.heap.size = B at *
        have HBe := Lib.hid hBe
        clear hBe
        go_wp2
        (try simp only [Exit.inBlock, Exit.then])
        exact fin_sq rfl rfl HL.out.rd HL.out.fr HL.out.res (Nat.le_of_eq HBe.out) (by rw [HBe.out]; exact hlt) HL.out.tm (fun k hk => ⟨hk.1, hk.2.1⟩) hij hXe.out
end Go.Proofs.Ytjccohcigopdfaa.rr
end
