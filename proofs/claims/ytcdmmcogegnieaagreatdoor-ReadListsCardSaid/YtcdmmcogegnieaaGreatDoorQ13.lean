/- The program's reader: term, whole. -/
import Derived.Test.YtcdmmcogegnieaaGreatDoorQ12
set_option linter.unusedVariables false
set_option linter.unusedSimpArgs false
section
/- The program's reader: term, whole. -/
namespace Go.Proofs.YtcdmmcogegnieaaGreatDoor.rd
open Go.RowKit
open Go.Proofs.YtcdmmcogegnieaaGreatDoor.op (bs strC Both Tb progI progP tupI lI lP)
open Go.Proofs.YtcdmmcogegnieaaGreatDoor.lx (Tok Tk tcell tcells cell_at ieq_yes ieq_no)
set_option maxRecDepth 20000

theorem alloc3 (w : World) (o1 o2 o3 : Obj) : (((w.alloc o1).alloc o2).alloc o3).heap[w.heap.size]? = some o1 ∧ (((w.alloc o1).alloc o2).alloc o3).heap[w.heap.size + 1]? = some o2 ∧ (((w.alloc o1).alloc o2).alloc o3).heap[w.heap.size + 1 + 1]? = some o3 ∧
    (((w.alloc o1).alloc o2).alloc o3).heap.size = w.heap.size + 1 + 1 + 1 ∧ Below w.heap.size w (((w.alloc o1).alloc o2).alloc o3) := by
  have z1 := size_alloc w o1
  have z2 := size_alloc (w.alloc o1) o2
  have h2 := heap_alloc_new (w.alloc o1) o2
  have h3 := heap_alloc_new ((w.alloc o1).alloc o2) o3
  rw [z1] at z2 h2
  rw [z2] at h3
  exact ⟨(Lib.alloc_old _ o3 _ (by omega)).trans ((Lib.alloc_old _ o2 _ (by omega)).trans (heap_alloc_new w o1)), (Lib.alloc_old _ o3 _ (by omega)).trans h2, h3, by rw [size_alloc, z2],
    (((Below.refl w.heap.size w).alloc (Nat.le_refl _) o1).alloc (by omega) o2).alloc (by omega) o3⟩
/-- the closure has given a term -/
theorem term_a {r b B3 B5 B6 B8 B10 depth e j i6 q : Nat} {tk nv nv6 : Value} {L : List Tok} {nm nm6 : List (List UInt8)} {t u : T} {a a2 : Value} {w W w6 : World} {T0 : Tok} {l : List K} (HS : Lp r b B3 B5 B6 B8 w.heap.size depth tk L e j nv nm t a w W)
    (hk : W.heap[B10]? = some (.cells #[.int .i64 (T0.kind : Nat), .string (bs T0.text), .int .i64 (T0.frm : Nat), .int .i64 (T0.to : Nat)] 51 (0, 0)))
    (hT : Rp (fun k => (W.drewN q).heap.size ≤ k) w6 u a2) (hs : l = (ab L).drop i6) (hR : Rd r b tk L e i6 nv6 nm6 w6) (hF : Fr r b (W.drewN q) w6) :
    Hid (Lp r b B3 B5 B6 B8 w.heap.size depth tk L e i6 nv6 nm6 t a w w6) ∧ Hid (Rp (fun k => W.heap.size ≤ k) w6 u a2) ∧ Hid (l = (ab L).drop i6) ∧
      Hid (w6.heap[B10]? = some (.cells #[.int .i64 (T0.kind : Nat), .string (bs T0.text), .int .i64 (T0.frm : Nat), .int .i64 (T0.to : Nat)] 51 (0, 0))) ∧
      (w6.cell? ⟨B10, 1, none⟩ = some (.string (bs T0.text)) ∧ ∀ o, (w6.alloc o).cell? ⟨B10, 1, none⟩ = some (.string (bs T0.text))) ∧
      (w6.cell? ⟨B8, 0, none⟩ = some (.int .i64 (t.k : Nat)) ∧ w6.cell? ⟨B8, 1, none⟩ = some (.int .i64 t.n) ∧ w6.cell? ⟨B8, 2, none⟩ = some (.string (bs t.s)) ∧ w6.cell? ⟨B8, 3, none⟩ = some a) := by
  have HD := HS.stay (below_drawn W.heap.size W q)
  have h1 := HD.fr' hF hR
  have h2 := hF.keep HD.rd (t := 51) (by decide) (by decide) _ _ _ hk
  obtain ⟨c0, c1, c2, c3, _⟩ := cells4 h1.loc
  exact ⟨Lib.hid h1, Lib.hid hT, Lib.hid hs, Lib.hid h2, ⟨by rw [cell_at h2]; rfl, fun o => tkcell_alloc h2 o⟩, c0, c1, c2, c3⟩
/-- compound has given the term of both -/
theorem term_b {r b B3 B5 B6 B8 depth e i6 z : Nat} {tk nv6 : Value} {L : List Tok} {nm6 : List (List UInt8)} {t u : T} {a a2 : Value} {w w6 w7 : World} {T0 : Tok} (HS : Lp r b B3 B5 B6 B8 w.heap.size depth tk L e i6 nv6 nm6 t a w w6) (hT : Rp (fun k => z ≤ k) w6 u a2)
    (hz : w.heap.size ≤ z ∧ B6 < z ∧ B8 < z) (hb : Below (w6.alloc (.cells (tv t a ++ tv u a2).toArray 25)).heap.size (w6.alloc (.cells (tv t a ++ tv u a2).toArray 25)) w7) :
    Hid (Lp r b B3 B5 B6 B8 w.heap.size depth tk L e i6 nv6 nm6 t a w w7) ∧ Hid (Rp (fun k => w.heap.size ≤ k ∧ k ≠ B6 ∧ k ≠ B8) w7 (.cmp T0.text [t, u]) (.slice (some ⟨w6.heap.size, 0, none⟩) 2 2)) ∧
      (w7.cell? ⟨B8, 0, none⟩ = some (.int .i64 (t.k : Nat)) ∧ w7.cell? ⟨B8, 1, none⟩ = some (.int .i64 t.n) ∧ w7.cell? ⟨B8, 2, none⟩ = some (.string (bs t.s)) ∧ w7.cell? ⟨B8, 3, none⟩ = some a ∧ ∀ j, w7.frozen? ⟨B8, j, none⟩ = false) := by
  have h1 := (HS.stay ((Below.refl _ _).alloc (Nat.le_refl _) (.cells (tv t a ++ tv u a2).toArray 25))).stay hb
  have l6 := lt_of HS.res
  have l8 := lt_of HS.loc
  have hf := HS.fr.size
  have h2 := (Rw.two HS.tm (hT.imp (D' := fun k => w.heap.size ≤ k ∧ k ≠ B6 ∧ k ≠ B8) fun k _ hk => by omega) (by omega)).kept (Kt.below hb)
  exact ⟨Lib.hid h1, Lib.hid (h2.cmp T0.text), cells4 h1.loc⟩
set_option maxHeartbeats 8000000 in
theorem term_succ {r b e f : Nat} {tk : Value} {L : List Tok} (ih : TmOk r b tk L e f) : TmOk r b tk L e (f + 1) := by
  intro most i depth nv nm w h1 h2 hd hR
  have H := Lib.hid hR
  have hdp : (depth : Int) ≤ 64 := by omega
  have hll := hR.good.len
  have HW := Lib.hid (clos_c (cb := w.heap.size) (cd := w.heap.size + 1) (d := depth) ih (by omega))
  obtain ⟨hb3, hb5, hb6, z3, hBA⟩ := alloc3 w (.cells #[.pointer (some ⟨r, 0, none⟩)] 68) (.cells #[.int .i64 (depth : Nat)] 3) (.cells #[.int .i64 0, .int .i64 0, .string ⟨#[]⟩, .slice none 0 0] 25)
  have hRA := ((hR.alloc (.cells #[.pointer (some ⟨r, 0, none⟩)] 68)).alloc (.cells #[.int .i64 (depth : Nat)] 3)).alloc (.cells #[.int .i64 0, .int .i64 0, .string ⟨#[]⟩, .slice none 0 0] 25)
  have hmf : ∀ (fn : Fn) (first cap : Array Value) (w : World), (Instr.makeFunc fn first cap).run Tryz.prog w = .ok (.func fn first cap) w := fun _ _ _ _ => rfl
  have hlt := hR.lt
  generalize hwA : World.alloc (World.alloc (World.alloc w _) _) _ = wA at hRA hBA hb3 hb5 hb6 z3
  have HwA := Lib.hid hwA
  have c5 : wA.cell? ⟨w.heap.size + 1, 0, none⟩ = some (.int .i64 (depth : Nat)) := by rw [cell_at hb5]; rfl
  have c3 : wA.cell? ⟨w.heap.size, 0, none⟩ = some (.pointer (some ⟨r, 0, none⟩)) := by rw [cell_at hb3]; rfl
  have HA : Hid (Rd r b tk L e i nv nm wA) := Lib.hid hRA
  have HFA := Lib.hid (Fr.of_below (r := r) (b := b) hBA)
  have CA := Lib.hid (Cl.mk (r := r) (d := depth) hb3 hb5)
  have hb6' := Lib.hid hb6
  have kb := operand_c HA.out HW.out CA.out most h1 h2
  have hX : termP (f + 1) most ((ab L).drop i, nm) = match operandP (termP f) most ((ab L).drop i, nm) with | .error k => .error k | .ok ((t, prio), s') => loopP (termP f) most s'.1.length t prio s' := rfl
  unfold clV at kb
  generalize termP (f + 1) most ((ab L).drop i, nm) = X at *
  generalize operandP (termP f) most ((ab L).drop i, nm) = Y at *
  clear hR hRA hBA hb3 hb5 hb6
  have Z3 := Lib.hid z3
  clear z3
  rcases Y with k | ⟨⟨t, q⟩, s'⟩
  · have HX := Lib.hid hX
    clear hX
    go_enter Tryz.func48, Tryz.ntmps48
    go_wp2_with fail
    refine kb.mono ?_
    rintro en w1 ⟨p, rfl, hb⟩
    have HB := Lib.hid ((HFA.out.below H.out).trans hb)
    clear hb kb
    unfold Wr
    go_wp2
    exact ⟨rfl, by rw [HX.out]; exact ⟨p, rfl, HB.out⟩⟩
  · have HX := Lib.hid hX
    clear hX
    go_enter Tryz.func48, Tryz.ntmps48
    go_wp2_with fail
    refine kb.mono ?_
    rintro en w1 ⟨a, i1, nv1, rfl, hT, hs, hi1, hR1, hF1⟩
    obtain ⟨ap, an, ac, rfl⟩ := hT.shape
    have hz1 := hF1.size
    rw [Z3.out] at hz1
    have hL0 := Lib.hid (show Lp r b w.heap.size (w.heap.size + 1) (w.heap.size + 1 + 1) w1.heap.size w.heap.size depth tk L e i1 nv1 s'.2 t (.slice ap an ac) w (w1.alloc (.cells #[.int .i64 (t.k : Nat), .int .i64 t.n, .string (bs t.s), .slice ap an ac] 25)) from
      ⟨hR1.alloc _, (HFA.out.trans hF1).alloc _, (CA.out.fr HA.out hF1).stay ((Below.refl _ _).alloc (Nat.le_refl _) _), (Lib.alloc_old w1 _ _ (by omega)).trans (hF1.keep HA.out (by decide) (by decide) _ _ _ hb6'.out), heap_alloc_new w1 _,
        Rp.kept (Kt.alloc (Kt.refl _ _) _) (hT.imp fun k hk hh => by rw [Z3.out] at hh; omega)⟩)
    have HX1 := Lib.hid (show X = loopP (termP f) most s'.1.length t q ((ab L).drop i1, s'.2) by rw [HX.out, ← hs])
    have hfl : L.length - i1 ≤ s'.1.length := by rw [hs, List.length_drop, ab_len]; omega
    clear HX hs hT hR1 hF1 kb c5 c3 hb6' CA HFA HA
    generalize hB8 : w1.heap.size = B8 at *
    go_wp2_with fail
    clear hwA HwA Z3
    go_loopg [9] (L.length - i1) (fun k v wr => ∃ (t : T) (a : Value) (j : Nat) (nv : Value) (nm : List (List UInt8)) (q : Int) (g : Nat), k = L.length - j ∧ v = .int .i64 q ∧ i ≤ j ∧ L.length - j ≤ g ∧
      Hid (Lp r b w.heap.size (w.heap.size + 1) (w.heap.size + 1 + 1) B8 w.heap.size depth tk L e j nv nm t a w wr) ∧ Hid (X = loopP (termP f) most g t q ((ab L).drop j, nm)))
    case atStart => exact ⟨t, _, i1, nv1, s'.2, q, _, rfl, rfl, hi1, hfl, hL0, HX1⟩
    case round =>
      clear hL0 HX1 hfl
      obtain ⟨t, a, j, nv, nm, q, g, hgk, rfl, hij, hg, HL, HX⟩ := hrel
      obtain ⟨ap, an, ac, rfl⟩ := HL.out.tm.shape
      have c3 : wr.cell? ⟨w.heap.size, 0, none⟩ = some (.pointer (some ⟨r, 0, none⟩)) := by rw [cell_at HL.out.cl.rd]; rfl
      have kn := next_c HL.out.rd
      have hjl := HL.out.rd.le
      have heta := nx_eta L e j
      have hlt2 : ∀ k, (tokAt L e j).kind = k → k ≠ 0 → j < L.length := fun k hk hk0 => lt_of_kind (e := e) (by omega)
      generalize hT0 : tokAt L e j = T0 at *
      go_wp2_with fail
      refine kn.mono ?_
      rintro en w2 ⟨rfl, hb⟩
      clear kn
      have HL2 := Lib.hid ((HL.out.stay hb).stay ((Below.refl _ _).alloc (Nat.le_refl _) (.cells #[.int .i64 (T0.kind : Nat), .string (bs T0.text), .int .i64 (T0.frm : Nat), .int .i64 (T0.to : Nat)] 51)))
      have hk2 := Lib.hid (heap_alloc_new w2 (.cells #[.int .i64 (T0.kind : Nat), .string (bs T0.text), .int .i64 (T0.frm : Nat), .int .i64 (T0.to : Nat)] 51))
      have hz2 := hb.size
      have hzr := HL.out.fr.size
      have ki := infix_c T0 (nx ((ab L).drop j)).near _ HL2.out.rd.tb
      rw [← heta] at ki
      obtain ⟨k0, k1, k2, k3, _⟩ := cells4 hk2.out
      obtain ⟨p, l, m, ok, hI⟩ : ∃ p l m ok, infixK (nx ((ab L).drop j)) = (p, l, m, ok) := ⟨_, _, _, _, rfl⟩
      rw [hI] at ki
      unfold op.tupI at ki
      clear hb
      unfold tokV at *
      have HI := Lib.hid hI
      clear hI
      go_wp2_with fail
      refine ki.mono ?_
      rintro en w3 ⟨rfl, hb⟩
      have HL3 := Lib.hid (HL2.out.stay hb)
      have hk3 := Lib.hid ((hb.block w2.heap.size (lt_of hk2.out)).trans hk2.out)
      have hz3 := hb.size
      rw [size_alloc] at hz3
      clear hb ki k0 k1 k2 k3 HL2 hk2 HL c3
      obtain ⟨k0, k1, k2, k3, _⟩ := cells4 hk3.out
      obtain ⟨t0, t1, t2, t3, tf⟩ := cells4 HL3.out.loc
      obtain ⟨r0, r1, r2, r3, rf⟩ := cells4 HL3.out.res
      generalize hB10 : w2.heap.size = B10 at *
      have n68 : ¬ w.heap.size + 1 + 1 = B8 := by omega
      have n86 : ¬ B8 = w.heap.size + 1 + 1 := by omega
      by_cases hst : ok = false ∨ most < p ∨ l < q
      · have hXe := Lib.hid (HX.out.trans (loop_stop _ _ _ _ _ _ (by rw [HI.out]; exact hst)))
        have hst3 : ok = false ∨ (ok = true ∧ decide (most < p) = true) ∨ (ok = true ∧ decide (most < p) = false ∧ decide (l < q) = true) := by
          rcases Bool.eq_false_or_eq_true ok with h | h
          · right
            rcases hst with h' | h' | h'
            · rw [h] at h'; cases h'
            · left; exact ⟨h, by simpa using h'⟩
            · by_cases h'' : most < p
              · left; exact ⟨h, by simpa using h''⟩
              · right; exact ⟨h, by simpa using h'', by simpa using h'⟩
          · left; exact h
        clear hst HX HI
        rcases hst3 with rfl | ⟨rfl, y1⟩ | ⟨rfl, y1, y2⟩
        all_goals
          go_wp2
          (try simp only [Exit.inBlock, Exit.then])
          refine fin_term (t := t) rfl rfl HL3.out.rd HL3.out.fr HL3.out.res (by omega) hlt HL3.out.tm (fun k hk => ⟨hk.1, hk.2.1⟩) hXe.out hij
      · have hok : ok = true := by cases ok; exact absurd (.inl rfl) hst; rfl
        subst hok
        have y1 : decide (most < p) = false := by simp only [not_or] at hst; simpa using hst.2.1
        have y2 : decide (l < q) = false := by simp only [not_or] at hst; simpa using hst.2.2
        have hjlt : j < L.length := infix_lt (by rw [HI.out])
        have hmb := infix_bound (nx ((ab L).drop j))
        rw [HI.out] at hmb
        obtain ⟨hm1, hm2⟩ := hmb
        obtain ⟨g, rfl⟩ : ∃ g', g = g' + 1 := ⟨g - 1, by omega⟩
        have HS := HL3.out.step hjlt
        have hk4 := Lib.hid ((Below.heap_setCell w3 ⟨r, 2, none⟩ (.int .i64 ((j : Int) + 1)) B10 (by show B10 ≠ r; omega)).trans hk3.out)
        have hz4 : (w3.setCell ⟨r, 2, none⟩ (.int .i64 ((j : Int) + 1))).heap.size = w3.heap.size := by simp [World.setCell]
        have c3 : w3.cell? ⟨w.heap.size, 0, none⟩ = some (.pointer (some ⟨r, 0, none⟩)) := by rw [cell_at HL3.out.cl.rd]; rfl
        have c2 : w3.cell? ⟨r, 2, none⟩ = some (.int .i64 (j : Nat)) := by rw [HL3.out.rd.cell]; rfl
        have f2 := HL3.out.rd.free 2
        have i1 : IntKind.i64.wrap ((j : Int) + 1) = (j : Int) + 1 := IntWalk.i64_in _ (by omega)
        have HS4 := Lib.hid HS
        have Hz4 := Lib.hid hz4
        clear HS hz4
        go_wp2_with fail
        clear t0 t1 t2 t3 tf r0 r1 r2 r3 rf k0 k1 k2 k3 c3 c2 f2
        generalize World.setCell w3 ⟨r, 2, none⟩ _ = W at *
        obtain ⟨k0, k1, k2, k3, _⟩ := cells4 hk4.out
        obtain ⟨t0, t1, t2, t3, tf⟩ := cells4 HS4.out.loc
        have kx : ∀ q, Calls Tryz.prog 66 #[.int .i64 m, .pointer (some ⟨w.heap.size, 0, none⟩), .pointer (some ⟨w.heap.size + 1, 0, none⟩)] (W.drewN q) (TQ r b tk L e (j + 1) (W.drewN q) (termP f m ((ab L).drop (j + 1), nm))) := fun q =>
          HW.out m (j + 1) nv nm (W.drewN q) hm1 hm2 (HS4.out.cl.stay (below_drawn _ _ _)) (HS4.out.rd.drew q)
        rcases hx : termP f m ((ab L).drop (j + 1), nm) with k | ⟨u, s2⟩
        · rw [hx] at kx
          have hX2 := Lib.hid (show X = .error k from HX.out.trans (loop_err _ _ _ _ _ _ (by rw [HI.out]; exact hst) (by rw [HI.out, tail_drop]; exact hx)))
          have hbw := Lib.hid (HS4.out.fr.below H.out)
          clear hx HX hst HI
          refine wp_region_held_drew (S := fun w' => w'.cell? ⟨B10, 1, none⟩ = some (.string (bs T0.text)) ∧ w'.cell? ⟨B8, 0, none⟩ = some (.int .i64 (t.k : Nat)) ∧ w'.cell? ⟨B8, 1, none⟩ = some (.int .i64 t.n) ∧ w'.cell? ⟨B8, 2, none⟩ = some (.string (bs t.s)) ∧ w'.cell? ⟨B8, 3, none⟩ = some (.slice ap an ac)) (by kernel_rfl) ⟨k1, t0, t1, t2, t3⟩ (fun hHeld => ?_)
          refine wpAnyH_take (i := 0) (v := ?_) rfl (by kernel_rfl) (by kernel_rfl) (by kernel_rfl) (fun _ _ _ h => h) (Or.inl ⟨by rfl, ?_⟩) hHeld ?_
          rotate_left
          · intro w hSw; obtain ⟨s0, s1, s2, s3, s4⟩ := hSw; go_simp
            all_goals with_reducible rfl
          simp only [Act.put, List.setIfInBounds_toArray, List.set_cons_zero, List.set_cons_succ]
          refine wpAnyH_take (i := 1) (v := ?_) rfl (by kernel_rfl) (by kernel_rfl) (by kernel_rfl) (fun _ _ _ h => h) (Or.inl ⟨by rfl, ?_⟩) hHeld ?_
          rotate_left
          · intro w hSw; obtain ⟨s0, s1, s2, s3, s4⟩ := hSw; go_simp
            all_goals with_reducible rfl
          simp only [Act.put, List.setIfInBounds_toArray, List.set_cons_zero, List.set_cons_succ]
          refine wpAnyH_take (i := 2) (v := ?_) rfl (by kernel_rfl) (by kernel_rfl) (by kernel_rfl) (fun _ _ _ h => h) (Or.inl ⟨by rfl, ?_⟩) hHeld ?_
          rotate_left
          · intro w hSw; obtain ⟨s0, s1, s2, s3, s4⟩ := hSw; go_simp
            all_goals with_reducible rfl
          simp only [Act.put, List.setIfInBounds_toArray, List.set_cons_zero, List.set_cons_succ]
          refine wpAnyH_take (i := 3) (v := ?_) rfl (by kernel_rfl) (by kernel_rfl) (by kernel_rfl) (fun _ _ _ h => h) (Or.inl ⟨by rfl, ?_⟩) hHeld ?_
          rotate_left
          · intro w hSw; obtain ⟨s0, s1, s2, s3, s4⟩ := hSw; go_simp
            all_goals with_reducible rfl
          simp only [Act.put, List.setIfInBounds_toArray, List.set_cons_zero, List.set_cons_succ]
          refine wpAnyH_take (i := 4) (v := ?_) rfl (by kernel_rfl) (by kernel_rfl) (by kernel_rfl) (fun _ _ _ h => h) (Or.inl ⟨by rfl, ?_⟩) hHeld ?_
          rotate_left
          · intro w hSw; obtain ⟨s0, s1, s2, s3, s4⟩ := hSw; go_simp
            all_goals with_reducible rfl
          simp only [Act.put, List.setIfInBounds_toArray, List.set_cons_zero, List.set_cons_succ]
          refine wpAnyH_take (i := 8) (v := ?_) rfl (by kernel_rfl) (by kernel_rfl) (by kernel_rfl) (fun _ _ _ h => h) (Or.inl ⟨by rfl, ?_⟩) hHeld ?_
          rotate_left
          · intro w hSw; obtain ⟨s0, s1, s2, s3, s4⟩ := hSw; go_simp
            all_goals with_reducible rfl
          simp only [Act.put, List.setIfInBounds_toArray, List.set_cons_zero, List.set_cons_succ]
          refine wpAnyH_ready (rs := [5]) (by kernel_rfl) (by simp) ?_
          refine AllReadyH.cons rfl (fun K hK => ?_) AllReadyH.nil
          go_simp
          refine (kx 1).mono ?_
          rintro en w6 ⟨p6, rfl, hb⟩
          exact ⟨rfl, by rw [hX2.out]; exact ⟨p6, rfl, hbw.out.trans ((below_drawn _ _ 1).trans hb)⟩⟩
        · rw [hx] at kx
          have htx : (nx ((ab L).drop j)).text = T0.text := by rw [(nx_tok L e j).2, hT0]
          have hX2 := Lib.hid (show X = loopP (termP f) most g (.cmp T0.text [t, u]) p s2 from HX.out.trans ((loop_go _ _ _ _ _ _ (by rw [HI.out]; exact hst) (by rw [HI.out, tail_drop]; exact hx)).trans (by rw [HI.out, htx])))
          have hwz : w.heap.size ≤ W.heap.size ∧ w.heap.size + 1 + 1 < W.heap.size ∧ B8 < W.heap.size := ⟨HS4.out.fr.size, lt_of HS4.out.res, lt_of HS4.out.loc⟩
          clear hx HX hst HI htx
          go_region_with (first
            | (go_at_call 66; (refine (kx _).mono ?_); rintro en w6 ⟨a6, i6, nv6, rfl, hT6, hs6, hi6, hR6, hF6⟩; obtain ⟨ap6, an6, ac6, rfl⟩ := hT6.shape; obtain ⟨HL6, HT6, Hs6, hk6, ⟨q1, qa⟩, u0, u1, u2, u3⟩ := term_a HS4.out hk4.out hT6 hs6 hR6 hF6; clear hT6 hs6 hR6 hF6)
            | (go_at_call 69; (refine (compound_c _ _ _ _ _).mono ?_); rintro en w7 ⟨rfl, hb7⟩; obtain ⟨HL7, HT7, x0, x1, x2, x3, xf⟩ := term_b (T0 := T0) HL6.out HT6.out hwz hb7; clear hb7))
          all_goals
            have hle6 := HL7.out.rd.le
            clear kx
            go_wp2
            go_roundg (L.length - i6)
            case measure => omega
            case rel =>
              have hs2 : s2 = ((ab L).drop i6, s2.2) := by rw [← Hs6.out]
              exact ⟨.cmp T0.text [t, u], _, i6, nv6, s2.2, p, g, rfl, rfl, by omega, by omega, Lib.hid (HL7.out.store HT7.out hlt (by omega) n68), Lib.hid (by rw [hX2.out, ← hs2])⟩
end Go.Proofs.YtcdmmcogegnieaaGreatDoor.rd
end
