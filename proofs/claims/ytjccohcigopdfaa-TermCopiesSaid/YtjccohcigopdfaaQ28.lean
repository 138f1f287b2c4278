/- The program's Variant: fits.; The reference's Variant; the law TermOrders.; Terms with other variables: when they are variants. No program in sight.; Rows of terms of a fixed length; the program's Subst$1. -/
import Derived.Test.YtjccohcigopdfaaQ27
import Derived.Test.YtjccohcigopdfaaQ25
import Derived.Test.YtjccohcigopdfaaQ26
import Derived.Test.YtjccohcigopdfaaQ22
set_option linter.unusedVariables false
set_option linter.unusedSimpArgs false
section
/- The program's Variant: fits. -/
namespace Go.Proofs.Ytjccohcigopdfaa.tm
open Go.RowKit
open Go.Shelf
open Go.Proofs.Ytjccohcigopdfaa.wr
open Go.Proofs.Ytjccohcigopdfaa.rd
open Go.Proofs.Ytjccohcigopdfaa.op (bs strC)
open Go.Proofs.Ytjccohcigopdfaa.lx (cell_at)
open Go.Proofs.Ytjccohcigopdfaa.nm (Fit)
set_option maxRecDepth 20000

theorem swap_fst (ps : Ps) : (ps.map Prod.swap).map Prod.fst = ps.map Prod.snd := by simp
theorem lk_back {ps : Ps} {a b : Int} (h : okP ps) (hm : (a, b) ∈ ps) : lk (ps.map Prod.swap) b = some a := lk_of (by rw [swap_fst]; exact h.2) (List.mem_map.2 ⟨(a, b), hm, rfl⟩)
theorem back_none {ps : Ps} {b : Int} : lk (ps.map Prod.swap) b = none ↔ b ∉ ps.map Prod.snd := by rw [lk_none, swap_fst]
theorem fxd {S : Nat → Prop} {n : Nat} {W wc : World} (h : Hid (Fx S W wc)) : Hid (Fx S W (wc.drewN n)) := Lib.hid (h.out.drew n)
theorem box_fx {W w5 : World} {S : Nat → Prop} {g : Nat} {a b c d : Value} (hx : W.heap[g]? = some (.cells #[a, b, c, d] 25 (0, 0))) (hS : ¬ S g) (h : Hid (Fx S W w5)) :
    w5.cell? ⟨g, 0, none⟩ = some a ∧ w5.cell? ⟨g, 1, none⟩ = some b ∧ w5.cell? ⟨g, 2, none⟩ = some c ∧ w5.cell? ⟨g, 3, none⟩ = some d := by
  obtain ⟨h0, h1, h2, h3, _⟩ := cells4 ((h.out.block g (lt_of hx) hS).trans hx)
  exact ⟨h0, h1, h2, h3⟩
/-- the two maps, and all else -/
structure Gs (r m1 m2 : Nat) (W : World) (k1 k2 : Nat) (ps qs : Ps) (wc : World) : Prop where
  fx : Fx (fun k => k = m1 ∨ k = m2) W wc
  there : Mw wc m1 k1 ps
  back : Mw wc m2 k2 qs
  far : r ≠ m1 ∧ r ≠ m2 ∧ m1 ≠ m2
theorem gs_drew {r m1 m2 k1 k2 n : Nat} {W wc : World} {ps qs : Ps} (h : Hid (Gs r m1 m2 W k1 k2 ps qs wc)) : Hid (Gs r m1 m2 W k1 k2 ps qs (wc.drewN n)) :=
  Lib.hid ⟨h.out.fx.drew n, h.out.there.keep rfl, h.out.back.keep rfl, h.out.far⟩
/-- how a pair of variables is said -/
theorem say_two {r m1 m2 k : Nat} {W : World} {ps : Ps} {a b : Int} (hk : k ≤ 4000) (hok : okP ps) (ha : Fit a) (hb : Fit b) : ∃ (r1 r2 : Bool) (k1 k2 : Nat) (p1 q2 : Ps), k1 ≤ k + 1 ∧ k2 ≤ k + 1 ∧ (r1 && r2) = (fitV ps a b).isSome ∧
    (∀ wc, Hid (Gs r m1 m2 W k k ps (ps.map Prod.swap) wc) → Calls Try.prog 49 #[.map (some m1), .int .i64 a, .int .i64 b] wc fun e w' => e = .returned (.bool r1) ∧ Hid (Gs r m1 m2 W (k + 1) k p1 (ps.map Prod.swap) w')) ∧
    (r1 = true → ∀ wc, Hid (Gs r m1 m2 W (k + 1) k p1 (ps.map Prod.swap) wc) → Calls Try.prog 49 #[.map (some m2), .int .i64 b, .int .i64 a] wc fun e w' => e = .returned (.bool r2) ∧ Hid (Gs r m1 m2 W (k + 1) (k + 1) p1 q2 w')) ∧
    (r1 = false → ∀ wc, Hid (Gs r m1 m2 W k k ps (ps.map Prod.swap) wc) → Calls Try.prog 49 #[.map (some m1), .int .i64 a, .int .i64 b] wc fun e w' => e = .returned (.bool false) ∧ wc = w') ∧
    ∀ qs, fitV ps a b = some qs → p1 = qs ∧ q2 = qs.map Prod.swap := by
  refine ⟨_, _, 0, 0, _, (match lk (ps.map Prod.swap) b with | some _ => ps.map Prod.swap | none => ps.map Prod.swap ++ [(b, a)]), by omega, by omega, ?_, fun wc h => (says_c h.out.there (by omega) ha hb).mono fun e w' ⟨h1, h2, h3, _⟩ => ⟨h1, Lib.hid ⟨h.out.fx.trans (h3.imp fun j hj => .inl hj), h2, h.out.back.keep (h3.block m2 h.out.back.lt (fun e => h.out.far.2.2 e.symm)), h.out.far⟩⟩,
    fun _ wc h => (says_c h.out.back (by omega) hb ha).mono fun e w' ⟨h1, h2, h3, _⟩ => ⟨h1, Lib.hid ⟨h.out.fx.trans (h3.imp fun j hj => .inr hj), h.out.there.keep (h3.block m1 h.out.there.lt (fun e => h.out.far.2.2 e)), h2, h.out.far⟩⟩, fun hr wc h => (says_c h.out.there (by omega) ha hb).mono fun e w' ⟨h1, h2, h3, h4⟩ => ⟨by rw [h1, hr], h4 (by cases hl : lk ps a with | some x => rfl | none => rw [hl] at hr; cases hr)⟩, ?_⟩
  · cases h1 : lk ps a with
    | some x =>
      have hm := lk_mem h1
      by_cases hx : x = b
      · subst hx
        rw [lk_back hok hm]
        simp [fitV, hm]
      · have hn : (a, b) ∉ ps := fun h => by
          have := lk_of hok.1 h
          rw [h1] at this
          cases this; exact hx rfl
        have hf : fitV ps a b = none := by rw [fitV, if_neg hn, if_pos (.inl (List.mem_map.2 ⟨_, hm, rfl⟩))]
        rw [hf]
        simp [hx]
    | none =>
      have hna := lk_none.1 h1
      have hn : (a, b) ∉ ps := fun h => hna (List.mem_map.2 ⟨_, h, rfl⟩)
      cases h2 : lk (ps.map Prod.swap) b with
      | some y =>
        have hm := lk_mem h2
        obtain ⟨⟨c, d⟩, hc, he⟩ := List.mem_map.1 hm
        have e1 : d = b := congrArg Prod.fst he
        have e2 : c = y := congrArg Prod.snd he
        have hy : y ≠ a := fun e => hna (List.mem_map.2 ⟨(c, d), hc, by show c = a; rw [e2, e]⟩)
        have hf : fitV ps a b = none := by rw [fitV, if_neg hn, if_pos (.inr (List.mem_map.2 ⟨(c, d), hc, e1⟩))]
        rw [hf]
        simp [hy]
      | none =>
        have hnb := back_none.1 h2
        have hf : fitV ps a b = some (ps ++ [(a, b)]) := by rw [fitV, if_neg hn, if_neg (fun h => h.elim hna hnb)]
        rw [hf]
        simp
  · intro qs hq
    unfold fitV at hq
    split at hq
    · rename_i hm
      cases hq
      rw [lk_of hok.1 hm, lk_back hok hm]
      exact ⟨rfl, rfl⟩
    · split at hq
      · cases hq
      · rename_i hn
        cases hq
        rw [lk_none.2 (fun h => hn (.inl h)), back_none.2 (fun h => hn (.inr h))]
        exact ⟨rfl, by simp⟩
set_option maxHeartbeats 1000000 in
theorem ft_step (u : U) (ih : EqOk u.l) : FtOk u := by
  intro v a a' b r m1 m2 n ps w hcl0 hn hz hA hR ha hc
  obtain ⟨p, cap, rfl, hfu, hP⟩ := ha.parts
  obtain ⟨q, cap', rfl, hfv, hQ⟩ := hc.parts
  have hl := hP.max
  have hl' := hP.le
  have hm := hQ.max
  have hm' := hQ.le
  unfold maxLen at hl hm
  have hrl := lt_of hR.box
  have hpos := szU_pos u
  obtain ⟨b0, b1, bz, bb⟩ := box2 w (.cells #[.int .i64 u.k, .int .i64 u.n, .string (bs u.s), .slice p u.l.length cap] 25) (.cells #[.int .i64 v.k, .int .i64 v.n, .string (bs v.s), .slice q v.l.length cap'] 25)
  have hR0 := hR.stay bb
  have c0 := hR0.cell.2.2
  have f0 := hR0.free 2
  have hR1 := hR0.down hA (n - 1) (by omega)
  have hF1 : Fx (S3 r m1 m2) w _ := Fx.set (S := S3 r m1 m2) (Fx.of bb) (p := ⟨r, 2, none⟩) (.inl (.inl rfl)) (.int .i64 ((n - 1 : Nat) : Int))
  have d0 := (Below.heap_setCell ((w.alloc (.cells #[.int .i64 u.k, .int .i64 u.n, .string (bs u.s), .slice p u.l.length cap] 25)).alloc (.cells #[.int .i64 v.k, .int .i64 v.n, .string (bs v.s), .slice q v.l.length cap'] 25)) ⟨r, 2, none⟩ (.int .i64 ((n - 1 : Nat) : Int)) w.heap.size (by show w.heap.size ≠ r; omega)).trans b0
  have d1 := (Below.heap_setCell ((w.alloc (.cells #[.int .i64 u.k, .int .i64 u.n, .string (bs u.s), .slice p u.l.length cap] 25)).alloc (.cells #[.int .i64 v.k, .int .i64 v.n, .string (bs v.s), .slice q v.l.length cap'] 25)) ⟨r, 2, none⟩ (.int .i64 ((n - 1 : Nat) : Int)) (w.heap.size + 1) (by show w.heap.size + 1 ≠ r; omega)).trans b1
  have hne : ((n - 1 : Nat) : Int) = (n : Int) - 1 := by omega
  have n0 : ((n : Int) == 0) = false := beq_eq_false_iff_ne.2 (by omega)
  have hbr := hA.b0
  have hww := hF1.below (b := b) (by omega) (fun k hk => by have h1 := hA.b1; have h2 := hA.b2; rcases hk with h | h | h <;> omega)
  have hP1 := hP.stay hww
  have hQ1 := hQ.stay hww
  rw [hne] at hR1 hF1 d0 d1 hP1 hQ1
  obtain ⟨t0, t1, t2, t3, _⟩ := cells4 b0
  obtain ⟨s0, s1, s2, s3, _⟩ := cells4 b1
  obtain ⟨x0, x1, x2, x3, _⟩ := cells4 d0
  obtain ⟨y0, y1, y2, y3, _⟩ := cells4 d1
  have HR1 := Lib.hid hR1
  have HF1 := Lib.hid hF1
  have HF0 := Lib.hid (Fx.of (S := S3 r m1 m2) bb)
  have hsz := szU_eq u
  have hft := fitU_eq u v ps
  have hcl4 := (cl_eq u).1 hcl0
  have hmf : ∀ (fn : Fn) (first cap : Array Value) (w : World), (Instr.makeFunc fn first cap).run Try.prog w = .ok (.func fn first cap) w := fun _ _ _ _ => rfl
  clear hrl
  unfold uV
  by_cases hk : u.k = v.k
  · rw [if_neg (fun h => h hk)] at hft
    have e0 : (u.k != v.k) = false := by simp [hk]
    by_cases h1 : u.k = 1
    · rw [if_pos h1] at hft
      rw [hft]
      obtain ⟨k, hk1, hM1', hM2'⟩ := hR0.maps
      have hM1 := hM1'.keep (Below.heap_setCell ((w.alloc (.cells #[.int .i64 u.k, .int .i64 u.n, .string (bs u.s), .slice p u.l.length cap] 25)).alloc (.cells #[.int .i64 v.k, .int .i64 v.n, .string (bs v.s), .slice q v.l.length cap'] 25)) ⟨r, 2, none⟩ (.int .i64 ((n : Int) - 1)) m1 (by show m1 ≠ r; exact fun e => hA.n1 e.symm))
      have hM2 := hM2'.keep (Below.heap_setCell ((w.alloc (.cells #[.int .i64 u.k, .int .i64 u.n, .string (bs u.s), .slice p u.l.length cap] 25)).alloc (.cells #[.int .i64 v.k, .int .i64 v.n, .string (bs v.s), .slice q v.l.length cap'] 25)) ⟨r, 2, none⟩ (.int .i64 ((n : Int) - 1)) m2 (by show m2 ≠ r; exact fun e => hA.n2 e.symm))
      have Hok := Lib.hid (fun qs (h : fitV ps u.n v.n = some qs) => (fitV_ok hR1.ok h).1)
      obtain ⟨r1, r2, j1, j2, p1, q2, _, _, hs, kA, kB, kF, hqs⟩ := say_two (r := r) (m1 := m1) (m2 := m2) (W := ((w.alloc (.cells #[.int .i64 u.k, .int .i64 u.n, .string (bs u.s), .slice p u.l.length cap] 25)).alloc (.cells #[.int .i64 v.k, .int .i64 v.n, .string (bs v.s), .slice q v.l.length cap'] 25)).setCell ⟨r, 2, none⟩ (.int .i64 ((n : Int) - 1))) (k := k) (by omega) hR1.ok hfu hfv
      have hG0 : Hid (Gs r m1 m2 _ k k ps (ps.map Prod.swap) _) := Lib.hid ⟨Fx.refl _ _, hM1, hM2, ⟨hA.n1, hA.n2, hA.n3⟩⟩
      have hbx := hR1.box
      have hpq := hR1.ok
      have hml1 := hM1.lt
      have hml2 := hM2.lt
      have hws1 := hF1.size
      have hA1 := Lib.hid hA
      have HD0 := Lib.hid d0
      have HD1 := Lib.hid d1
      have Hbx := Lib.hid hbx
      have Hqs := Lib.hid hqs
      have Hpq := Lib.hid hpq
      have Hk1 := Lib.hid hk1
      have hmw : Hid (m1 < w.heap.size ∧ m2 < w.heap.size) := Lib.hid (by obtain ⟨k', _, h2, h3⟩ := hR.maps; exact ⟨h2.lt, h3.lt⟩)
      clear hft ha hc hP hQ b0 b1 ih bb hR hR0 hR1 d0 d1 hww hP1 hQ1 hsz hcl4 hcl0 hM1 hM2 hM1' hM2' hqs hbx hpq hF1 hml1 hml2 hws1 hA hk1
      generalize fitV ps u.n v.n = X at *
      generalize u.l.length = l1 at *
      generalize v.l.length = l2 at *
      generalize bs u.s = s1 at *
      generalize bs v.s = s2 at *
      generalize u.n = n1 at *
      generalize v.n = n2 at *
      generalize szU u = sz at *
      generalize u.k = k1 at *
      generalize v.k = k2 at *
      subst hk
      subst h1
      go_enter Try.func35, Try.ntmps35
      go_wp2_with fail
      generalize World.setCell (World.alloc (World.alloc w _) _) _ _ = W at *
      have hgc : Hid (∀ wc, Fx (fun k => k = m1 ∨ k = m2) W wc → wc.cell? ⟨r, 0, none⟩ = some (.map (some m1)) ∧ wc.cell? ⟨r, 1, none⟩ = some (.map (some m2)) ∧ wc.cell? ⟨w.heap.size, 1, none⟩ = some (.int .i64 n1) ∧ wc.cell? ⟨w.heap.size + 1, 1, none⟩ = some (.int .i64 n2)) := Lib.hid fun wc h => by
        have hb := (h.block r (lt_of Hbx.out) (fun e => e.elim hA1.out.n1 hA1.out.n2)).trans Hbx.out
        obtain ⟨_, z1, _, _⟩ := box_fx HD0.out (fun e => by have := hmw.out; omega) (Lib.hid h)
        obtain ⟨_, z2, _, _⟩ := box_fx HD1.out (fun e => by have := hmw.out; omega) (Lib.hid h)
        exact ⟨by rw [cell_at hb]; rfl, by rw [cell_at hb]; rfl, z1, z2⟩
      obtain ⟨g0, g1, _, _⟩ := hgc.out W (Fx.refl _ _)
      have Hs := Lib.hid hs
      clear c0 f0 x0 x2 x3 y0 y2 y3 t0 t1 t2 t3 s0 s1 s2 s3 hs
      rcases Bool.eq_false_or_eq_true r1 with hr | hr
      · have kB := kB hr
        clear kF
        go_region_held3 (fun w' => w'.cell? ⟨r, 0, none⟩ = some (.map (some m1)) ∧ w'.cell? ⟨r, 1, none⟩ = some (.map (some m2)) ∧ w'.cell? ⟨w.heap.size, 1, none⟩ = some (.int .i64 n1) ∧ w'.cell? ⟨w.heap.size + 1, 1, none⟩ = some (.int .i64 n2))
          (first | exact hgc.out _ (Hid.out (by assumption : Hid (Gs r m1 m2 W (k + 1) (k + 1) p1 q2 _))).fx | exact hgc.out _ (Hid.out (by assumption : Hid (Gs r m1 m2 W (k + 1) k p1 (ps.map Prod.swap) _))).fx | go_keep)
          ((first
            | (go_at_call 49; (with_reducible refine (kA _ ?_).mono ?_); (first | assumption | exact gs_drew (by assumption)); rintro en w5 ⟨rfl, HG5⟩)
            | (go_at_call 49; (with_reducible refine (kB _ ?_).mono ?_); (first | assumption | exact gs_drew (by assumption)); rintro en w5 ⟨rfl, HG6⟩)))
        all_goals
          have HGf : Hid (Gs r m1 m2 W (k + 1) (k + 1) p1 q2 _) := (by first | assumption | exact gs_drew (by assumption))
          have hr2 : r2 = X.isSome := by have := Hs.out; rw [hr] at this; simpa using this
          clear kA kB
          go_wp2
          go_ret
          refine ⟨by rw [← hr2]; rfl, fun qs hq => ?_, HF1.out.trans (HGf.out.fx.imp fun j hj => .inr hj)⟩
          obtain ⟨rfl, rfl⟩ := Hqs.out qs hq
          exact ⟨n - 1, ⟨by rw [HGf.out.fx.block r (lt_of Hbx.out) (fun e => e.elim hA1.out.n1 hA1.out.n2)]; exact Hbx.out, ⟨k + 1, by have := Hk1.out; omega, HGf.out.there, HGf.out.back⟩, Hok.out _ hq⟩, by omega, by omega⟩
      · have hX : X = none := by have := Hs.out; rw [hr] at this; cases X with | none => rfl | some _ => cases this
        subst hX
        have kF2 : ∀ q, Calls Try.prog 49 #[.map (some m1), .int .i64 n1, .int .i64 n2] (W.drewN q) fun e w'' => e = .returned (.bool false) ∧ ∃ m, w'' = W.drewN m := fun q =>
          (kF hr _ (gs_drew hG0)).mono fun e w' ⟨h1, h2⟩ => ⟨h1, q, h2.symm⟩
        clear kA kB kF hr
        go_quiet ((go_at_call 49; exact kF2 _))
        go_wp2
        go_ret
        exact ⟨rfl, fun qs h => (by cases h), HF1.out.drew _⟩
    rw [if_neg h1] at hft
    by_cases h2 : u.k = 2
    · rw [if_pos h2] at hft
      have hb : (u.n == v.n) = decide (u.n = v.n) := by by_cases h : u.n = v.n <;> simp [h]
      have hi : (fitU u v ps).isSome = decide (u.n = v.n) := by rw [hft]; by_cases h : u.n = v.n <;> simp [h]
      have Hqs : Hid (∀ qs, fitU u v ps = some qs → qs = ps) := Lib.hid fun qs h => by rw [hft] at h; split at h <;> cases h; rfl
      clear hft ha hc hP hQ b0 b1 ih bb hR hR0 hR1 hF1 d0 d1 hww hP1 hQ1 hsz hcl4 hcl0 h1
      generalize fitU u v ps = X at *
      generalize decide (u.n = v.n) = D at *
      generalize u.l.length = l1 at *
      generalize v.l.length = l2 at *
      generalize bs u.s = s1 at *
      generalize bs v.s = s2 at *
      generalize u.n = n1 at *
      generalize v.n = n2 at *
      generalize szU u = sz at *
      generalize u.k = k1 at *
      generalize v.k = k2 at *
      subst hk
      subst h2
      go_enter Try.func35, Try.ntmps35
      go_wp2
      go_ret
      exact ⟨by rw [hi]; rfl, fun qs hq => by rw [Hqs.out qs hq]; exact ⟨n - 1, HR1.out, by omega, by omega⟩, HF1.out⟩
    rw [if_neg h2] at hft
    by_cases h3 : u.k = 3
    · rw [if_pos h3] at hft
      have hb := bs_beq (x := u.s) (y := v.s)
      have hi : (fitU u v ps).isSome = decide (u.s = v.s) := by rw [hft]; by_cases h : u.s = v.s <;> simp [h]
      have Hqs : Hid (∀ qs, fitU u v ps = some qs → qs = ps) := Lib.hid fun qs h => by rw [hft] at h; split at h <;> cases h; rfl
      clear hft ha hc hP hQ b0 b1 ih bb hR hR0 hR1 hF1 d0 d1 hww hP1 hQ1 hsz hcl4 hcl0 h1 h2
      generalize fitU u v ps = X at *
      generalize decide (u.s = v.s) = D at *
      generalize u.l.length = l1 at *
      generalize v.l.length = l2 at *
      generalize bs u.s = s1 at *
      generalize bs v.s = s2 at *
      generalize u.n = n1 at *
      generalize v.n = n2 at *
      generalize szU u = sz at *
      generalize u.k = k1 at *
      generalize v.k = k2 at *
      subst hk
      subst h3
      go_enter Try.func35, Try.ntmps35
      go_wp2
      go_ret
      exact ⟨by rw [hi]; rfl, fun qs hq => by rw [Hqs.out qs hq]; exact ⟨n - 1, HR1.out, by omega, by omega⟩, HF1.out⟩
    rw [if_neg h3] at hft
    have h4 : u.k = 4 ∧ clL u.l := by
      rcases hcl4 with h | h | h | h
      · exact absurd h.1 h1
      · exact absurd h.1 h2
      · exact absurd h.1 h3
      · exact ⟨h.1, h.2.2⟩
    have e1 : (u.k == 1) = false := beq_eq_false_iff_ne.2 h1
    have e2 : (u.k == 2) = false := beq_eq_false_iff_ne.2 h2
    have e3 : (u.k == 3) = false := beq_eq_false_iff_ne.2 h3
    rw [if_pos h4.1] at hsz
    by_cases hs : u.s = v.s
    · have kc := ih v.l p q cap cap' b r m1 m2 (n - 1) ps _ h4.2 (by omega) (by omega) hA hR1 hP1 hQ1
      have hX : (if u.l.length = v.l.length then fitL u.l v.l ps else none) = fitU u v ps := by
        rw [hft]
        by_cases h : u.l.length = v.l.length
        · rw [if_pos h, if_pos ⟨hs, h⟩]
        · rw [if_neg h, if_neg (fun h2 => h h2.2)]
      rw [hX] at kc
      have e5 : ((bs u.s).toList == (bs v.s).toList) = true := by rw [hs]; simp
      have HZ := Lib.hid hsz
      have Hz := Lib.hid hz
      clear hft ha hc hP hQ b0 b1 ih bb hR hR0 hR1 hF1 d0 d1 hww hP1 hQ1 hsz hcl4 hcl0 h1 h2 h3 hs h4 hz hX
      generalize fitU u v ps = X at *
      generalize szUL u.l = zl at *
      generalize u.l.length = l1 at *
      generalize v.l.length = l2 at *
      generalize bs u.s = s1 at *
      generalize bs v.s = s2 at *
      generalize u.n = n1 at *
      generalize v.n = n2 at *
      generalize szU u = sz at *
      generalize u.k = k1 at *
      generalize v.k = k2 at *
      subst hk
      go_enter Try.func35, Try.ntmps35
      go_wp2_with fail
      refine kc.mono ?_
      rintro e w2 ⟨rfl, hq, hF2⟩
      have HQ := Lib.hid hq
      have HF2 := Lib.hid (HF1.out.trans hF2)
      clear kc hq hF2
      go_wp2
      go_ret
      exact ⟨by simp, fun qs hq => by obtain ⟨m, k1, k2, k3⟩ := HQ.out qs hq; exact ⟨m, k1, by have := HZ.out; omega, by omega⟩, HF2.out⟩
    · have e5 : ((bs u.s).toList == (bs v.s).toList) = false := by rw [isL, isL]; exact beq_eq_false_iff_ne.2 hs
      have hX : fitU u v ps = none := by rw [hft, if_neg (fun h => hs h.1)]
      rw [hX]
      clear hft ha hc hP hQ b0 b1 ih bb hR hR0 hR1 hF1 d0 d1 hww hP1 hQ1 hsz hcl4 hcl0 h1 h2 h3 hs h4 hz hX
      generalize u.l.length = l1 at *
      generalize v.l.length = l2 at *
      generalize bs u.s = s1 at *
      generalize bs v.s = s2 at *
      generalize u.n = n1 at *
      generalize v.n = n2 at *
      generalize szU u = sz at *
      generalize u.k = k1 at *
      generalize v.k = k2 at *
      subst hk
      go_enter Try.func35, Try.ntmps35
      go_wp2
      go_ret
      exact ⟨rfl, fun qs h => (by cases h), HF1.out⟩
  · rw [if_pos hk] at hft
    rw [hft]
    have e0 : (u.k != v.k) = true := bne_iff_ne.2 hk
    have e00 : (u.k == v.k) = false := beq_eq_false_iff_ne.2 hk
    clear hft ha hc hP hQ b0 b1 ih bb hR hR0 hR1 hF1 d0 d1 hww hP1 hQ1 hsz hcl4 hcl0 hk x0 x1 x2 x3 y0 y1 y2 y3
    generalize u.l.length = l1 at *
    generalize v.l.length = l2 at *
    generalize bs u.s = s1 at *
    generalize bs v.s = s2 at *
    generalize u.n = n1 at *
    generalize v.n = n2 at *
    generalize szU u = sz at *
    generalize u.k = k1 at *
    generalize v.k = k2 at *
    go_enter Try.func35, Try.ntmps35
    go_wp2
    go_ret
    exact ⟨rfl, fun qs h => (by cases h), HF0.out⟩
theorem fits_c (u : U) : FtOk u := all_parts (P := FtOk) (fun u ih => ft_step u (eq_step u.l ih)) u
set_option maxHeartbeats 2000000 in
/-- are two terms variants -/
theorem variant_c {u v : U} {a a' : Value} {w : World} (hu : clU u) (hz : szU u ≤ 4000) (ha : Ru w.heap.size w u a) (hc : Ru w.heap.size w v a') :
    Calls Try.prog 16 #[uV u a, uV v a'] w fun e w' => e = .returned (.bool (varU u v)) ∧ Below w.heap.size w w' := by
  obtain ⟨p, cap, rfl, _, hP⟩ := ha.parts
  obtain ⟨q, cap', rfl, _, hQ⟩ := hc.parts
  have hmm := @run_makeMap Try.prog
  have kx : ∀ W2, W2 = ((((w.alloc (.cells #[.int .i64 u.k, .int .i64 u.n, .string (bs u.s), .slice p u.l.length cap] 25)).alloc (.cells #[.int .i64 v.k, .int .i64 v.n, .string (bs v.s), .slice q v.l.length cap'] 25)).alloc (.map #[] 0)).alloc (.map #[] 0)).alloc (.cells #[.map (some (w.heap.size + 1 + 1)), .map (some (w.heap.size + 1 + 1 + 1)), .int .i64 4000] 55) →
      Below w.heap.size w W2 ∧ W2.heap[w.heap.size]? = some (.cells #[.int .i64 u.k, .int .i64 u.n, .string (bs u.s), .slice p u.l.length cap] 25 (0, 0)) ∧ W2.heap[w.heap.size + 1]? = some (.cells #[.int .i64 v.k, .int .i64 v.n, .string (bs v.s), .slice q v.l.length cap'] 25 (0, 0)) ∧
      Calls Try.prog 35 #[.pointer (some ⟨w.heap.size + 1 + 1 + 1 + 1, 0, none⟩), uV u (.slice p u.l.length cap), uV v (.slice q v.l.length cap')] W2 (FtQ (w.heap.size + 1 + 1 + 1 + 1) (w.heap.size + 1 + 1) (w.heap.size + 1 + 1 + 1) 4000 (szU u) (fitU u v []) W2) := by
    rintro W2 rfl
    obtain ⟨b0, b1, bz, bb⟩ := box2 w (.cells #[.int .i64 u.k, .int .i64 u.n, .string (bs u.s), .slice p u.l.length cap] 25) (.cells #[.int .i64 v.k, .int .i64 v.n, .string (bs v.s), .slice q v.l.length cap'] 25)
    generalize (w.alloc (.cells #[.int .i64 u.k, .int .i64 u.n, .string (bs u.s), .slice p u.l.length cap] 25)).alloc (.cells #[.int .i64 v.k, .int .i64 v.n, .string (bs v.s), .slice q v.l.length cap'] 25) = V at *
    have hb : Below w.heap.size w _ := ((bb.alloc bb.size (.map #[] 0)).alloc (by rw [sizeA]; omega) (.map #[] 0)).alloc (by rw [sizeA, sizeA]; omega) (.cells #[.map (some (w.heap.size + 1 + 1)), .map (some (w.heap.size + 1 + 1 + 1)), .int .i64 4000] 55)
    have m1 := Mw.new V
    rw [bz] at m1
    have m2 := Mw.new (V.alloc (.map #[] 0))
    rw [sizeA, bz] at m2
    refine ⟨hb, ?_, ?_, fits_c u v _ _ w.heap.size _ _ _ 4000 [] _ hu (by omega) hz ⟨by omega, by omega, by omega, by omega, by omega, by omega⟩ ⟨?_, ⟨0, by omega, m1.keep ?_, m2.keep ?_⟩, ⟨by simp, by simp⟩⟩ (ha.stay hb) (hc.stay hb)⟩
    · rw [Lib.alloc_old _ _ _ (by rw [sizeA, sizeA]; omega), Lib.alloc_old _ _ _ (by rw [sizeA]; omega), Lib.alloc_old _ _ _ (by omega)]; exact b0
    · rw [Lib.alloc_old _ _ _ (by rw [sizeA, sizeA]; omega), Lib.alloc_old _ _ _ (by rw [sizeA]; omega), Lib.alloc_old _ _ _ (by omega)]; exact b1
    · have := heap_alloc_new ((V.alloc (.map #[] 0)).alloc (.map #[] 0)) (.cells #[.map (some (w.heap.size + 1 + 1)), .map (some (w.heap.size + 1 + 1 + 1)), .int .i64 4000] 55)
      rw [sizeA, sizeA, bz] at this
      exact this
    · rw [Lib.alloc_old _ _ _ (by rw [sizeA, sizeA]; omega), Lib.alloc_old _ _ _ (by rw [sizeA]; omega)]
    · rw [Lib.alloc_old _ _ _ (by rw [sizeA, sizeA]; omega)]
  obtain ⟨hb, hx0, hx1, kx⟩ := kx _ rfl
  have HB := Lib.hid hb
  obtain ⟨x0, x1, x2, x3, _⟩ := cells4 hx0
  obtain ⟨y0, y1, y2, y3, _⟩ := cells4 hx1
  have hvr : (fitU u v []).isSome = varU u v := rfl
  unfold uV at kx ⊢
  clear ha hc hP hQ hb hx0 hx1
  go_enter Try.func16, Try.ntmps16
  go_wp2_with fail
  refine kx.mono ?_
  rintro e w2 ⟨rfl, _, hF⟩
  have HB2 : Hid (Below w.heap.size w w2) := Lib.hid (HB.out.trans (hF.below (b := w.heap.size) HB.out.size (fun k hk => by rcases hk with h | h | h <;> omega)))
  clear kx hF x0 x1 x2 x3 y0 y1 y2 y3
  go_wp2
  go_ret
  exact ⟨by rw [← hvr]; rfl, HB2.out⟩
end Go.Proofs.Ytjccohcigopdfaa.tm
end
section
/- The reference's Variant; the law TermOrders. -/
namespace Go.Proofs.Ytjccohcigopdfaa.tm
open Go.RowKit
open Go.Proofs.Ytjccohcigopdfaa.wr
open Go.Proofs.Ytjccohcigopdfaa.rd
open Go.Proofs.Ytjccohcigopdfaa.op (bs strC)
open Go.Proofs.Ytjccohcigopdfaa.lx (cell_at)
open Go.Proofs.Ytjccohcigopdfaa.nm (Fit)
set_option maxRecDepth 20000

theorem rud_next {wc w6 : World} {D : Nat → Prop} {u : U} {a : Value} (h : Hid (RuD D wc u a)) (hb : Below wc.heap.size wc w6) : Hid (RuD D w6 u a) := Lib.hid (h.out.stay hb)
theorem rudd {n : Nat} {wc : World} {D : Nat → Prop} {u : U} {a : Value} (h : Hid (RuD D wc u a)) : Hid (RuD D (wc.drewN n) u a) := Lib.hid (h.out.stay (dN _ _ n))
/-- two rows, and all terms, stay -/
structure Vx (W wc : World) (l m : List Int) (v v' : Value) : Prop where
  low : Below W.heap.size W wc
set_option maxHeartbeats 2000000 in
theorem rvariant_c {u v : U} {a a' : Value} {w : World} (hu : clU u) (hv : clU v) (hz : szU u ≤ 4000) (hz' : szU v ≤ 4000) (ha : Ru w.heap.size w u a) (hc : Ru w.heap.size w v a') :
    Calls Try.prog 23 #[uV u a, uV v a'] w fun e w' => e = .returned (.bool (varU u v)) ∧ Below w.heap.size w w' := by
  obtain ⟨p, cap, rfl, _, hP⟩ := ha.parts
  obtain ⟨q, cap', rfl, _, hQ⟩ := hc.parts
  obtain ⟨b0, b1, bz, bb⟩ := box2 w (.cells #[.int .i64 u.k, .int .i64 u.n, .string (bs u.s), .slice p u.l.length cap] 25) (.cells #[.int .i64 v.k, .int .i64 v.n, .string (bs v.s), .slice q v.l.length cap'] 25)
  have HA := Lib.hid ((ha.stay bb).up bb.size)
  have HC := Lib.hid ((hc.stay bb).up bb.size)
  have HB := Lib.hid bb
  have HX := Lib.hid b0
  have HY := Lib.hid b1
  have hd := var_cmp hu hv
  have hl1 := vars_len u
  have hl2 := vars_len v
  unfold uV
  clear ha hc hP hQ b0 b1 bb
  go_enter Try.func23, Try.ntmps23
  go_wp2_with fail
  generalize World.alloc (World.alloc w _) _ = W at *
  have hW : Hid (Below W.heap.size W W) := Lib.hid (Below.refl _ _)
  have k1 : ∀ (wc : World), Hid (Below W.heap.size W wc) → Calls Try.prog 14 #[uV u (.slice p u.l.length cap)] wc fun e w' => ∃ x, e = .returned x ∧ Hid (Iw 0 w' x (varsU u)) ∧ Hid (Below W.heap.size W w') := fun wc h =>
    (rvars_c u _ _ ((HA.out.stay h.out).up h.out.size) (by omega)).mono fun e w' ⟨v, he, hv, hb⟩ => ⟨v, he, Lib.hid (hv.mono (Nat.zero_le _)), HBd h h.out.size hb⟩
  have k2 : ∀ (wc : World) (x : Value), Hid (Iw 0 wc x (varsU u)) → Hid (Below W.heap.size W wc) → Calls Try.prog 40 #[uV u (.slice p u.l.length cap), x] wc fun e w' => ∃ p1 c1, e = .returned (uV (numU (varsU u) u) (.slice p1 (numU (varsU u) u).l.length c1)) ∧ Hid (RuD (fun _ => True) w' (numU (varsU u) u) (.slice p1 (numU (varsU u) u).l.length c1)) ∧ Hid (Below W.heap.size W w') := fun wc x hx h =>
    (num_c _ (by omega) u _ x (fun _ => True) wc (RuD.of (fun _ _ => trivial) (HA.out.stay h.out)) (by omega) hx.out).mono fun e w' ⟨a, he, hr, hb⟩ => by
      obtain ⟨p1, c1, rfl, _⟩ := hr.one
      exact ⟨p1, c1, he, Lib.hid (hr.imp fun _ _ _ => trivial), HBd h h.out.size hb⟩
  have k3 : ∀ (wc : World), Hid (Below W.heap.size W wc) → Calls Try.prog 14 #[uV v (.slice q v.l.length cap')] wc fun e w' => ∃ x, e = .returned x ∧ Hid (Iw 0 w' x (varsU v)) ∧ Below wc.heap.size wc w' ∧ Hid (Below W.heap.size W w') := fun wc h =>
    (rvars_c v _ _ ((HC.out.stay h.out).up h.out.size) (by omega)).mono fun e w' ⟨v, he, hv, hb⟩ => ⟨v, he, Lib.hid (hv.mono (Nat.zero_le _)), hb, HBd h h.out.size hb⟩
  have k4 : ∀ (wc : World) (x : Value), Hid (Iw 0 wc x (varsU v)) → Hid (Below W.heap.size W wc) → Calls Try.prog 40 #[uV v (.slice q v.l.length cap'), x] wc fun e w' => ∃ p1 c1, e = .returned (uV (numU (varsU v) v) (.slice p1 (numU (varsU v) v).l.length c1)) ∧ Hid (RuD (fun _ => True) w' (numU (varsU v) v) (.slice p1 (numU (varsU v) v).l.length c1)) ∧ Below wc.heap.size wc w' ∧ Hid (Below W.heap.size W w') := fun wc x hx h =>
    (num_c _ (by omega) v _ x (fun _ => True) wc (RuD.of (fun _ _ => trivial) (HC.out.stay h.out)) (by omega) hx.out).mono fun e w' ⟨a, he, hr, hb⟩ => by
      obtain ⟨p1, c1, rfl, _⟩ := hr.one
      exact ⟨p1, c1, he, Lib.hid (hr.imp fun _ _ _ => trivial), hb, HBd h h.out.size hb⟩
  have k5 : ∀ (wc : World) (y z : U) (a b : Value), Hid (RuD (fun _ => True) wc y a) → Hid (RuD (fun _ => True) wc z b) → Hid (Below W.heap.size W wc) → Calls Try.prog 22 #[uV y a, uV z b] wc fun e w' => e = .returned (.int .i64 (cmpU y z)) ∧ Hid (Below W.heap.size W w') := fun wc y z a b h1 h2 h =>
    (rcmp_c y z _ _ wc h1.out.any h2.out.any).mono fun e w' ⟨he, hb⟩ => ⟨he, HBd h h.out.size hb⟩
  obtain ⟨x0, x1, x2, x3⟩ := box_at HX.out hW
  obtain ⟨y0, y1, y2, y3⟩ := box_at HY.out hW
  have hxy : Hid (∀ wc, Hid (Below W.heap.size W wc) → wc.cell? ⟨w.heap.size, 0, none⟩ = some (.int .i64 u.k) ∧ wc.cell? ⟨w.heap.size, 1, none⟩ = some (.int .i64 u.n) ∧ wc.cell? ⟨w.heap.size, 2, none⟩ = some (.string (bs u.s)) ∧ wc.cell? ⟨w.heap.size, 3, none⟩ = some (.slice p u.l.length cap) ∧ wc.cell? ⟨w.heap.size + 1, 0, none⟩ = some (.int .i64 v.k) ∧ wc.cell? ⟨w.heap.size + 1, 1, none⟩ = some (.int .i64 v.n) ∧ wc.cell? ⟨w.heap.size + 1, 2, none⟩ = some (.string (bs v.s)) ∧ wc.cell? ⟨w.heap.size + 1, 3, none⟩ = some (.slice q v.l.length cap')) := Lib.hid fun wc h => by
    obtain ⟨a0, a1, a2, a3⟩ := box_at HX.out h
    obtain ⟨c0, c1, c2, c3⟩ := box_at HY.out h
    exact ⟨a0, a1, a2, a3, c0, c1, c2, c3⟩
  unfold uV at k1 k2 k3 k4 k5
  clear hl1 hl2 hz hz' hu hv
  generalize numU (varsU u) u = U1 at *
  generalize numU (varsU v) v = V1 at *
  generalize varsU u = l1 at *
  generalize varsU v = l2 at *
  have hcv : (cmpU U1 V1 == 0) = decide (cmpU U1 V1 = 0) := by by_cases h : cmpU U1 V1 = 0 <;> simp [h]
  rw [hd] at hcv
  clear hd
  go_region_held3 (fun w' => w'.cell? ⟨w.heap.size, 0, none⟩ = some (.int .i64 u.k) ∧ w'.cell? ⟨w.heap.size, 1, none⟩ = some (.int .i64 u.n) ∧ w'.cell? ⟨w.heap.size, 2, none⟩ = some (.string (bs u.s)) ∧ w'.cell? ⟨w.heap.size, 3, none⟩ = some (.slice p u.l.length cap) ∧ w'.cell? ⟨w.heap.size + 1, 0, none⟩ = some (.int .i64 v.k) ∧ w'.cell? ⟨w.heap.size + 1, 1, none⟩ = some (.int .i64 v.n) ∧ w'.cell? ⟨w.heap.size + 1, 2, none⟩ = some (.string (bs v.s)) ∧ w'.cell? ⟨w.heap.size + 1, 3, none⟩ = some (.slice q v.l.length cap'))
    (first | exact hxy.out _ (by assumption) | go_keep)
    (first
      | (go_at_call 14; (with_reducible refine (k1 _ ?_).mono ?_); (first | assumption | exact bxd (by assumption)); rintro en w5 ⟨v1, rfl, HI5, HB5⟩)
      | (go_at_call 40; (with_reducible refine (k2 _ _ ?_ ?_).mono ?_); (first | assumption | exact iwd (by assumption)); (first | assumption | exact bxd (by assumption)); rintro en w6 ⟨p6, c6, rfl, HR6, HB6⟩)
      | (go_at_call 14; (with_reducible refine (k3 _ ?_).mono ?_); (first | assumption | exact bxd (by assumption)); rintro en w7 ⟨v2, rfl, HI7, hb7, HB7⟩; have HR7 := rud_next (D := fun _ => True) (u := U1) (by first | assumption | exact rudd (by assumption)) hb7; clear hb7)
      | (go_at_call 40; (with_reducible refine (k4 _ _ ?_ ?_).mono ?_); (first | assumption | exact iwd (by assumption)); (first | assumption | exact bxd (by assumption)); rintro en w8 ⟨p8, c8, rfl, HR8, hb8, HB8⟩; have HR9 := rud_next (D := fun _ => True) (u := U1) (by first | assumption | exact rudd (by assumption)) hb8; clear hb8)
      | (go_at_call 22; (refine (k5 _ U1 V1 _ _ (by first | assumption | exact rudd (by assumption)) (by first | assumption | exact rudd (by assumption)) (by first | assumption | exact bxd (by assumption))).mono ?_); rintro en w9 ⟨rfl, HB9⟩))
  all_goals
    clear k1 k2 k3 k4 k5
    go_wp2
    go_ret
    exact ⟨by first | (rw [← hcv]; rfl) | simp [hcv], HB.out.trans ((show Hid (Below W.heap.size W _) from (by first | assumption | exact bxd (by assumption))).out.mono HB.out.size)⟩
/-- a world that has grown -/
structure Ext (W : World) where
  w : World
  h : Below W.heap.size W w
instance (W : World) : Inhabited (Ext W) := ⟨⟨W, Below.refl _ _⟩⟩
theorem region_ext {id : Nat} {Q : Exit → Act → World → Prop} {a : Act} {W w : World} {l : List Oper} (h0 : Below W.heap.size W w) (hm : (Try.prog).follows .mixedOrders = true) (hB : Region.lexB .any l.toArray = true)
    (h : wpQuiet Try.prog l.toArray (fun w' => ∃ p : Ext W, w' = p.w) (fun a' => ∀ w', (∃ p : Ext W, w' = p.w) → Q .normal a' w') l a) : (Code.region id l.toArray true).wp Try.prog Q a w :=
  wp_region_quiet (C := fun w' => ∃ p : Ext W, w' = p.w) hm hB ⟨⟨_, h0.trans (dN _ w 1)⟩, rfl⟩ (by simpa using h)
theorem call_ext {F : Nat} {args : Array Value} {W : World} {v : Value} (c : ∀ (wc : World), Hid (Below W.heap.size W wc) → Calls Try.prog F args wc fun e w' => e = .returned v ∧ Hid (Below W.heap.size W w')) (p : Ext W) : Calls Try.prog F args p.w fun e w'' => e = .returned v ∧ ∃ q : Ext W, w'' = q.w :=
  (c p.w (Lib.hid p.h)).mono fun _ w' ⟨he, hb⟩ => ⟨he, ⟨w', hb.out⟩, rfl⟩
theorem varI : varU uI uI = true := var_self clI
set_option maxHeartbeats 4000000 in
theorem orders_w (s t : ByteArray) (w : World) (hz : s.size ≤ 9223372036854775807) (hz' : t.size ≤ 9223372036854775807) :
    Calls Try.prog 5 #[.string s, .string t] w fun e w' => e = .returned (.bool true) ∧ Below w.heap.size w w' := by
  have k1 := one_c s w hz
  have k2 := fun W => one_c t W hz'
  clear hz hz'
  go_enter Try.func5, Try.ntmps5
  go_wp2_with fail
  refine k1.mono ?_
  clear k1
  rintro e w1 ⟨u, a, ok, rfl, hru, hok, hb⟩
  obtain ⟨p, cap, rfl, _⟩ := hru.parts
  have hx := heap_alloc_new w1 (.cells #[.int .i64 u.k, .int .i64 u.n, .string (bs u.s), .slice p u.l.length cap] 25)
  have hB1 := allocB w1 (.cells #[.int .i64 u.k, .int .i64 u.n, .string (bs u.s), .slice p u.l.length cap] 25)
  have HB1 := Lib.hid (hb.trans (hB1.mono hb.size))
  have HU1 := Lib.hid ((hru.stay hB1).up hB1.size)
  have HX1 := Lib.hid hx
  have Hok := Lib.hid hok
  unfold uV
  clear hb hru hok hB1 hx
  go_wp2_with fail
  refine (k2 _).mono ?_
  clear k2
  rintro e w2 ⟨v, a', ok', rfl, hrv, hok', hb⟩
  obtain ⟨q, cap', rfl, _⟩ := hrv.parts
  have hy := heap_alloc_new w2 (.cells #[.int .i64 v.k, .int .i64 v.n, .string (bs v.s), .slice q v.l.length cap'] 25)
  have hB2 := allocB w2 (.cells #[.int .i64 v.k, .int .i64 v.n, .string (bs v.s), .slice q v.l.length cap'] 25)
  have hb2 := hb.trans (hB2.mono hb.size)
  have HB2 := Lib.hid (HB1.out.trans (hb2.mono HB1.out.size))
  have HU2 := Lib.hid ((HU1.out.stay hb2).up hb2.size)
  have HV2 := Lib.hid ((hrv.stay hB2).up hB2.size)
  have HX2 := Lib.hid ((hb2.block w1.heap.size (lt_of HX1.out)).trans HX1.out)
  have HY2 := Lib.hid hy
  have Hok' := Lib.hid hok'
  unfold uV
  clear hb hrv hok' hB2 hy hb2 HX1 HU1 HB1
  by_cases hoo : ok = true ∧ ok' = true
  · obtain ⟨rfl, rfl⟩ := hoo
    have hR := Hok.out rfl
    have hR' := Hok'.out rfl
    have cU := hR.cl
    have zU := hR.sz
    have cV := hR'.cl
    have zV := hR'.sz
    obtain ⟨x0, x1, x2, x3, _⟩ := cells4 HX2.out
    obtain ⟨y0, y1, y2, y3, _⟩ := cells4 HY2.out
    clear hR hR' Hok Hok'
    go_wp2_with fail
    clear x0 x1 x2 x3 y0 y1 y2 y3
    generalize World.alloc w2 _ = W at *
    have hW : Hid (Below W.heap.size W W) := Lib.hid (Below.refl _ _)
    have c1 : ∀ (wc : World), Hid (Below W.heap.size W wc) → Calls Try.prog 21 #[uV u (.slice p u.l.length cap), uV v (.slice q v.l.length cap')] wc fun e w' => e = .returned (.int .i64 (cmpU u v)) ∧ Hid (Below W.heap.size W w') := fun wc h =>
      (compare_c cU (by omega) ((HU2.out.stay h.out).up h.out.size) ((HV2.out.stay h.out).up h.out.size)).mono fun e w' ⟨he, hb⟩ => ⟨he, HBd h h.out.size hb⟩
    have c2 : ∀ (wc : World), Hid (Below W.heap.size W wc) → Calls Try.prog 22 #[uV u (.slice p u.l.length cap), uV v (.slice q v.l.length cap')] wc fun e w' => e = .returned (.int .i64 (cmpU u v)) ∧ Hid (Below W.heap.size W w') := fun wc h =>
      (rcmp_c u v _ _ wc ((HU2.out.stay h.out).up h.out.size) ((HV2.out.stay h.out).up h.out.size)).mono fun e w' ⟨he, hb⟩ => ⟨he, HBd h h.out.size hb⟩
    have c3 : ∀ (wc : World), Hid (Below W.heap.size W wc) → Calls Try.prog 21 #[uV v (.slice q v.l.length cap'), uV u (.slice p u.l.length cap)] wc fun e w' => e = .returned (.int .i64 (-cmpU u v)) ∧ Hid (Below W.heap.size W w') := fun wc h =>
      (compare_c cV (by omega) ((HV2.out.stay h.out).up h.out.size) ((HU2.out.stay h.out).up h.out.size)).mono fun e w' ⟨he, hb⟩ => ⟨by rw [he, cmp_neg u v], HBd h h.out.size hb⟩
    have c4 : ∀ (wc : World), Hid (Below W.heap.size W wc) → Calls Try.prog 21 #[uV u (.slice p u.l.length cap), uV u (.slice p u.l.length cap)] wc fun e w' => e = .returned (.int .i64 0) ∧ Hid (Below W.heap.size W w') := fun wc h =>
      (compare_c cU (by omega) ((HU2.out.stay h.out).up h.out.size) ((HU2.out.stay h.out).up h.out.size)).mono fun e w' ⟨he, hb⟩ => ⟨by rw [he, cmp_self u], HBd h h.out.size hb⟩
    have c5 : ∀ (wc : World), Hid (Below W.heap.size W wc) → Calls Try.prog 16 #[uV u (.slice p u.l.length cap), uV v (.slice q v.l.length cap')] wc fun e w' => e = .returned (.bool (varU u v)) ∧ Hid (Below W.heap.size W w') := fun wc h =>
      (variant_c cU (by omega) ((HU2.out.stay h.out).up h.out.size) ((HV2.out.stay h.out).up h.out.size)).mono fun e w' ⟨he, hb⟩ => ⟨he, HBd h h.out.size hb⟩
    have c6 : ∀ (wc : World), Hid (Below W.heap.size W wc) → Calls Try.prog 23 #[uV u (.slice p u.l.length cap), uV v (.slice q v.l.length cap')] wc fun e w' => e = .returned (.bool (varU u v)) ∧ Hid (Below W.heap.size W w') := fun wc h =>
      (rvariant_c cU cV (by omega) (by omega) ((HU2.out.stay h.out).up h.out.size) ((HV2.out.stay h.out).up h.out.size)).mono fun e w' ⟨he, hb⟩ => ⟨he, HBd h h.out.size hb⟩
    have c7 : ∀ (wc : World), Hid (Below W.heap.size W wc) → Calls Try.prog 16 #[uV v (.slice q v.l.length cap'), uV u (.slice p u.l.length cap)] wc fun e w' => e = .returned (.bool (varU u v)) ∧ Hid (Below W.heap.size W w') := fun wc h =>
      (variant_c cV (by omega) ((HV2.out.stay h.out).up h.out.size) ((HU2.out.stay h.out).up h.out.size)).mono fun e w' ⟨he, hb⟩ => ⟨by rw [he, var_comm cU cV], HBd h h.out.size hb⟩
    have c8 : ∀ (wc : World), Hid (Below W.heap.size W wc) → Calls Try.prog 16 #[uV u (.slice p u.l.length cap), uV u (.slice p u.l.length cap)] wc fun e w' => e = .returned (.bool true) ∧ Hid (Below W.heap.size W w') := fun wc h =>
      (variant_c cU (by omega) ((HU2.out.stay h.out).up h.out.size) ((HU2.out.stay h.out).up h.out.size)).mono fun e w' ⟨he, hb⟩ => ⟨by rw [he, var_self cU], HBd h h.out.size hb⟩
    have hxy : Hid (∀ wc, Hid (Below W.heap.size W wc) → wc.cell? ⟨w1.heap.size, 0, none⟩ = some (.int .i64 u.k) ∧ wc.cell? ⟨w1.heap.size, 1, none⟩ = some (.int .i64 u.n) ∧ wc.cell? ⟨w1.heap.size, 2, none⟩ = some (.string (bs u.s)) ∧ wc.cell? ⟨w1.heap.size, 3, none⟩ = some (.slice p u.l.length cap) ∧ wc.cell? ⟨w2.heap.size, 0, none⟩ = some (.int .i64 v.k) ∧ wc.cell? ⟨w2.heap.size, 1, none⟩ = some (.int .i64 v.n) ∧ wc.cell? ⟨w2.heap.size, 2, none⟩ = some (.string (bs v.s)) ∧ wc.cell? ⟨w2.heap.size, 3, none⟩ = some (.slice q v.l.length cap')) := Lib.hid fun wc h => by
      obtain ⟨a0, a1, a2, a3⟩ := box_at HX2.out h
      obtain ⟨c0, c1, c2, c3⟩ := box_at HY2.out h
      exact ⟨a0, a1, a2, a3, c0, c1, c2, c3⟩
    have hin := cmp_in u v
    unfold uV at c1 c2 c3 c4 c5 c6 c7 c8
    clear cU zU cV zV HU2 HV2 HX2 HY2
    generalize cmpU u v = r at *
    generalize varU u v = vb at *
    generalize w1.heap.size = B1 at *
    generalize w2.heap.size = B2 at *
    refine (c1 _ hW).mono ?_
    rintro e w3 ⟨rfl, HB3⟩
    obtain ⟨x0, x1, x2, x3, y0, y1, y2, y3⟩ := hxy.out _ HB3
    have d2 := call_ext c2
    have d3 := call_ext c3
    have d4 := call_ext c4
    have d5 := call_ext c5
    have d6 := call_ext c6
    have d7 := call_ext c7
    have d8 := call_ext c8
    have z0 : ∀ p : Ext W, p.w.cell? ⟨B1, 0, none⟩ = some (.int .i64 u.k) := fun p => (hxy.out _ (Lib.hid p.h)).1
    have z1 : ∀ p : Ext W, p.w.cell? ⟨B1, 1, none⟩ = some (.int .i64 u.n) := fun p => (hxy.out _ (Lib.hid p.h)).2.1
    have z2 : ∀ p : Ext W, p.w.cell? ⟨B1, 2, none⟩ = some (.string (bs u.s)) := fun p => (hxy.out _ (Lib.hid p.h)).2.2.1
    have z3 : ∀ x : Ext W, x.w.cell? ⟨B1, 3, none⟩ = some (.slice p u.l.length cap) := fun x => (hxy.out _ (Lib.hid x.h)).2.2.2.1
    have z4 : ∀ x : Ext W, x.w.cell? ⟨B2, 0, none⟩ = some (.int .i64 v.k) := fun x => (hxy.out _ (Lib.hid x.h)).2.2.2.2.1
    have z5 : ∀ x : Ext W, x.w.cell? ⟨B2, 1, none⟩ = some (.int .i64 v.n) := fun x => (hxy.out _ (Lib.hid x.h)).2.2.2.2.2.1
    have z6 : ∀ x : Ext W, x.w.cell? ⟨B2, 2, none⟩ = some (.string (bs v.s)) := fun x => (hxy.out _ (Lib.hid x.h)).2.2.2.2.2.2.1
    have z7 : ∀ x : Ext W, x.w.cell? ⟨B2, 3, none⟩ = some (.slice q v.l.length cap') := fun x => (hxy.out _ (Lib.hid x.h)).2.2.2.2.2.2.2
    have HB3' := HB3.out
    have HF : Hid (∀ x : Ext W, Below w.heap.size w x.w) := Lib.hid fun x => HB2.out.trans (x.h.mono HB2.out.size)
    clear c1 c2 c3 c4 c5 c6 c7 c8 x0 x1 x2 x3 y0 y1 y2 y3
    rcases hin with hr | hr | hr
    · subst hr
      simp only [Int.neg_neg] at d3
      go_wp2_with fail
      refine region_ext HB3' (by kernel_rfl) (by kernel_rfl) ?_
      repeat (quiet_step (first
        | (go_at_call 22; exact d2 _)
        | (go_at_call 21; with_reducible exact d3 _)
        | (go_at_call 21; with_reducible exact d4 _)
        | (go_at_call 23; exact d6 _)
        | (go_at_call 16; with_reducible exact d5 _)
        | (go_at_call 16; with_reducible exact d7 _)
        | (go_at_call 16; with_reducible exact d8 _)))
      refine wpQuiet_nil ?_
      intro _ hw'
      obtain ⟨xw, hw''⟩ := hw'
      subst hw''
      clear d2 d3 d4 d5 d6 d7 d8
      go_wp2
      go_ret
      exact ⟨by first | rfl | simp, HF.out xw⟩
    · subst hr
      simp only [Int.neg_zero] at d3
      go_wp2_with fail
      refine region_ext HB3' (by kernel_rfl) (by kernel_rfl) ?_
      repeat (quiet_step (first
        | (go_at_call 22; exact d2 _)
        | (go_at_call 21; with_reducible exact d3 _)
        | (go_at_call 21; with_reducible exact d4 _)
        | (go_at_call 23; exact d6 _)
        | (go_at_call 16; with_reducible exact d5 _)
        | (go_at_call 16; with_reducible exact d7 _)
        | (go_at_call 16; with_reducible exact d8 _)))
      refine wpQuiet_nil ?_
      intro _ hw'
      obtain ⟨xw, hw''⟩ := hw'
      subst hw''
      clear d2 d3 d4 d5 d6 d7 d8
      go_wp2
      go_ret
      exact ⟨by first | rfl | simp, HF.out xw⟩
    · subst hr
      go_wp2_with fail
      refine region_ext HB3' (by kernel_rfl) (by kernel_rfl) ?_
      repeat (quiet_step (first
        | (go_at_call 22; exact d2 _)
        | (go_at_call 21; with_reducible exact d3 _)
        | (go_at_call 21; with_reducible exact d4 _)
        | (go_at_call 23; exact d6 _)
        | (go_at_call 16; with_reducible exact d5 _)
        | (go_at_call 16; with_reducible exact d7 _)
        | (go_at_call 16; with_reducible exact d8 _)))
      refine wpQuiet_nil ?_
      intro _ hw'
      obtain ⟨xw, hw''⟩ := hw'
      subst hw''
      clear d2 d3 d4 d5 d6 d7 d8
      go_wp2
      go_ret
      exact ⟨by first | rfl | simp, HF.out xw⟩
  · have kv := variant_c clI (by rw [szI]; omega) (ruI (w2.alloc (.cells #[.int .i64 v.k, .int .i64 v.n, .string (bs v.s), .slice q v.l.length cap'] 25))) (ruI (w2.alloc (.cells #[.int .i64 v.k, .int .i64 v.n, .string (bs v.s), .slice q v.l.length cap'] 25)))
    rw [varI] at kv
    unfold uI uV at kv
    have ebs : bs [] = { data := #[] } := rfl
    simp only [U.k, U.n, U.s, ebs] at kv
    clear HU2 HV2 HX2 HY2 Hok Hok'
    have fin : ∀ e w3, (e = Ending.returned (.bool true) ∧ Below (w2.alloc (.cells #[.int .i64 v.k, .int .i64 v.n, .string (bs v.s), .slice q v.l.length cap'] 25)).heap.size (w2.alloc (.cells #[.int .i64 v.k, .int .i64 v.n, .string (bs v.s), .slice q v.l.length cap'] 25)) w3) → e = .returned (.bool true) ∧ Hid (Below w.heap.size w w3) := fun e w3 ⟨h1, h2⟩ => ⟨h1, Lib.hid (HB2.out.trans (h2.mono HB2.out.size))⟩
    have kv2 := kv.mono fun e w3 h => fin e w3 h
    clear kv fin
    cases ok with
    | false =>
      go_wp2_with fail
      refine kv2.mono ?_
      rintro e w3 ⟨rfl, HB3⟩
      clear kv2
      go_wp2
      go_ret
      exact ⟨rfl, HB3.out⟩
    | true =>
      cases ok' with
      | false =>
        go_wp2_with fail
        refine kv2.mono ?_
        rintro e w3 ⟨rfl, HB3⟩
        clear kv2
        go_wp2
        go_ret
        exact ⟨rfl, HB3.out⟩
      | true => exact absurd ⟨rfl, rfl⟩ hoo
end Go.Proofs.Ytjccohcigopdfaa.tm
end
section
/- Terms with other variables: when they are variants. No program in sight. -/
namespace Go.Proofs.Ytjccohcigopdfaa.tm
open Go.Proofs.Ytjccohcigopdfaa.wr
open Go.Proofs.Ytjccohcigopdfaa.op (bs)
set_option maxRecDepth 20000

mutual
/-- with other terms in the places of its variables -/
def sbU (g : U → U) : U → U
  | .mk k n s l => if k = 1 then g (.mk k n s l) else if k = 4 then .mk 4 0 s (sbL g l) else .mk k n s l
def sbL (g : U → U) : List U → List U
  | [] => []
  | u :: l => sbU g u :: sbL g l
end
theorem sbU_eq (g : U → U) (u : U) : sbU g u = if u.k = 1 then g u else if u.k = 4 then .mk 4 0 u.s (sbL g u.l) else u := by cases u; rw [sbU]; rfl
theorem sbL_map (g : U → U) (l : List U) : sbL g l = l.map (sbU g) := by
  induction l with
  | nil => rw [sbL]; rfl
  | cons u l ih => rw [sbL, ih]; rfl
theorem sbL_len (g : U → U) (l : List U) : (sbL g l).length = l.length := by rw [sbL_map, List.length_map]
/-- what stands in the place of a variable -/
def gT (l : List U) (u : U) : U := if 0 ≤ u.n ∧ u.n < (l.length : Nat) ∧ (l.getD u.n.toNat dfU).k ≠ 0 then l.getD u.n.toNat dfU else u
/-- a variable -/
def vrU (n : Int) : U := .mk 1 n [] []
def sgI (to : List Int) (n : Int) : Int := if 0 ≤ n ∧ n < (to.length : Nat) then to.getD n.toNat 0 else n
theorem gT_var (to : List Int) (n : Int) : gT (to.map vrU) (vrU n) = vrU (sgI to n) := by
  unfold gT sgI
  show (if 0 ≤ n ∧ n < ((to.map vrU).length : Nat) ∧ ((to.map vrU).getD n.toNat dfU).k ≠ 0 then (to.map vrU).getD n.toNat dfU else vrU n) = _
  rw [List.length_map]
  by_cases h : 0 ≤ n ∧ n < (to.length : Nat)
  · have hi : n.toNat < to.length := by omega
    have e : (to.map vrU).getD n.toNat dfU = vrU (to.getD n.toNat 0) := by simp [hi]
    rw [e, if_pos ⟨h.1, h.2, by show (1 : Int) ≠ 0; decide⟩, if_pos h]
  · rw [if_neg (fun k => h ⟨k.1, k.2.1⟩), if_neg h]
mutual
theorem sb_cl (σ : Int → Int) (g : U → U) (hg : ∀ n, g (vrU n) = vrU (σ n)) : ∀ (u : U), clU u → clU (sbU g u) ∧ szU (sbU g u) = szU u ∧ dpU (sbU g u) = dpU u
  | .mk k n s l, h => by
    rw [clU] at h
    rw [sbU]
    rcases h with ⟨rfl, rfl, rfl⟩ | ⟨rfl, h1, h2⟩ | ⟨rfl, h1, h2⟩ | ⟨rfl, rfl, h⟩
    · rw [if_pos rfl, show U.mk 1 n [] [] = vrU n from rfl, hg]
      refine ⟨by unfold vrU; rw [clU]; exact .inl ⟨rfl, rfl, rfl⟩, ?_, ?_⟩
      · simp [vrU, szU]
      · simp [vrU, dpU]
    · rw [if_neg (by omega), if_neg (by omega), clU]; exact ⟨.inr (.inl ⟨rfl, h1, h2⟩), rfl, rfl⟩
    · rw [if_neg (by omega), if_neg (by omega), clU]; exact ⟨.inr (.inr (.inl ⟨rfl, h1, h2⟩)), rfl, rfl⟩
    · obtain ⟨k1, k2, k3⟩ := sbL_cl σ g hg l h
      rw [if_neg (by omega), if_pos rfl, clU, szU, szU, dpU, dpU, k2, k3]
      exact ⟨.inr (.inr (.inr ⟨rfl, rfl, k1⟩)), rfl, rfl⟩
theorem sbL_cl (σ : Int → Int) (g : U → U) (hg : ∀ n, g (vrU n) = vrU (σ n)) : ∀ (l : List U), clL l → clL (sbL g l) ∧ szUL (sbL g l) = szUL l ∧ dpL (sbL g l) = dpL l
  | [], _ => by rw [sbL]; exact ⟨by rw [clL]; trivial, rfl, rfl⟩
  | u :: l, h => by
    rw [clL] at h
    obtain ⟨a1, a2, a3⟩ := sb_cl σ g hg u h.1
    obtain ⟨b1, b2, b3⟩ := sbL_cl σ g hg l h.2
    rw [sbL, clL, szUL, szUL, dpL, dpL, a2, a3, b2, b3]
    exact ⟨⟨a1, b1⟩, rfl, rfl⟩
end
/-- one to one on these numbers -/
def InjO (σ : Int → Int) (L : List Int) : Prop := ∀ a, a ∈ L → ∀ b, b ∈ L → σ a = σ b → a = b
theorem InjO.sub {σ : Int → Int} {L M : List Int} (h : InjO σ M) (hs : ∀ a, a ∈ L → a ∈ M) : InjO σ L := fun a ha b hb e => h a (hs a ha) b (hs b hb) e
theorem fitV_inj {σ : Int → Int} {ps : Ps} {a : Int} (hc : ∀ p, p ∈ ps → p.2 = σ p.1) (hp : okP ps) : ((fitV ps a (σ a)).isSome = true ↔ InjO σ (addV (ps.map Prod.fst) a)) ∧ ∀ qs, fitV ps a (σ a) = some qs → (∀ p, p ∈ qs → p.2 = σ p.1) ∧ okP qs ∧ qs.map Prod.fst = addV (ps.map Prod.fst) a := by
  have h0 : InjO σ (ps.map Prod.fst) := by
    intro x hx y hy e
    obtain ⟨p, hp1, rfl⟩ := List.mem_map.1 hx
    obtain ⟨q, hq1, rfl⟩ := List.mem_map.1 hy
    obtain ⟨i, hi, rfl⟩ := List.getElem_of_mem hp1
    obtain ⟨j, hj, rfl⟩ := List.getElem_of_mem hq1
    have e2 : (ps.map Prod.snd)[i]'(by simpa using hi) = (ps.map Prod.snd)[j]'(by simpa using hj) := by
      rw [List.getElem_map, List.getElem_map, hc _ (List.getElem_mem _), hc _ (List.getElem_mem _)]; exact e
    have p1 := posI_at hp.2 (i := i) (by simpa using hi)
    have p2 := posI_at hp.2 (i := j) (by simpa using hj)
    rw [e2, p2] at p1
    have e3 : j = i := by omega
    subst e3; rfl
  refine ⟨?_, fun qs hq => ?_⟩
  · unfold fitV
    by_cases hm : (a, σ a) ∈ ps
    · rw [if_pos hm]
      rw [addV, if_pos (List.mem_map.2 ⟨_, hm, rfl⟩)]
      exact ⟨fun _ => h0, fun _ => rfl⟩
    · have ha : a ∉ ps.map Prod.fst := fun h => by
        obtain ⟨p, hp1, rfl⟩ := List.mem_map.1 h
        exact hm (by rw [← hc p hp1]; exact hp1)
      rw [if_neg hm]
      by_cases hb : σ a ∈ ps.map Prod.snd
      · rw [if_pos (.inr hb)]
        refine ⟨fun h => by simp at h, fun h => ?_⟩
        exfalso
        obtain ⟨p, hp1, hp2⟩ := List.mem_map.1 hb
        rw [hc p hp1] at hp2
        have := h p.1 ((addV_mem _ _ _).2 (.inl (List.mem_map.2 ⟨_, hp1, rfl⟩))) a ((addV_mem _ _ _).2 (.inr rfl)) hp2
        exact ha (by rw [← this]; exact List.mem_map.2 ⟨_, hp1, rfl⟩)
      · rw [if_neg (fun h => h.elim ha hb)]
        refine ⟨fun _ => ?_, fun _ => rfl⟩
        have key : ∀ x, x ∈ ps.map Prod.fst → σ x ≠ σ a := fun x hx e => by
          obtain ⟨p, hp1, rfl⟩ := List.mem_map.1 hx
          exact hb (by rw [← e, ← hc p hp1]; exact List.mem_map.2 ⟨_, hp1, rfl⟩)
        intro x hx y hy e
        rcases (addV_mem _ _ _).1 hx with h1 | h1
        · rcases (addV_mem _ _ _).1 hy with h2 | h2
          · exact h0 x h1 y h2 e
          · rw [h2] at e; exact absurd e (key x h1)
        · rcases (addV_mem _ _ _).1 hy with h2 | h2
          · rw [h1] at e; exact absurd e.symm (key y h2)
          · rw [h1, h2]
  · obtain ⟨k1, k2, _⟩ := fitV_ok hp hq
    refine ⟨?_, k1, k2⟩
    unfold fitV at hq
    split at hq
    · cases hq; exact hc
    · split at hq
      · cases hq
      · cases hq
        intro p hp1
        rcases List.mem_append.1 hp1 with h | h
        · exact hc p h
        · rw [List.mem_singleton.1 h]
mutual
theorem fit_inj (σ : Int → Int) (g : U → U) (hg : ∀ n, g (vrU n) = vrU (σ n)) : ∀ (u : U) (ps : Ps), clU u → (∀ p, p ∈ ps → p.2 = σ p.1) → okP ps →
    ((fitU u (sbU g u) ps).isSome = true ↔ InjO σ (addVs (ps.map Prod.fst) (vsU u))) ∧ ∀ qs, fitU u (sbU g u) ps = some qs → (∀ p, p ∈ qs → p.2 = σ p.1) ∧ okP qs ∧ qs.map Prod.fst = addVs (ps.map Prod.fst) (vsU u)
  | .mk k n s l, ps, hu, hc, hp => by
    have ih := fitL_inj σ g hg l ps
    have h0 : InjO σ (ps.map Prod.fst) := by
      by_cases h : ps = []
      · subst h; intro a ha; simp at ha
      · obtain ⟨p, hp1⟩ := List.exists_mem_of_ne_nil ps h
        have := (fitV_inj (a := p.1) hc hp).1
        have hm : (p.1, σ p.1) ∈ ps := by rw [← hc p hp1]; exact hp1
        have h2 : (fitV ps p.1 (σ p.1)).isSome = true := by rw [fitV, if_pos hm]; rfl
        exact (this.1 h2).sub fun a ha => (addV_mem _ _ _).2 (.inl ha)
    rw [clU] at hu
    rw [sbU, vsU]
    rcases hu with ⟨rfl, rfl, rfl⟩ | ⟨rfl, rfl, rfl⟩ | ⟨rfl, rfl, rfl⟩ | ⟨rfl, rfl, hl⟩
    · rw [if_pos rfl, if_pos rfl, show U.mk 1 n [] [] = vrU n from rfl, hg, addVs_cons, addVs_nil]
      have hF : fitU (vrU n) (vrU (σ n)) ps = fitV ps n (σ n) := by unfold vrU; rw [fitU]; simp [U.k, U.n]
      rw [hF]
      exact fitV_inj hc hp
    · simp only [show ¬ (2 : Int) = 1 by omega, show ¬ (2 : Int) = 4 by omega, if_false, addVs_nil]
      have hF : fitU (.mk 2 n [] []) (.mk 2 n [] []) ps = some ps := by rw [fitU]; simp [U.k, U.n]
      rw [hF]
      exact ⟨⟨fun _ => h0, fun _ => rfl⟩, fun qs hq => by cases hq; exact ⟨hc, hp, rfl⟩⟩
    · simp only [show ¬ (3 : Int) = 1 by omega, show ¬ (3 : Int) = 4 by omega, if_false, addVs_nil]
      have hF : fitU (.mk 3 0 s []) (.mk 3 0 s []) ps = some ps := by rw [fitU]; simp [U.k, U.s]
      rw [hF]
      exact ⟨⟨fun _ => h0, fun _ => rfl⟩, fun qs hq => by cases hq; exact ⟨hc, hp, rfl⟩⟩
    · simp only [show ¬ (4 : Int) = 1 by omega, if_false, if_true]
      have hF : fitU (.mk 4 0 s l) (.mk 4 0 s (sbL g l)) ps = fitL l (sbL g l) ps := by rw [fitU]; simp [U.k, U.s, U.l, sbL_len]
      rw [hF]
      exact ih hl hc hp h0
theorem fitL_inj (σ : Int → Int) (g : U → U) (hg : ∀ n, g (vrU n) = vrU (σ n)) : ∀ (l : List U) (ps : Ps), clL l → (∀ p, p ∈ ps → p.2 = σ p.1) → okP ps → InjO σ (ps.map Prod.fst) →
    ((fitL l (sbL g l) ps).isSome = true ↔ InjO σ (addVs (ps.map Prod.fst) (vsL l))) ∧ ∀ qs, fitL l (sbL g l) ps = some qs → (∀ p, p ∈ qs → p.2 = σ p.1) ∧ okP qs ∧ qs.map Prod.fst = addVs (ps.map Prod.fst) (vsL l)
  | [], ps, _, hc, hp, h0 => by
    rw [sbL, fitL, vsL, addVs_nil]
    · exact ⟨⟨fun _ => h0, fun _ => rfl⟩, fun qs hq => by cases hq; exact ⟨hc, hp, rfl⟩⟩
    · simp
  | u :: l, ps, hu, hc, hp, _ => by
    rw [clL] at hu
    obtain ⟨h1, h2⟩ := fit_inj σ g hg u ps hu.1 hc hp
    rw [sbL, fitL, vsL, addVs_app]
    cases hf : fitU u (sbU g u) ps with
    | none =>
      dsimp only
      refine ⟨⟨fun h => by simp at h, fun h => ?_⟩, fun qs hq => by cases hq⟩
      exfalso
      rw [hf] at h1
      have := h1.2 (h.sub fun a ha => (addVs_mem _ _ _).2 (.inl ha))
      simp at this
    | some qs =>
      dsimp only
      obtain ⟨k1, k2, k3⟩ := h2 qs hf
      rw [hf] at h1
      have k4 := h1.1 rfl
      rw [← k3] at k4 ⊢
      exact fitL_inj σ g hg l qs hu.2 k1 k2 k4
end
/-- a copy is a variant just if its variables are other ones one to one -/
theorem var_inj (σ : Int → Int) (g : U → U) (hg : ∀ n, g (vrU n) = vrU (σ n)) {u : U} (hu : clU u) : varU u (sbU g u) = true ↔ InjO σ (varsU u) := (fit_inj σ g hg u [] hu (fun p h => by simp at h) ⟨by simp, by simp⟩).1
end Go.Proofs.Ytjccohcigopdfaa.tm
end
section
/- Rows of terms of a fixed length; the program's Subst$1. -/
namespace Go.Proofs.Ytjccohcigopdfaa.tm
open Go.RowKit
open Go.Proofs.Ytjccohcigopdfaa.wr
open Go.Proofs.Ytjccohcigopdfaa.rd
open Go.Proofs.Ytjccohcigopdfaa.op (bs strC)
open Go.Proofs.Ytjccohcigopdfaa.lx (cell_at)
open Go.Proofs.Ytjccohcigopdfaa.nm (Fit)
set_option maxRecDepth 20000

/-- the row in block g -/
def Mr (g : Nat) (l : List (U × Value)) (w : World) : Prop := w.heap[g]? = some (.cells (ucs l).toArray 25 (0, 0))
/-- zero terms -/
def zts (n : Nat) : List (U × Value) := List.replicate n (u0, .slice none 0 0)
theorem ucs_set : ∀ (l : List (U × Value)) (i : Nat) (x : U × Value), i < l.length → ucs (l.set i x) = ((((ucs l).set (i * 4) (.int .i64 x.1.k)).set (i * 4 + 1) (.int .i64 x.1.n)).set (i * 4 + 2) (.string (bs x.1.s))).set (i * 4 + 3) x.2
  | [], _, _, h => absurd h (Nat.not_lt_zero _)
  | _ :: _, 0, _, _ => rfl
  | t :: l, i + 1, x, h => by
    have ih := ucs_set l i x (by simpa using h)
    rw [show (i + 1) * 4 = i * 4 + 4 by omega, List.set_cons_succ]
    show ucell t ++ ucs (l.set i x) = _
    rw [ih]
    rfl
theorem zts_cells (n : Nat) : madeCells #[.int .i64 0, .int .i64 0, .string ⟨#[]⟩, .slice none 0 0] (n * 4) = (ucs (zts n)).toArray := by
  have hl : (ucs (zts n)).length = n * 4 := by rw [ucs_len, zts, List.length_replicate]
  apply Array.ext
  · rw [size_madeCells, List.size_toArray, hl]
  · intro j h1 h2
    rw [size_madeCells] at h1
    have hq : j / 4 < n := by omega
    have hr : j % 4 < 4 := Nat.mod_lt _ (by decide)
    have e := ucs_get (zts n) (j / 4) (j % 4) (by simpa [zts] using hq) hr
    have ej : j / 4 * 4 + j % 4 = j := by omega
    rw [ej] at e
    have e2 : (zts n)[j / 4]'(by simpa [zts] using hq) = (u0, .slice none 0 0) := by simp [zts]
    rw [e2, List.getElem?_eq_getElem (by rw [hl]; exact h1)] at e
    have : ∀ r, r < 4 → (ucell (u0, Value.slice none 0 0))[r]? = some (#[Value.int .i64 0, .int .i64 0, .string ⟨#[]⟩, .slice none 0 0][r]!) := by
      intro r hr
      match r, hr with
      | 0, _ => rfl
      | 1, _ => rfl
      | 2, _ => rfl
      | 3, _ => rfl
    rw [this _ hr] at e
    simp only [List.getElem_toArray]
    rw [Option.some.inj e]
    simp [madeCells]
theorem make_terms (n : Nat) (hn : n ≤ 100000) (w : World) : (Instr.makeSlice 23 (.int .i64 (n : Int)) (.int .i64 (n : Int))).run Try.prog w = .ok (.slice (some ⟨w.heap.size, 0, none⟩) n n) (w.alloc (.cells (ucs (zts n)).toArray 25)) := by
  obtain ⟨i0, hi, hz0, hz1, hz2⟩ := info_parts term_info3
  have h := run_make (P := Try.prog) w 23 25 i0 _ Try.underlying23 hi hz0 .i64 .i64 n n (by omega) (Int.le_refl _) (by rw [hz2]; omega) (by omega)
  rw [h, hz1, Int.toNat_natCast]
  show _ = Result.ok _ (w.alloc (.cells _ _))
  rw [← zts_cells]
  rfl
section
variable {g : Nat} {l : List (U × Value)} {w : World}
theorem Mr.cell (h : Mr g l w) {i : Nat} (hi : i < l.length) : w.cell? ⟨g, i * 4, none⟩ = some (.int .i64 l[i].1.k) ∧ w.cell? ⟨g, i * 4 + 1, none⟩ = some (.int .i64 l[i].1.n) ∧ w.cell? ⟨g, i * 4 + 2, none⟩ = some (.string (bs l[i].1.s)) ∧ w.cell? ⟨g, i * 4 + 3, none⟩ = some l[i].2 := by
  have key : ∀ m u, m < 4 → (ucell l[i])[m]? = some u → w.cell? ⟨g, i * 4 + m, none⟩ = some u := fun m u hm hu => by
    rw [cell_at h, ← Array.getElem?_toList]
    exact (ucs_get l i m hi hm).trans hu
  exact ⟨key 0 _ (by omega) rfl, key 1 _ (by omega) rfl, key 2 _ (by omega) rfl, key 3 _ (by omega) rfl⟩
theorem Mr.set (h : Mr g l w) {i : Nat} (hi : i < l.length) (y : U) (a : Value) : Mr g (l.set i (y, a)) ((((w.setCell ⟨g, i * 4, none⟩ (.int .i64 y.k)).setCell ⟨g, i * 4 + 1, none⟩ (.int .i64 y.n)).setCell ⟨g, i * 4 + 2, none⟩ (.string (bs y.s))).setCell ⟨g, i * 4 + 3, none⟩ a) := by
  unfold Mr at h ⊢
  rw [heap_set_at (heap_set_at (heap_set_at (heap_set_at h))), ucs_set l i (y, a) hi]
  simp only [List.setIfInBounds_toArray]
theorem Mr.ruD {D : Nat → Prop} {k n : Int} {s : List UInt8} (h : Mr g l w) (hl : l.length ≤ 100000) (hg : D g) (he : ∀ x ∈ l, RuD D w x.1 x.2) (hf : Fit n) : RuD D w (.mk k n s (l.map Prod.fst)) (.slice (some ⟨g, 0, none⟩) l.length l.length) := by
  rw [RuD]
  refine ⟨some ⟨g, 0, none⟩, l.length, by rw [List.length_map], by rw [List.length_map]; exact Nat.le_refl _, by unfold maxLen; omega, hf, ?_⟩
  have key : ∀ m j, j + m = l.length → RusD D w ((l.drop j).map Prod.fst) (some ⟨g, 0, none⟩) j := by
    intro m
    induction m with
    | zero => intro j hj; rw [List.drop_eq_nil_of_le (by omega), List.map_nil, RusD]; trivial
    | succ m ih =>
      intro j hj
      have hj2 : j < l.length := by omega
      obtain ⟨c0, c1, c2, c3⟩ := h.cell hj2
      rw [List.drop_eq_getElem_cons hj2, List.map_cons, RusD]
      exact ⟨⟨g, 0, l[j].2, rfl, hg, by rw [Nat.zero_add]; exact c0, by rw [Nat.zero_add]; exact c1, by rw [Nat.zero_add]; exact c2, by rw [Nat.zero_add]; exact c3, he _ (List.getElem_mem hj2)⟩, ih (j + 1) (by omega)⟩
  exact key l.length 0 (by omega)
end
end Go.Proofs.Ytjccohcigopdfaa.tm
end
