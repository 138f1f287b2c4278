/- The best of weights: the program's and the reference's. -/
import Derived.Test.YtpkokolhmcophaaRefO
namespace Go.Proofs.Ytpkokolhmcophaa.sl
open Go.RowKit Go.Proofs.Ytpkokolhmcophaa.fl

/-- is place i passed over -/
def sk (bs : List Bool) (i : Nat) : Bool := bs.getD i false
/-- of the first k places r is the best one, or -1 -/
def BestOf (fs : List Nat) (bs : List Bool) (k : Nat) (r : Int) : Prop :=
  (r = -1 ∧ ∀ i, i < k → sk bs i = true) ∨ ∃ b : Nat, r = b ∧ b < k ∧ sk bs b = false ∧ ∀ i, i < k → sk bs i = false → rk fs b ≤ rk fs i
theorem best_skip {fs : List Nat} {bs : List Bool} {k : Nat} {r : Int} (h : BestOf fs bs k r) (hs : sk bs k = true) : BestOf fs bs (k + 1) r := by
  rcases h with ⟨h1, h2⟩ | ⟨b, h1, h2, h3, h4⟩
  · exact .inl ⟨h1, fun i hi => by by_cases e : i = k
                                   · rw [e]; exact hs
                                   · exact h2 i (by omega)⟩
  · exact .inr ⟨b, h1, by omega, h3, fun i hi hsi => by by_cases e : i = k
                                                        · rw [e, hs] at hsi; cases hsi
                                                        · exact h4 i (by omega) hsi⟩
theorem best_first {fs : List Nat} {bs : List Bool} {k : Nat} (h : BestOf fs bs k (-1)) (hs : sk bs k = false) : BestOf fs bs (k + 1) k := by
  rcases h with ⟨_, h2⟩ | ⟨b, h1, _⟩
  · exact .inr ⟨k, rfl, by omega, hs, fun i hi hsi => by by_cases e : i = k
                                                         · rw [e]; exact Nat.le_refl _
                                                         · have := h2 i (by omega); rw [hsi] at this; cases this⟩
  · omega
theorem best_next {fs : List Nat} {bs : List Bool} {k b : Nat} (h : BestOf fs bs k (b : Nat)) (hk : k < fs.length) (hs : sk bs k = false) : BestOf fs bs (k + 1) (if ahead fs k b = true then (k : Int) else b) := by
  rcases h with ⟨h1, _⟩ | ⟨b', h1, h2, h3, h4⟩
  · omega
  · obtain rfl : b = b' := by omega
    have hf := rk_fair (fs := fs) h2 hk
    unfold Fair at hf
    by_cases c : ahead fs k b = true
    · rw [if_pos c]
      rw [c] at hf
      have hlt := of_decide_eq_true hf.symm
      exact .inr ⟨k, rfl, by omega, hs, fun i hi hsi => by by_cases e : i = k
                                                           · rw [e]; exact Nat.le_refl _
                                                           · have := h4 i (by omega) hsi; omega⟩
    · rw [if_neg c]
      rw [show ahead fs k b = false by simpa using c] at hf
      have hle := of_decide_eq_false hf.symm
      exact .inr ⟨b, rfl, by omega, h3, fun i hi hsi => by by_cases e : i = k
                                                           · rw [e]; omega
                                                           · exact h4 i (by omega) hsi⟩
theorem best_unique {fs : List Nat} {bs : List Bool} {r r' : Int} (h : BestOf fs bs fs.length r) (h' : BestOf fs bs fs.length r') : r = r' := by
  rcases h with ⟨h1, h2⟩ | ⟨b, h1, h2, h3, h4⟩ <;> rcases h' with ⟨g1, g2⟩ | ⟨c, g1, g2, g3, g4⟩
  · omega
  · have := h2 c g2; rw [g3] at this; cases this
  · have := g2 b h2; rw [h3] at this; cases this
  · have e1 := h4 c g2 g3
    have e2 := g4 b h2 h3
    have := rk_inj h2 g2 (by omega)
    omega

def BestRet (w : World) (fs : List Nat) (bs : List Bool) (e : Ending) (w' : World) : Prop := ∃ r : Int, e = .returned (.int .i64 r) ∧ BestOf fs bs fs.length r ∧ ∃ k, w' = w.drewN k

set_option maxHeartbeats 1000000 in
theorem best_c (w : World) (a a2 : Option Addr) (cap cap2 : Nat) (fs : List Nat) (bs : List Bool) (h : FRow w a cap fs) (h2 : BRow w a2 cap2 bs) :
    Calls Try.prog 14 #[.slice a fs.length cap, .slice a2 bs.length cap2] w (BestRet w fs bs) := by
  have hW := Lib.hid h
  have hW2 := Lib.hid h2
  have m1 := h.2.1
  have m2 := h2.2.1
  have l1 := h.1
  have l2 := h2.1
  unfold maxLen at m1 m2
  clear h h2
  go_enter Try.func14, Try.ntmps14
  go_wp2
  go_loopw [5, 9] (fun u v wr => ∃ (r : Int) (k nd : Nat), u = .int .i64 r ∧ v = .int .i64 k ∧ -1 ≤ r ∧ r < k ∧ k ≤ fs.length ∧ wr = w.drewN nd ∧ Hid (BestOf fs bs k r)) (fun _ v _ => fs.length - (intOf v).toNat)
  case atStart => exact ⟨-1, 0, 0, rfl, rfl, by omega, by omega, Nat.zero_le _, rfl, Lib.hid (.inl ⟨rfl, fun i hi => by omega⟩)⟩
  case round =>
    obtain ⟨r, k, nd, rfl, rfl, hr0, hr1, hk, rfl, hbe⟩ := hrel
    by_cases hlt : k < fs.length
    · obtain ⟨ad, rfl, hcl⟩ := hW.out.cells hlt
      have c1 := hcl k hlt
      by_cases hsk : sk bs k = true
      · have hkb : k < bs.length := by
          refine Nat.lt_of_not_le fun c => ?_
          unfold sk at hsk; rw [List.getD_eq_getElem?_getD, List.getElem?_eq_none c] at hsk; simp at hsk
        obtain ⟨ad2, rfl, hcl2⟩ := hW2.out.cells hkb
        have c2 := hcl2 k hkb
        rw [show bs[k] = true by unfold sk at hsk; rw [List.getD_eq_getElem?_getD, List.getElem?_eq_getElem hkb] at hsk; exact hsk] at c2
        have hbe' := Lib.hid (best_skip hbe.out hsk)
        clear hbe hsk hcl hcl2
        go_wp2
        exact ⟨⟨r, k + 1, nd, rfl, by go_num, hr0, by omega, by omega, rfl, hbe'⟩, by first | (simp [intOf]; done) | (simp [intOf]; omega)⟩
      · have hsk' : sk bs k = false := by simpa using hsk
        have hb1 := Lib.hid (fun (e : r = -1) => best_first (by rw [e] at hbe; exact hbe.out) hsk')
        have hb2 := Lib.hid (fun (b : Nat) (e : r = b) => best_next (by rw [e] at hbe; exact hbe.out) hlt hsk')
        by_cases hr : r < 0
        · obtain rfl : r = -1 := by omega
          have hbe' := Lib.hid (hb1.out rfl)
          by_cases hkb : k < bs.length
          · obtain ⟨ad2, rfl, hcl2⟩ := hW2.out.cells hkb
            have c2 := hcl2 k hkb
            rw [show bs[k] = false by unfold sk at hsk'; rw [List.getD_eq_getElem?_getD, List.getElem?_eq_getElem hkb] at hsk'; exact hsk'] at c2
            clear hbe hsk hsk' hcl hcl2 hb1 hb2
            go_wp2
            go_quiet (fail)
            go_wp2
            exact ⟨⟨k, k + 1, nd + nq, rfl, by go_num, by omega, by omega, by omega, by first | rfl | exact World.drewN_drewN .., hbe'⟩, by first | (simp [intOf]; done) | (simp [intOf]; omega)⟩
          · clear hbe hsk hsk' hcl hb1 hb2
            go_wp2
            go_quiet (fail)
            go_wp2
            exact ⟨⟨k, k + 1, nd + nq, rfl, by go_num, by omega, by omega, by omega, by first | rfl | exact World.drewN_drewN .., hbe'⟩, by first | (simp [intOf]; done) | (simp [intOf]; omega)⟩
        · obtain ⟨b, rfl⟩ : ∃ b : Nat, r = b := ⟨r.toNat, by omega⟩
          have hbe' := Lib.hid (hb2.out b rfl)
          have hbk : b < fs.length := by omega
          have c3 := hcl b hbk
          have hcall := less_c fs[k] fs[b]
          rw [show less fs[k] fs[b] = ahead fs k b by unfold ahead; rw [getD_get fs k hlt, getD_get fs b hbk]] at hcall
          generalize fs[k] = x at *
          generalize fs[b] = y at *
          have hr2 : decide ((b : Int) < 0) = false := by simp
          by_cases hd : ahead fs k b = true
          · rw [if_pos hd] at hbe'
            rw [hd] at hcall
            by_cases hkb : k < bs.length
            · obtain ⟨ad2, rfl, hcl2⟩ := hW2.out.cells hkb
              have c2 := hcl2 k hkb
              rw [show bs[k] = false by unfold sk at hsk'; rw [List.getD_eq_getElem?_getD, List.getElem?_eq_getElem hkb] at hsk'; exact hsk'] at c2
              clear hbe hsk hsk' hcl hcl2 hb1 hb2 hd hr
              go_wp2
              go_quiet ((go_at_call 13; first | exact still hcall | exact still0 hcall))
              go_wp2
              exact ⟨⟨k, k + 1, nd + nq, rfl, by go_num, by omega, by omega, by omega, by first | rfl | exact World.drewN_drewN .., hbe'⟩, by first | (simp [intOf]; done) | (simp [intOf]; omega)⟩
            · clear hbe hsk hsk' hcl hb1 hb2 hd hr
              go_wp2
              go_quiet ((go_at_call 13; first | exact still hcall | exact still0 hcall))
              go_wp2
              exact ⟨⟨k, k + 1, nd + nq, rfl, by go_num, by omega, by omega, by omega, by first | rfl | exact World.drewN_drewN .., hbe'⟩, by first | (simp [intOf]; done) | (simp [intOf]; omega)⟩
          · rw [if_neg hd] at hbe'
            rw [show ahead fs k b = false by simpa using hd] at hcall
            by_cases hkb : k < bs.length
            · obtain ⟨ad2, rfl, hcl2⟩ := hW2.out.cells hkb
              have c2 := hcl2 k hkb
              rw [show bs[k] = false by unfold sk at hsk'; rw [List.getD_eq_getElem?_getD, List.getElem?_eq_getElem hkb] at hsk'; exact hsk'] at c2
              clear hbe hsk hsk' hcl hcl2 hb1 hb2 hd hr
              go_wp2
              go_quiet ((go_at_call 13; first | exact still hcall | exact still0 hcall))
              go_wp2
              exact ⟨⟨b, k + 1, nd + nq, rfl, by go_num, by omega, by omega, by omega, by first | rfl | exact World.drewN_drewN .., hbe'⟩, by first | (simp [intOf]; done) | (simp [intOf]; omega)⟩
            · clear hbe hsk hsk' hcl hb1 hb2 hd hr
              go_wp2
              go_quiet ((go_at_call 13; first | exact still hcall | exact still0 hcall))
              go_wp2
              exact ⟨⟨b, k + 1, nd + nq, rfl, by go_num, by omega, by omega, by omega, by first | rfl | exact World.drewN_drewN .., hbe'⟩, by first | (simp [intOf]; done) | (simp [intOf]; omega)⟩
    · obtain rfl : k = fs.length := by omega
      go_wp2
      go_ret
      exact ⟨r, rfl, hbe.out, nd, rfl⟩

def BestRet2 (w : World) (fs : List Nat) (bs : List Bool) (e : Ending) (w' : World) : Prop := ∃ r : Int, e = .returned (.int .i64 r) ∧ BestOf fs bs fs.length r ∧ Below w.heap.size w w'
theorem best_found {fs l : List Nat} {bs : List Bool} {k : Nat} (h : IsOrd fs l) (hk : k < fs.length) (hs : sk bs (l.getD k 0) = false) (hlo : ∀ t, t < k → sk bs (l.getD t 0) = true) : BestOf fs bs fs.length (l.getD k 0 : Nat) := by
  refine .inr ⟨l.getD k 0, rfl, h.2.1 k hk, hs, fun i hi hsi => ?_⟩
  rw [h.2.2 k hk]
  refine Nat.le_of_not_lt fun c => ?_
  have e : l.getD (rk fs i) 0 = i := rk_inj (h.2.1 _ (rk_bound hi)) hi (h.2.2 _ (rk_bound hi))
  have := hlo _ c
  rw [e, hsi] at this; cases this
theorem best_none {fs l : List Nat} {bs : List Bool} (h : IsOrd fs l) (hlo : ∀ t, t < fs.length → sk bs (l.getD t 0) = true) : BestOf fs bs fs.length (-1) := by
  refine .inl ⟨rfl, fun i hi => ?_⟩
  have e : l.getD (rk fs i) 0 = i := rk_inj (h.2.1 _ (rk_bound hi)) hi (h.2.2 _ (rk_bound hi))
  have := hlo _ (rk_bound hi)
  rwa [e] at this
theorem sk_beyond {bs : List Bool} {x : Nat} (h : bs.length ≤ x) : sk bs x = false := by unfold sk; rw [List.getD_eq_getElem?_getD, List.getElem?_eq_none h]; rfl
theorem sk_at {bs : List Bool} {x : Nat} (h : x < bs.length) : sk bs x = bs[x] := by unfold sk; rw [List.getD_eq_getElem?_getD, List.getElem?_eq_getElem h]; rfl

theorem refBest_c (w : World) (a a2 : Option Addr) (cap cap2 : Nat) (fs : List Nat) (bs : List Bool) (h : FRow w a cap fs) (h2 : BRow w a2 cap2 bs) (hn : fs.length ≤ 1000) :
    Calls Try.prog 15 #[.slice a fs.length cap, .slice a2 bs.length cap2] w (BestRet2 w fs bs) := by
  have k1 := refOrder_c w a cap fs h hn
  have hW2 := Lib.hid h2
  have m2 := h2.2.1
  have l2 := h2.1
  unfold maxLen at m2
  clear h h2
  go_enter Try.func15, Try.ntmps15
  go_wp2_with fail
  refine k1.mono ?_; rintro e w1 ⟨g, c, l, rfl, ho, hsl, hb⟩
  have HO := Lib.hid ho
  have hB2 := Lib.hid (hW2.out.kept hb rfl)
  clear ho
  obtain ⟨s1, s2, s3⟩ := hsl.small
  unfold maxLen at s2
  have hl : Hid (l.length = fs.length) := Lib.hid HO.out.1
  go_wp2
  go_loopw [6] (fun u wr => ∃ k : Nat, u = .int .i64 k ∧ k ≤ fs.length ∧ wr = w1 ∧ Hid (∀ t, t < k → sk bs (l.getD t 0) = true)) (fun u _ => fs.length - (intOf u).toNat)
  case atStart => exact ⟨0, rfl, Nat.zero_le _, rfl, Lib.hid (fun t ht => by omega)⟩
  case round =>
    obtain ⟨k, rfl, hk, rfl, hlo⟩ := hrel
    by_cases hlt : k < fs.length
    · have c1 := hsl.at k (by have := hl.out; omega)
      have hx := HO.out.2.1 k hlt
      by_cases hsk : sk bs (l.getD k 0) = true
      · have hxb : l.getD k 0 < bs.length := by
          refine Nat.lt_of_not_le fun c => ?_
          rw [sk_beyond c] at hsk; cases hsk
        obtain ⟨ad2, rfl, hcl2⟩ := hB2.out.cells hxb
        have c2 := hcl2 _ hxb
        rw [← sk_at hxb, hsk] at c2
        have hlo' := Lib.hid (show ∀ t, t < k + 1 → sk bs (l.getD t 0) = true from fun t ht => by
          by_cases e : t = k
          · rw [e]; exact hsk
          · exact hlo.out t (by omega))
        clear hcl2 hsk
        generalize l.getD k 0 = x at *
        have t1 : decide ((bs.length : Int) ≤ (x : Int)) = false := by simp; omega
        go_wp2
        exact ⟨⟨k + 1, by go_num, by omega, by first | rfl | trivial, hlo'⟩, by first | (simp [intOf]; done) | (simp [intOf]; omega)⟩
      · have hsk' : sk bs (l.getD k 0) = false := by simpa using hsk
        have hbe := Lib.hid (best_found HO.out hlt hsk' hlo.out)
        by_cases hxb : l.getD k 0 < bs.length
        · obtain ⟨ad2, rfl, hcl2⟩ := hB2.out.cells hxb
          have c2 := hcl2 _ hxb
          rw [← sk_at hxb, hsk'] at c2
          clear hcl2 hsk hsk'
          generalize l.getD k 0 = x at *
          have t1 : decide ((bs.length : Int) ≤ (x : Int)) = false := by simp; omega
          go_wp2
          go_ret
          exact ⟨x, rfl, hbe.out, hb⟩
        · clear hsk hsk'
          generalize l.getD k 0 = x at *
          have t1 : decide ((bs.length : Int) ≤ (x : Int)) = true := by simp; omega
          go_wp2
          go_ret
          exact ⟨x, rfl, hbe.out, hb⟩
    · obtain rfl : k = fs.length := by omega
      have hbe := Lib.hid (best_none HO.out hlo.out)
      go_wp2
      go_ret
      exact ⟨-1, rfl, hbe.out, hb⟩
end Go.Proofs.Ytpkokolhmcophaa.sl
