/- The walk of WeighRises. -/
import Derived.Test.YtpkokolhmcophaaWOrd
import Derived.IntWalk
namespace Go.Proofs.Ytpkokolhmcophaa.sl
open Go.RowKit Go.Proofs.Ytpkokolhmcophaa.fl

theorem rise_facts {fs : List Nat} {p q : Nat} (hp : p < fs.length) (hq : q < fs.length) (h : rk fs p < rk fs q) :
    ahead fs q p = false ∧ (nan (fs.getD p 0) = true → nan (fs.getD q 0) = true) ∧ (ahead fs p q = false → ¬ q < p) := by
  have h1 : ahead fs q p = false := by
    cases e : ahead fs q p
    · rfl
    · have := rk_fwd fs q p hq hp e; omega
  refine ⟨h1, fun hn => ?_, fun h2 hlt => ?_⟩
  · cases e : nan (fs.getD q 0)
    · unfold ahead less at h1; rw [hn, e] at h1; simp at h1
    · rfl
  · have := rk_lt (fs := fs) hq (show bef fs q p = true by unfold bef; rw [h1, h2]; simpa using hlt)
    omega

set_option maxRecDepth 100000 in
set_option maxHeartbeats 40000000 in
theorem weighRises_walk (a0 : Option Addr) (cap0 : Nat) (z0 : List Nat) (w : World) (h0 : FRow w a0 cap0 z0) :
    Calls Try.prog 5 #[.slice a0 z0.length cap0] w fun e w' => e = .returned (.bool true) ∧ Below w.heap.size w w' := by
  have m0 := h0.2.1
  have l0 := h0.1
  unfold maxLen at m0
  by_cases hb0 : 256 < z0.length
  · go_enter Try.func5, Try.ntmps5
    go_wp2
    go_ret
    exact ⟨rfl, Below.refl _ _⟩
  · have k1 := order_c w a0 cap0 z0 h0 (by omega)
    have hW0 := Lib.hid h0
    clear h0
    go_enter Try.func5, Try.ntmps5
    go_wp2_with fail
    refine k1.mono ?_; rintro e w2 ⟨g, c, l, rfl, ho, hsl, hB2⟩
    have Ho := Lib.hid ho
    clear ho k1
    have k2 := refOrder_c w2 a0 cap0 z0 (hW0.out.kept hB2 rfl) (by omega)
    go_wp2_with fail
    refine k2.mono ?_; rintro e w3 ⟨g', c', l', rfl, ho', hsl', hb3⟩
    have hB3 := hB2.trans (hb3.mono hB2.size)
    obtain rfl := ord_unique Ho.out ho'
    clear ho' k2
    have hsl3 := hsl.kept hb3 hsl.lt.2
    have k3 := sameInts_c w.heap.size w2.heap.size w3 g g' c c' z0.length l hsl3 hsl' Ho.out.1 (by omega)
    go_wp2_with fail
    refine k3.mono ?_; rintro e w4 ⟨rfl, p4, rfl⟩
    have hB4 := hB3.trans (below_drawn w.heap.size w3 p4)
    have hsl4 := hsl3.drawn p4
    clear hsl hsl' hsl3 k3
    generalize w3.drewN p4 = w5 at *
    obtain ⟨s1, s2, s3⟩ := hsl4.small
    unfold maxLen at s2
    have hl : Hid (l.length = z0.length) := Lib.hid Ho.out.1
    rw [hl.out] at s1
    go_wp2_with fail
    go_loopw [5] (fun u wr => ∃ (k nd : Nat), u = .int .i64 k ∧ 1 ≤ k ∧ (k ≤ z0.length ∨ k = 1) ∧ wr = w5.drewN nd) (fun u _ => z0.length + 1 - (intOf u).toNat)
    case atStart => exact ⟨1, 0, rfl, Nat.le_refl _, by omega, rfl⟩
    case round =>
      obtain ⟨k, nd, rfl, hk1, hk2, rfl⟩ := hrel
      by_cases hlt : k < z0.length
      · obtain ⟨m, rfl⟩ : ∃ m, k = m + 1 := ⟨k - 1, by omega⟩
        obtain ⟨ad, rfl, hcl⟩ := (hW0.out.kept hB4 rfl).cells hlt
        have cq := hsl4.at (m + 1) (by have := hl.out; omega)
        have cp := hsl4.at m (by have := hl.out; omega)
        have bq := Ho.out.2.1 (m + 1) hlt
        have bp := Ho.out.2.1 m (by omega)
        have hrk : rk z0 (l.getD m 0) < rk z0 (l.getD (m + 1) 0) := by rw [Ho.out.2.2 m (by omega), Ho.out.2.2 (m + 1) hlt]; omega
        obtain ⟨r1, r2, r3⟩ := rise_facts bp bq hrk
        have fq := hcl _ bq
        have fp := hcl _ bp
        have gq : z0[l.getD (m + 1) 0] = z0.getD (l.getD (m + 1) 0) 0 := (getD_get z0 _ bq).symm
        have gp : z0[l.getD m 0] = z0.getD (l.getD m 0) 0 := (getD_get z0 _ bp).symm
        rw [gq] at fq
        rw [gp] at fp
        clear gq gp hcl hrk
        unfold ahead at r1 r3
        have ka := less_c (z0.getD (l.getD (m + 1) 0) 0) (z0.getD (l.getD m 0) 0)
        have kb := less_c (z0.getD (l.getD m 0) 0) (z0.getD (l.getD (m + 1) 0) 0)
        have kc := nan_c (z0.getD (l.getD m 0) 0)
        have kd := nan_c (z0.getD (l.getD (m + 1) 0) 0)
        rw [r1] at ka
        generalize z0.getD (l.getD (m + 1) 0) 0 = y at *
        generalize z0.getD (l.getD m 0) 0 = x at *
        generalize l.getD (m + 1) 0 = q at *
        generalize l.getD m 0 = p at *
        rw [show ((m + 1 : Nat) : Int) = (m : Int) + 1 from by omega] at *
        have bq' : ((q : Nat) : Int) < z0.length := by omega
        have bp' : ((p : Nat) : Int) < z0.length := by omega
        have d1 : decide ((q : Int) < 0) = false := by simp
        have d2 : decide ((p : Int) < 0) = false := by simp
        have d3 : decide ((z0.length : Int) ≤ (q : Int)) = false := by simp; omega
        have d4 : decide ((z0.length : Int) ≤ (p : Int)) = false := by simp; omega
        have z1 : (0 : Int) ≤ (m : Int) + 1 := by omega
        have z2 : IntKind.i64.wrap (m : Int) = (m : Int) := IntWalk.i64_in _ (by omega)
        have z3 : m < z0.length := by omega
        have d3' : decide (z0.length ≤ q) = false := by simp; omega
        have d4' : decide (z0.length ≤ p) = false := by simp; omega
        clear r1
        cases hnx : nan x
        · rw [hnx] at kc
          clear hnx r2
          cases hxy : less x y
          · rw [hxy] at kb
            have d5 : decide ((q : Int) < (p : Int)) = false := by have := r3 hxy; simp; omega
            have d5' : decide (q < p) = false := by have := r3 hxy; simp; omega
            clear hxy r3
            go_wp2_with fail
            simp only [List.append_eq, List.cons_append, List.nil_append]
            go_quiet ((first | (with_reducible exact still ka) | (with_reducible exact still kc) | (with_reducible exact still kd)))
            go_wp2_with fail
            go_quiet ((first | (with_reducible exact still kb) | (with_reducible exact still0 kb)))
            go_wp2_with fail
            exact ⟨⟨m + 1 + 1, _, by go_num, by omega, by omega, by first | rfl | exact World.drewN_drewN .. | exact (by rw [World.drewN_drewN, World.drewN_drewN])⟩, by first | (simp [intOf]; done) | (simp [intOf]; omega)⟩
          · rw [hxy] at kb
            clear hxy r3
            go_wp2_with fail
            simp only [List.append_eq, List.cons_append, List.nil_append]
            go_quiet ((first | (with_reducible exact still ka) | (with_reducible exact still kc) | (with_reducible exact still kd)))
            go_wp2_with fail
            go_quiet ((first | (with_reducible exact still kb) | (with_reducible exact still0 kb)))
            go_wp2_with fail
            exact ⟨⟨m + 1 + 1, _, by go_num, by omega, by omega, by first | rfl | exact World.drewN_drewN .. | exact (by rw [World.drewN_drewN, World.drewN_drewN])⟩, by first | (simp [intOf]; done) | (simp [intOf]; omega)⟩
        · have hny := r2 hnx
          rw [hnx] at kc
          rw [hny] at kd
          clear hnx hny r2
          cases hxy : less x y
          · rw [hxy] at kb
            have d5 : decide ((q : Int) < (p : Int)) = false := by have := r3 hxy; simp; omega
            have d5' : decide (q < p) = false := by have := r3 hxy; simp; omega
            clear hxy r3
            go_wp2_with fail
            simp only [List.append_eq, List.cons_append, List.nil_append]
            go_quiet ((first | (with_reducible exact still ka) | (with_reducible exact still kc) | (with_reducible exact still kd)))
            go_wp2_with fail
            go_quiet ((first | (with_reducible exact still kb) | (with_reducible exact still0 kb)))
            go_wp2_with fail
            exact ⟨⟨m + 1 + 1, _, by go_num, by omega, by omega, by first | rfl | exact World.drewN_drewN .. | exact (by rw [World.drewN_drewN, World.drewN_drewN])⟩, by first | (simp [intOf]; done) | (simp [intOf]; omega)⟩
          · rw [hxy] at kb
            clear hxy r3
            go_wp2_with fail
            simp only [List.append_eq, List.cons_append, List.nil_append]
            go_quiet ((first | (with_reducible exact still ka) | (with_reducible exact still kc) | (with_reducible exact still kd)))
            go_wp2_with fail
            go_quiet ((first | (with_reducible exact still kb) | (with_reducible exact still0 kb)))
            go_wp2_with fail
            exact ⟨⟨m + 1 + 1, _, by go_num, by omega, by omega, by first | rfl | exact World.drewN_drewN .. | exact (by rw [World.drewN_drewN, World.drewN_drewN])⟩, by first | (simp [intOf]; done) | (simp [intOf]; omega)⟩
      · go_wp2_with fail
        go_ret
        exact ⟨rfl, hB4.trans (below_drawn _ _ _)⟩
end Go.Proofs.Ytpkokolhmcophaa.sl
