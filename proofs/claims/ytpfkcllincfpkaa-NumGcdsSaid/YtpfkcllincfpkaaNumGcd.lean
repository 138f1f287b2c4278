/- The greatest common divisor: num's and the reference's; the walk of NumGcds. -/
import Derived.Test.YtpfkcllincfpkaaNumDivs
namespace Go.Proofs.Ytpfkcllincfpkaa.nm
open Go.RowKit Go.Proofs.Ytpfkcllincfpkaa.dg

theorem gcd_tmod (a b : Int) : Int.gcd b (a.tmod b) = Int.gcd a b := by
  rw [Int.gcd_comm a b]
  unfold Int.gcd
  rw [Int.natAbs_tmod, Nat.gcd_comm, ← Nat.gcd_rec]

theorem absI_abs (a : Int) : absI a = (a.natAbs : Int) := by unfold absI; split <;> omega
theorem gcd_le {a b : Int} (ha : Fit a) (hb : Fit b) : (Int.gcd a b : Int) ≤ 9223372036854775808 := by
  by_cases h : a = 0
  · subst h; rw [Int.gcd_zero_left]; unfold Fit at hb; omega
  · have := Int.gcd_le_natAbs_left b h; unfold Fit at ha; omega

theorem drew_some (w : World) (q : Nat) : ∃ k, (w.drewN q).drew = w.drewN k := ⟨q + 1, rfl⟩
theorem gcd_c (a b : Int) (ha : Fit a) (hb : Fit b) (w : World) :
    Calls Try.prog 37 #[.int .i64 a, .int .i64 b] w fun e w' => e = .returned (.tuple #[.int .i64 (val (Int.gcd a b)), .int .i64 (err (Int.gcd a b))]) ∧ Below w.heap.size w w' := by
  obtain ⟨G, hG⟩ : ∃ G : Int, G = (Int.gcd a b : Nat) := ⟨_, rfl⟩
  rw [← hG]
  have HG := Lib.hid hG
  clear hG
  go_enter Try.func37, Try.ntmps37
  go_wp2_with fail
  go_loopw [0, 1] (fun x y wr => ∃ X Y : Int, x = .int .i64 X ∧ y = .int .i64 Y ∧ Hid (G = (Int.gcd X Y : Nat)) ∧ Hid (Fit X) ∧ Hid (Fit Y) ∧ ∃ q, wr = w.drewN q) (fun _ y _ => (intOf y).natAbs)
  case atStart => exact ⟨a, b, rfl, rfl, HG, Lib.hid ha, Lib.hid hb, 0, rfl⟩
  case round =>
    obtain ⟨X, Y, rfl, rfl, hg, hX, hY, q, rfl⟩ := hrel
    by_cases h0 : Y = 0
    · have t0 : (Y != 0) = false := by simp [h0]
      have hg' := Lib.hid (show absI X = G by rw [hg.out, h0, Int.gcd_zero_right, absI_abs])
      clear h0 hg
      go_wp2_with (go_at_call 26; refine (abs_c X hX.out _).mono ?_; rintro e w' ⟨rfl, rfl⟩)
      go_ret2
      exact ⟨ret2 (by rw [hg'.out]) (by rw [hg'.out]), below_drewN (Below.refl _ _) _⟩
    · have t0 : (Y != 0) = true := by simp [h0]
      have t1 : (Y == 0) = false := by simp [h0]
      have hg' := Lib.hid (show G = (Int.gcd Y (X.tmod Y) : Nat) by rw [hg.out, gcd_tmod])
      have hf := Lib.hid (tmod_fit (b := Y) hX.out)
      have hlt := natAbs_tmod_lt X Y h0
      go_wp2
      go_region
      go_wp2_with fail
      exact ⟨⟨Y, X.tmod Y, rfl, rfl, hg', hY, hf, drew_some w q⟩, hlt⟩

def e126 : Nat := 2 ^ 126
def e127 : Nat := 2 ^ 127
/-- after two steps the product has halved -/
theorem euclid {x y i : Nat} (hy : 0 < y) (h1 : i = 0 ∨ y ≤ x) (h2 : i = 0 → x * y ≤ e126) (h3 : x * y * 2 ^ i ≤ e127) :
    x % y ≤ y ∧ y * (x % y) * 2 ^ (i + 1) ≤ e127 := by
  unfold e126 at h2; unfold e127 at h3 ⊢
  have hr := Nat.mod_lt x hy
  refine ⟨Nat.le_of_lt hr, ?_⟩
  by_cases hxy : y ≤ x
  · have h4 : 2 * (y * (x % y)) ≤ x * y := by
      have h5 : 2 * (x % y) ≤ x := by
        have h6 := Nat.div_add_mod x y
        have h7 : 1 ≤ x / y := Nat.div_pos hxy hy
        have h8 : y * 1 ≤ y * (x / y) := Nat.mul_le_mul (Nat.le_refl _) h7
        omega
      have := Nat.mul_le_mul h5 (Nat.le_refl y)
      rw [Nat.mul_assoc, Nat.mul_comm (x % y) y] at this
      exact this
    rw [Nat.pow_succ, Nat.mul_comm (2 ^ i) 2, ← Nat.mul_assoc, Nat.mul_comm (y * (x % y)) 2]
    exact Nat.le_trans (Nat.mul_le_mul h4 (Nat.le_refl _)) h3
  · have hi : i = 0 := by omega
    subst hi
    rw [Nat.mod_eq_of_lt (by omega), Nat.mul_comm y x]
    have := h2 rfl
    have e : (2 : Nat) ^ 127 = 2 ^ 126 * 2 ^ (0 + 1) := by rw [← Nat.pow_add]
    rw [e]; exact Nat.mul_le_mul this (Nat.le_refl _)
theorem euclid_end {x y i : Nat} (hy : 0 < y) (hi : 200 ≤ i) (h1 : i = 0 ∨ y ≤ x) (h3 : x * y * 2 ^ i ≤ e127) : False := by
  unfold e127 at h3
  have h4 : 1 * 1 ≤ x * y := Nat.mul_le_mul (by omega) hy
  have h5 : 2 ^ 200 ≤ 2 ^ i := Nat.pow_le_pow_right (by omega) hi
  have h6 : 1 * 2 ^ 200 ≤ x * y * 2 ^ i := Nat.mul_le_mul (by omega) h5
  have h7 : (2 : Nat) ^ 127 < 1 * 2 ^ 200 := by rw [Nat.one_mul]; exact Nat.pow_lt_pow_right (by omega) (by omega)
  omega

set_option maxRecDepth 100000 in
set_option maxHeartbeats 1000000 in
theorem gcd_r (a b : Int) (ha : Fit a) (hb : Fit b) (w : World) :
    Calls Try.prog 38 #[.int .i64 a, .int .i64 b] w fun e w' => Fits w w' e (Int.gcd a b : Nat) := by
  obtain ⟨G, hG⟩ : ∃ G : Nat, G = Int.gcd a b := ⟨_, rfl⟩
  rw [← hG]
  have HG := Lib.hid (show G = Nat.gcd a.natAbs b.natAbs by rw [hG]; rfl)
  clear hG
  have l1 := fit_natAbs ha
  have l2 := fit_natAbs hb
  have o1 := of_w a ha
  have o2 := of_w b hb
  have hf := field_d
  have h126 := Lib.hid (show a.natAbs * b.natAbs ≤ e126 from Nat.le_trans (Nat.mul_le_mul l1 l2) (by unfold e126; decide))
  have h127 := Lib.hid (show a.natAbs * b.natAbs * 2 ^ 0 ≤ e127 by rw [Nat.pow_zero, Nat.mul_one]; exact Nat.le_trans (Nat.mul_le_mul l1 l2) (by unfold e127; decide))
  generalize a.natAbs = m at *
  generalize b.natAbs = n at *
  generalize decide (a < 0) = s at *
  generalize decide (b < 0) = t at *
  go_enter Try.func38, Try.ntmps38
  go_wp2_with fail
  refine (o1 _).mono ?_; rintro e w1 ⟨g1, c1, rfl, s1, b1⟩; go_wp2_with fail
  refine (o2 _).mono ?_; rintro e w2 ⟨g2, c2, rfl, s2, b2⟩; go_wp2_with fail
  go_loopw [6, 7, 8] (fun x y i wr => ∃ j X Y gx cx gy cy : Nat, x = .slice (some ⟨gx, 0, none⟩) (digs X).length cx ∧ y = .slice (some ⟨gy, 0, none⟩) (digs Y).length cy ∧ i = .int .i64 j ∧ j ≤ 200 ∧ X ≤ 9223372036854775808 ∧ Y ≤ 9223372036854775808 ∧ Sl wr gx cx (digs X) ∧ Sl wr gy cy (digs Y) ∧ Hid (G = Nat.gcd X Y) ∧ Hid (j = 0 ∨ Y ≤ X) ∧ Hid (j = 0 → X * Y ≤ e126) ∧ Hid (X * Y * 2 ^ j ≤ e127) ∧ Below w.heap.size w wr) (fun _ _ i _ => 200 - (intOf i).toNat)
  case atStart => exact ⟨0, m, n, g1, c1, g2, c2, rfl, rfl, rfl, by omega, l1, l2, s1.stay b2, s2, HG, Lib.hid (.inl rfl), Lib.hid (fun _ => h126.out), h127, chain b1 b2⟩
  case round =>
    obtain ⟨j, X, Y, gx, cx, gy, cy, rfl, rfl, rfl, hj, hX, hY, sx, sy, hg, he1, he2, he3, hb0⟩ := hrel
    by_cases hy0 : Y = 0
    · subst hy0
      have dy : (digs 0).length = 0 := by rw [digs_zero]; rfl
      have hgx := Lib.hid (show (G : Int) = wv false X by rw [hg.out, Nat.gcd_zero_right]; rfl)
      clear hg he1 he2 he3
      by_cases hj2 : j < 200
      all_goals
        go_wp2_with (go_at_call 43; refine (fit_c _ false gx cx X (by exact sx) (len_ok (by omega))).mono ?_; rintro e w4 ⟨rfl, b4⟩)
        go_ret2
        exact ⟨nm_ret (by rw [hgx.out]) (by rw [hgx.out]), hb0.trans (b4.mono hb0.size)⟩
    · by_cases hj2 : j < 200
      · have dy : 0 < (digs Y).length := by rw [digs_pos (by omega)]; simp
        have hst := Lib.hid (euclid (by omega) he1.out he2.out he3.out)
        have hg' := Lib.hid (show G = Nat.gcd Y (X % Y) by rw [hg.out, Nat.gcd_comm, Nat.gcd_rec, Nat.gcd_comm])
        have hc := fun W (h : Sl W gx cx (digs X)) (h' : Sl W gy cy (digs Y)) => halves_c W gx cx gy cy X Y h h' hX (by omega) hY
        have hr2 : X % Y ≤ X := Nat.mod_le _ _
        clear hg he1 he2 he3
        go_wp2_with fail
        refine (hc _ sx sy).mono ?_; rintro e w5 ⟨g5, c5, g6, c6, rfl, s5, s6, b5⟩
        go_wp2_with fail
        exact ⟨⟨j + 1, Y, X % Y, gy, cy, g6, c6, rfl, rfl, by go_num, by omega, hY, by omega, sy.stay b5, s6.mono (Nat.zero_le _), hg', Lib.hid (.inr hst.out.1), Lib.hid (fun h => by omega), Lib.hid hst.out.2, hb0.trans (b5.mono hb0.size)⟩, by simp [intOf]; omega⟩
      · exact (euclid_end (by omega) (by omega) he1.out he3.out).elim

theorem numGcds_walk (a0 : Int) (a1 : Int) (w : World) (w0 : (Lit.int .i64 a0).wf = true) (w1 : (Lit.int .i64 a1).wf = true) :
    Calls Try.prog 9 #[.int .i64 a0, .int .i64 a1] w fun e w' => e = .returned (.bool true) ∧ Below w.heap.size w w' := by
  have ha := fit_wf w0
  have hb := fit_wf w1
  have k1 := gcd_c a0 a1 ha hb
  have k2 := gcd_r a0 a1 ha hb
  unfold Fits at k2
  obtain ⟨G, hG⟩ : ∃ G : Nat, G = Int.gcd a0 a1 := ⟨_, rfl⟩
  rw [← hG] at k1 k2
  have d1 : (G : Int) ≠ 0 → a0.tmod G = 0 := fun _ => by
    rw [hG]; exact Int.dvd_iff_tmod_eq_zero.1 (Int.gcd_dvd_left ..)
  have d2 : (G : Int) ≠ 0 → a1.tmod G = 0 := fun _ => by
    rw [hG]; exact Int.dvd_iff_tmod_eq_zero.1 (Int.gcd_dvd_right ..)
  have d3 : (G : Int) = 0 → a0 = 0 ∧ a1 = 0 := fun h => by
    have : Int.gcd a0 a1 = 0 := by omega
    exact Int.gcd_eq_zero_iff.1 this
  clear w0 w1 ha hb
  rcases err_cases (G : Int) with ⟨e1, v1, f1⟩ | ⟨e1, v1, f1⟩
  · rw [e1, v1] at k1 k2
    by_cases h0 : G = 0
    · obtain ⟨z1, z2⟩ := d3 (by omega)
      subst h0 z1 z2
      clear d1 d2 d3 e1 v1 f1 hG
      go_enter Try.func9, Try.ntmps9
      go_wp2_with fail
      refine (k1 _).mono ?_; rintro e w2 ⟨rfl, b2⟩; go_wp2_with fail
      refine (k2 _).mono ?_; rintro e w3 ⟨rfl, b3⟩; go_wp2_with fail
      go_ret
      exact ⟨rfl, chain b2 b3⟩
    · have t1 : (((G : Nat) : Int) == 0) = false := by simp [h0]
      have t2 := d1 (by omega)
      have t3 := d2 (by omega)
      have t4 : 0 < G := by omega
      clear d1 d2 d3 e1 v1 f1 hG
      go_enter Try.func9, Try.ntmps9
      go_wp2_with fail
      refine (k1 _).mono ?_; rintro e w2 ⟨rfl, b2⟩; go_wp2_with fail
      refine (k2 _).mono ?_; rintro e w3 ⟨rfl, b3⟩; go_wp2_with fail
      go_ret
      exact ⟨ret1b (by first | rfl | (simp; omega)), chain b2 b3⟩
  · rw [e1, v1] at k1 k2
    clear d1 d2 d3 e1 v1 f1 hG
    go_enter Try.func9, Try.ntmps9
    go_wp2_with fail
    refine (k1 _).mono ?_; rintro e w2 ⟨rfl, b2⟩; go_wp2_with fail
    refine (k2 _).mono ?_; rintro e w3 ⟨rfl, b3⟩; go_wp2_with fail
    go_ret
    exact ⟨rfl, chain b2 b3⟩
end Go.Proofs.Ytpfkcllincfpkaa.nm
