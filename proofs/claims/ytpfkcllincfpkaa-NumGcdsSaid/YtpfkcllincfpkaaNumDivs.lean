/- Contracts of the reference's Quo, Rem, Div, Mod; the walk of NumDivides. -/
import Derived.Test.YtpfkcllincfpkaaNumLaws
import Derived.Test.YtpfkcllincfpkaaRefG
namespace Go.Proofs.Ytpfkcllincfpkaa.dg
open Go.RowKit

/-- what a division answers -/
def Gets (w w' : World) (e : Ending) (x y : Int) : Prop := e = .returned (.tuple #[.int .i64 x, .int .i64 y]) ∧ Below w.heap.size w w'

theorem quo_r (a b : Int) (ha : nm.Fit a) (hb : nm.Fit b) (w : World) :
    Calls Try.prog 29 #[.int .i64 a, .int .i64 b] w fun e w' => Gets w w' e (nm.quoV a b) (nm.quoE a b) := by
  by_cases h0 : b = 0
  · subst h0
    go_enter Try.func29, Try.ntmps29
    go_wp2
    go_ret2
    exact ⟨rfl, by go_grown⟩
  · have c0 : (b == 0) = false := by simp [h0]
    have cc := cut_c a b ha hb h0
    have l1 := fit_natAbs ha
    have q1 := Lib.hid (wv_tdiv a b)
    have q2 := Lib.hid (wv_tmod a b)
    have n1 : a.natAbs / b.natAbs ≤ a.natAbs := Nat.div_le_self _ _
    have n2 : a.natAbs % b.natAbs ≤ a.natAbs := Nat.mod_le _ _
    have hf := Lib.hid (nm.tmod_fit (b := b) ha)
    generalize a.natAbs / b.natAbs = m at *
    generalize a.natAbs % b.natAbs = n at *
    generalize decide (a < 0) = s at *
    generalize (s != decide (b < 0)) = t at *
    go_enter Try.func29, Try.ntmps29
    go_wp2_with fail
    refine (cc _).mono ?_; rintro e w1 ⟨g1, c1, g2, c2, rfl, s1, s2, b1⟩
    go_wp2_with fail
    refine (fit_c _ t g1 c1 m (by first | exact s1.mono (Nat.zero_le _) | exact (s1.mono (Nat.zero_le _)).alloc _ | exact ((s1.mono (Nat.zero_le _)).alloc _).alloc _) (len_ok (by omega))).mono ?_; rintro e w2 ⟨rfl, b2⟩
    go_wp2_with fail
    go_ret2
    exact ⟨nm_ret (by rw [q1.out, nm.quoV, if_neg h0]) (by rw [q1.out, nm.quoE, if_neg h0]), chain (b1.trans (((Below.refl _ w1).alloc b1.size _).alloc (by simp; have := b1.size; omega) _)) b2⟩

theorem rem_r (a b : Int) (ha : nm.Fit a) (hb : nm.Fit b) (w : World) :
    Calls Try.prog 30 #[.int .i64 a, .int .i64 b] w fun e w' => Gets w w' e (nm.remV a b) (nm.remE b) := by
  by_cases h0 : b = 0
  · subst h0
    go_enter Try.func30, Try.ntmps30
    go_wp2
    go_ret2
    exact ⟨rfl, by go_grown⟩
  · have c0 : (b == 0) = false := by simp [h0]
    have cc := cut_c a b ha hb h0
    have l1 := fit_natAbs ha
    have q1 := Lib.hid (wv_tdiv a b)
    have q2 := Lib.hid (wv_tmod a b)
    have n1 : a.natAbs / b.natAbs ≤ a.natAbs := Nat.div_le_self _ _
    have n2 : a.natAbs % b.natAbs ≤ a.natAbs := Nat.mod_le _ _
    have hf := Lib.hid (nm.tmod_fit (b := b) ha)
    generalize a.natAbs / b.natAbs = m at *
    generalize a.natAbs % b.natAbs = n at *
    generalize decide (a < 0) = s at *
    generalize (s != decide (b < 0)) = t at *
    go_enter Try.func30, Try.ntmps30
    go_wp2_with fail
    refine (cc _).mono ?_; rintro e w1 ⟨g1, c1, g2, c2, rfl, s1, s2, b1⟩
    go_wp2_with fail
    refine (fit_c _ s g2 c2 n (by first | exact s2.mono (Nat.zero_le _) | exact (s2.mono (Nat.zero_le _)).alloc _ | exact ((s2.mono (Nat.zero_le _)).alloc _).alloc _) (len_ok (by omega))).mono ?_; rintro e w2 ⟨rfl, b2⟩
    go_wp2_with fail
    go_ret2
    exact ⟨nm_ret (by rw [q2.out, nm.remV, if_neg h0, nm.val_of hf.out]) (by rw [q2.out, nm.remE, if_neg h0, nm.err_of hf.out]), chain (b1.trans (((Below.refl _ w1).alloc b1.size _).alloc (by simp; have := b1.size; omega) _)) b2⟩

theorem div_r (a b : Int) (ha : nm.Fit a) (hb : nm.Fit b) (w : World) :
    Calls Try.prog 32 #[.int .i64 a, .int .i64 b] w fun e w' => Gets w w' e (nm.divV a b) (nm.divE a b) := by
  by_cases h0 : b = 0
  · subst h0
    go_enter Try.func32, Try.ntmps32
    go_wp2
    go_ret2
    exact ⟨rfl, by go_grown⟩
  · have c0 : (b == 0) = false := by simp [h0]
    have cc := down_c a b ha hb h0
    have hf := Lib.hid (nm.fmod_fit ha hb h0)
    go_enter Try.func32, Try.ntmps32
    go_wp2_with fail
    refine (cc _).mono ?_; rintro e w1 ⟨s, m, t, n, ⟨g1, c1, g2, c2, rfl, s1, s2, b1⟩, q1, q2, n1, n2⟩; have q1' := Lib.hid q1; have q2' := Lib.hid q2; clear q1 q2
    go_wp2_with fail
    refine (fit_c _ s g1 c1 m (by first | exact s1.mono (Nat.zero_le _) | exact (s1.mono (Nat.zero_le _)).alloc _ | exact ((s1.mono (Nat.zero_le _)).alloc _).alloc _) (len_ok (by omega))).mono ?_; rintro e w2 ⟨rfl, b2⟩
    go_wp2_with fail
    go_ret2
    exact ⟨nm_ret (by rw [q1'.out, nm.divV, if_neg h0]) (by rw [q1'.out, nm.divE, if_neg h0]), chain (b1.trans (((Below.refl _ w1).alloc b1.size _).alloc (by simp; have := b1.size; omega) _)) b2⟩

theorem mod_r (a b : Int) (ha : nm.Fit a) (hb : nm.Fit b) (w : World) :
    Calls Try.prog 34 #[.int .i64 a, .int .i64 b] w fun e w' => Gets w w' e (nm.modV a b) (nm.remE b) := by
  by_cases h0 : b = 0
  · subst h0
    go_enter Try.func34, Try.ntmps34
    go_wp2
    go_ret2
    exact ⟨rfl, by go_grown⟩
  · have c0 : (b == 0) = false := by simp [h0]
    have cc := down_c a b ha hb h0
    have hf := Lib.hid (nm.fmod_fit ha hb h0)
    go_enter Try.func34, Try.ntmps34
    go_wp2_with fail
    refine (cc _).mono ?_; rintro e w1 ⟨s, m, t, n, ⟨g1, c1, g2, c2, rfl, s1, s2, b1⟩, q1, q2, n1, n2⟩; have q1' := Lib.hid q1; have q2' := Lib.hid q2; clear q1 q2
    go_wp2_with fail
    refine (fit_c _ t g2 c2 n (by first | exact s2.mono (Nat.zero_le _) | exact (s2.mono (Nat.zero_le _)).alloc _ | exact ((s2.mono (Nat.zero_le _)).alloc _).alloc _) (len_ok (by omega))).mono ?_; rintro e w2 ⟨rfl, b2⟩
    go_wp2_with fail
    go_ret2
    exact ⟨nm_ret (by rw [q2'.out, nm.modV, if_neg h0, nm.val_of hf.out]) (by rw [q2'.out, nm.remE, if_neg h0, nm.err_of hf.out]), chain (b1.trans (((Below.refl _ w1).alloc b1.size _).alloc (by simp; have := b1.size; omega) _)) b2⟩
end Go.Proofs.Ytpfkcllincfpkaa.dg
namespace Go.Proofs.Ytpfkcllincfpkaa.nm
open Go.RowKit Go.Proofs.Ytpfkcllincfpkaa.dg

theorem numDivides_walk (a0 : Int) (a1 : Int) (w : World) (w0 : (Lit.int .i64 a0).wf = true) (w1 : (Lit.int .i64 a1).wf = true) :
    Calls Try.prog 7 #[.int .i64 a0, .int .i64 a1] w fun e w' => e = .returned (.bool true) ∧ Below w.heap.size w w' := by
  have ha := fit_wf w0
  have hb := fit_wf w1
  have k1 := quo_c a0 a1 ha
  have k2 := quo_r a0 a1 ha hb
  have k3 := rem_c a0 a1
  have k4 := rem_r a0 a1 ha hb
  have k5 := div_c a0 a1 ha
  have k6 := div_r a0 a1 ha hb
  have k7 := mod_c a0 a1 ha hb
  have k8 := mod_r a0 a1 ha hb
  clear w0 w1 ha hb
  generalize quoV a0 a1 = x1 at *
  generalize quoE a0 a1 = x2 at *
  generalize remV a0 a1 = x3 at *
  generalize remE a1 = x4 at *
  generalize divV a0 a1 = x5 at *
  generalize divE a0 a1 = x6 at *
  generalize modV a0 a1 = x7 at *
  go_enter Try.func7, Try.ntmps7
  go_wp2_with fail
  refine (k1 _).mono ?_; rintro e w' ⟨rfl, rfl⟩; go_wp2_with fail
  refine (k2 _).mono ?_; rintro e w2 ⟨rfl, b2⟩; go_wp2_with fail
  refine (k3 _).mono ?_; rintro e w' ⟨rfl, rfl⟩; go_wp2_with fail
  refine (k4 _).mono ?_; rintro e w4 ⟨rfl, b4⟩; go_wp2_with fail
  refine (k5 _).mono ?_; rintro e w' ⟨rfl, rfl⟩; go_wp2_with fail
  refine (k6 _).mono ?_; rintro e w6 ⟨rfl, b6⟩; go_wp2_with fail
  refine (k7 _).mono ?_; rintro e w' ⟨rfl, rfl⟩; go_wp2_with fail
  refine (k8 _).mono ?_; rintro e w8 ⟨rfl, b8⟩; go_wp2_with fail
  go_ret
  exact ⟨rfl, chain (chain (chain b2 b4) b6) b8⟩
end Go.Proofs.Ytpfkcllincfpkaa.nm
