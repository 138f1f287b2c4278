/- Contracts of the reference's Mul, power, halves. -/
import Derived.Test.YtpfkcllincfpkaaRefE
namespace Go.Proofs.Ytpfkcllincfpkaa.dg
open Go.RowKit

theorem wv_mul (s : Bool) (m : Nat) (t : Bool) (n : Nat) : wv (s != t) (m * n) = wv s m * wv t n := by
  unfold wv
  cases s <;> cases t <;> simp [Int.neg_mul, Int.mul_neg, Int.natCast_mul]
theorem prod_ok {m n : Nat} (h1 : m ≤ 9223372036854775808) (h2 : n ≤ 9223372036854775808) : (digs (m * n)).length ≤ 100000 := by
  have h : m * n ≤ 9223372036854775808 * 9223372036854775808 := Nat.mul_le_mul h1 h2
  have := @digs_len_lt (m * n) 9 (by omega); omega

theorem mul_r (a b : Int) (ha : nm.Fit a) (hb : nm.Fit b) (w : World) :
    Calls Try.prog 28 #[.int .i64 a, .int .i64 b] w fun e w' => Fits w w' e (a * b) := by
  have l1 := fit_natAbs ha
  have l2 := fit_natAbs hb
  have l3 := prod_ok l1 l2
  have HW := Lib.hid (wv_mul (decide (a < 0)) a.natAbs (decide (b < 0)) b.natAbs)
  have o1 := of_w a ha
  have o2 := of_w b hb
  have A1 := Lib.hid (wv_of a)
  have A2 := Lib.hid (wv_of b)
  generalize decide (a < 0) = s at *
  generalize decide (b < 0) = t at *
  generalize a.natAbs = m at *
  generalize b.natAbs = n at *
  go_enter Try.func28, Try.ntmps28
  go_wp2_with fail
  refine (o1 _).mono ?_; rintro e w1 ⟨g1, cap1, rfl, h1, b1⟩; go_wp2_with fail
  refine (o2 _).mono ?_; rintro e w2 ⟨g2, cap2, rfl, h2, b2⟩; go_wp2_with fail
  refine (times_c _ _ _ g1 cap1 g2 cap2 m n (SlB.stay h1 b2) h2 (len_ok (by omega)) (len_ok (by omega))).mono ?_; rintro e w3 ⟨g3, cap3, rfl, h3, b3⟩; go_wp2_with fail
  refine (fit_c _ _ g3 cap3 _ h3 l3).mono ?_; rintro e w4 ⟨rfl, b4⟩; go_wp2_with fail
  go_ret2
  exact ⟨nm_ret (by rw [HW.out, A1.out, A2.out]) (by rw [HW.out, A1.out, A2.out]), chain (chain (chain b1 b2) b3) b4⟩

theorem pow_small (i : Nat) : 2 ^ (i % 15) < 32768 ∧ 0 < 2 ^ (i % 15) := by
  have h : 2 ^ (i % 15) < 2 ^ 15 := Nat.pow_lt_pow_right (by omega) (by omega)
  exact ⟨h, Nat.pow_pos (by omega)⟩
theorem pow_wrap (i : Nat) : wrap64 ((2 : Int) ^ (i % 15)) = ((2 ^ (i % 15) : Nat) : Int) := by
  have h := pow_small i
  have e : ((2 : Int) ^ (i % 15)) = ((2 ^ (i % 15) : Nat) : Int) := by rw [Int.natCast_pow]; rfl
  rw [e]; generalize 2 ^ (i % 15) = x at *
  exact IntWalk.wrap64_in _ (by omega)
theorem set_last (k d : Nat) : (List.replicate (k + 1) 0).set k d = List.replicate k 0 ++ [d] := by
  induction k with
  | zero => rfl
  | succ k ih => rw [List.replicate_succ, List.set_cons_succ, ih, List.replicate_succ, List.cons_append]
theorem pow_digs (i : Nat) : (List.replicate (i / 15 + 1) 0).set (i / 15) (2 ^ (i % 15)) = digs (2 ^ i) := by
  have h := pow_small i
  rw [set_last]
  have hl : Low (List.replicate (i / 15) 0 ++ [2 ^ (i % 15)]) := by
    refine low_append.2 ⟨fun d hd => ?_, low_cons.2 ⟨h.1, low_nil⟩⟩
    rw [List.mem_replicate] at hd; omega
  have hv : val (List.replicate (i / 15) 0 ++ [2 ^ (i % 15)]) = 2 ^ i := by
    rw [val_append, zeros_val, List.length_replicate, val_cons, val_nil, Nat.mul_zero, Nat.add_zero, Nat.zero_add, show (32768 : Nat) = 2 ^ 15 from rfl, ← Nat.pow_mul, ← Nat.pow_add, Nat.div_add_mod]
  rw [← hv, ← trimL_val hl, trimL_ne _ (by omega)]

theorem power_c (i : Nat) (hi : i ≤ 70) (w : World) :
    Calls Try.prog 52 #[.int .i64 i] w fun e w' => Gives w w' e (2 ^ i) := by
  go_enter Try.func52, Try.ntmps52
  go_wp2_with (at_make; refine wpList_zeros _ rfl _ _ rfl w.heap.size (i / 15 + 1) _ _ rfl rfl ?c1 ?c2 ?c3 ?c4 ?c5)
  case c1 => omega
  case c2 => omega
  case c3 => omega
  case c4 => go_size
  case c5 =>
  intro w1 hown hb
  have hr : i % 15 < 15 := by omega
  have hq : i / 15 < i / 15 + 1 := by omega
  have co := hown.at (i / 15) (by simp)
  have fo := hown.free (i / 15)
  go_wp2
  go_ret
  rw [pow_wrap i]
  have hs := hown.store (i / 15) (2 ^ (i % 15))
  rw [pow_digs i] at hs
  exact ⟨_, _, slice_len (by rw [← pow_digs i]; simp), hs, (hb.setCell (Nat.le_refl _) _)⟩

theorem SlB.grown {B g0 : Nat} {w w' : World} {g cap : Nat} {l : List Nat} (h : SlB B w g cap l) (hg : w.grownBy w' (some g0)) (hne : g ≠ g0) : SlB B w' g cap l :=
  World.ownsRow.kept h hg (.inr (by simpa [Value.ownBlock] using hne))

/-- 'out = append(out, l...)' -/
theorem wpList_join {ops : Array Oper} {rest : List Oper} {o : Oper} {a : Act} {Q : Exit → Act → World → Prop} (hgd : o.guard = none) (s x : Operand)
    (ho : o.op = .call { callee := .builtin .append, args := #[s, x], argTypes := #[34, 34] })
    (B : Nat) (w : World) (g cap g1 c1 : Nat) (l k : List Nat) (hs : a.eval s = .slice (some ⟨g, 0, none⟩) l.length cap) (hown : SlB B w g cap l)
    (hx : a.eval x = .slice (some ⟨g1, 0, none⟩) k.length c1) (hk : Sl w g1 c1 k) (hlen : l.length + k.length ≤ 1000000) (hB : B ≤ w.heap.size)
    (h : ∀ g' cap' w', SlB B w' g' cap' (l ++ k) → Below B w w' ∧ w.grownBy w' (some g) → wpList Try.prog ops Q rest (a.put o.dst (.slice (some ⟨g', 0, none⟩) (l.length + k.length) cap')) w') :
    wpList Try.prog ops Q (o :: rest) a w := by
  obtain ⟨i0, hi, hz0, hz1, hz2⟩ := info_parts info_int
  refine wpList_append_own _ hgd s x 34 ho B 3 i0 (.int .i64 0) 1 8 Try.underlying34 hi hz0 hz1 hz2 rfl (by decide) _ l.length (nums l) hs hown ⟨g1, 0, none⟩ k.length c1 (nums k) hx (by rw [nums_len]; omega) ?_ ?_ ?_ ?_ hB ?_
  · intro j u hj
    have hj2 : j < k.length := by
      rcases Nat.lt_or_ge j k.length with h1 | h1
      · exact h1
      · rw [List.getElem?_eq_none (by rw [nums_len]; exact h1)] at hj; simp at hj
    have := hk.cell j hj2
    rw [show (⟨g1, 0, none⟩ : Addr).add j = ⟨g1, j, none⟩ from by unfold Addr.add; split <;> simp_all, this]
    simp [nums, hj2] at hj; rw [hj]
  · intro u hu; simp [nums] at hu; obtain ⟨d, _, rfl⟩ := hu; rfl
  · unfold maxLen; omega
  · omega
  · intro v' w' hown' hgr hnil
    have e1 : nums l ++ nums k = nums (l ++ k) := by simp [nums]
    rw [e1] at hown'
    have hb : Below B w w' := (Below.refl B w).grown hgr hB (fun j hj => by simp [Value.ownBlock] at hj; have := hown.lt.1; omega)
    rcases hown'.2 with ⟨h1, h2⟩ | ⟨g', cap', cur, h1, h2⟩
    · have := (hnil.1 h1).1; simp at this
    · subst h1
      refine h g' cap' w' ?_ ⟨hb, hgr⟩
      have : SlB B w' g' cap' (l ++ k) := by unfold SlB; simpa using hown'
      exact this

/-- the quotient and the rest, as lists of digits -/
def Two (w w' : World) (e : Ending) (q r : Nat) : Prop :=
  ∃ g cap g' cap', e = .returned (.tuple #[.slice (some ⟨g, 0, none⟩) (digs q).length cap, .slice (some ⟨g', 0, none⟩) (digs r).length cap']) ∧ SlB w.heap.size w' g cap (digs q) ∧ SlB w.heap.size w' g' cap' (digs r) ∧ Below w.heap.size w w'

theorem halves_c (w : World) (g cap g' cap' m n : Nat) (h : Sl w g cap (digs m)) (h' : Sl w g' cap' (digs n)) (hm : m ≤ 9223372036854775808) (hn : 0 < n) (hn2 : n ≤ 9223372036854775808) :
    Calls Try.prog 53 #[.slice (some ⟨g, 0, none⟩) (digs m).length cap, .slice (some ⟨g', 0, none⟩) (digs n).length cap'] w fun e w' => Two w w' e (m / n) (m % n) := by
  have hf := field_d
  go_enter Try.func53, Try.ntmps53
  go_wp2
  have hr0 : SlB (w.heap.size + 1) ((w.alloc (.cells #[] 3)).alloc (.cells #[] 3)) (w.heap.size + 1) 0 [] := by
    have := SlB.empty (w.heap.size + 1) (w.alloc (.cells #[] 3)) (by simp)
    simpa using this
  have hq0 : SlB w.heap.size ((w.alloc (.cells #[] 3)).alloc (.cells #[] 3)) w.heap.size 0 (digs 0) := by
    rw [digs_zero]; exact (SlB.empty _ w (Nat.le_refl _)).alloc _
  have hbw : Below w.heap.size w ((w.alloc (.cells #[] 3)).alloc (.cells #[] 3)) := by go_grown
  have hsz : ((w.alloc (.cells #[] 3)).alloc (.cells #[] 3)).heap.size = w.heap.size + 2 := by simp
  have h2 := h.stay hbw
  have h2' := h'.stay hbw
  have hgn := h'.lt.2
  generalize hW2 : (w.alloc (.cells #[] 3)).alloc (.cells #[] 3) = W2 at *
  have HB := Lib.hid hbw
  have HZ := Lib.hid hsz
  clear hW2 hbw hsz
  go_loopw [0, 6, 8] (fun va vq i wr => ∃ j A Q ga ca gq cq : Nat, va = .slice (some ⟨ga, 0, none⟩) (digs A).length ca ∧ vq = .slice (some ⟨gq, 0, none⟩) (digs Q).length cq ∧ i = .int .i64 ((j : Int) - 1) ∧ j ≤ 65 ∧ Sl wr ga ca (digs A) ∧ SlB w.heap.size wr gq cq (digs Q) ∧ Hid (m = Q * n + A) ∧ Hid (A < 2 ^ j * n) ∧ A ≤ m ∧ Q ≤ m ∧ gq ≠ w.heap.size + 1 ∧ Below (w.heap.size + 2) W2 wr) (fun _ _ i _ => (intOf i + 1).toNat)
  case atStart =>
    refine ⟨65, m, 0, g, cap, w.heap.size, 0, rfl, by rw [digs_zero]; rfl, rfl, by omega, h2, hq0, Lib.hid (by omega), Lib.hid ?_, Nat.le_refl _, Nat.zero_le _, by omega, Below.refl _ _⟩
    have : 2 ^ 65 * 1 ≤ 2 ^ 65 * n := Nat.mul_le_mul (Nat.le_refl _) hn
    omega
  case round =>
    obtain ⟨j, A, Q, ga, ca, gq, cq, rfl, rfl, rfl, hj, hA, hQ, hE, hL, hAm, hQm, hne, hb⟩ := hrel
    have hz : w.heap.size + 2 ≤ wr.heap.size := by have := hb.size; have := HZ.out; omega
    have hn' := h2'.kept hb (by omega)
    have hrr := hr0.kept hb (by omega)
    by_cases hj0 : j = 0
    · subst hj0
      have hq := Lib.hid (show m / n = Q by
        have h1 := hE.out; have h2 := hL.out
        rw [Nat.pow_zero, Nat.one_mul] at h2
        rw [h1, Nat.mul_comm, Nat.mul_add_div hn, Nat.div_eq_of_lt h2, Nat.add_zero])
      have hr := Lib.hid (show m % n = A by
        have h1 := hE.out; have h2 := hL.out
        rw [Nat.pow_zero, Nat.one_mul] at h2
        rw [h1, Nat.mul_comm, Nat.mul_add_mod, Nat.mod_eq_of_lt h2])
      clear hE hL
      go_wp2_with (at_builtin; refine wpList_join rfl _ _ rfl (w.heap.size + 1) wr (w.heap.size + 1) 0 ga ca [] (digs A) rfl hrr rfl hA ?c1 ?c2 ?c3)
      case c1 => have := len_ok (n := A) (by omega); simp; omega
      case c2 => omega
      case c3 =>
        intro g5 c5 w5 h5 b5 hg5
        have hQ5 := hQ.grown hg5 (by omega)
        clear hg5
        go_wp2
        go_ret2
        exact ⟨gq, cq, g5, c5, by rw [hq.out, hr.out]; first | rfl | simp, by rw [hq.out]; exact hQ5, by rw [hr.out]; exact h5.mono (by omega), (HB.out.trans (hb.mono (by omega))).trans (b5.mono (by omega))⟩
    · obtain ⟨i, rfl⟩ : ∃ i, j = i + 1 := ⟨j - 1, by omega⟩
      rw [show (((i + 1 : Nat) : Int) - 1) = (i : Int) from by omega]
      have hp2 : 2 ^ i ≤ 18446744073709551616 := Nat.le_trans (Nat.pow_le_pow_right (by omega) (show i ≤ 64 by omega)) (by decide)
      by_cases hle : 2 ^ i * n ≤ A
      · have e3 : ord (2 ^ i * n) A ≤ 0 := by unfold ord; split; omega; rw [if_neg (by omega)]; omega
        have hE' := Lib.hid (show m = (Q + 2 ^ i) * n + (A - 2 ^ i * n) by have := hE.out; rw [Nat.add_mul]; omega)
        have hL' := Lib.hid (show A - 2 ^ i * n < 2 ^ i * n by have := hL.out; rw [Nat.pow_succ, Nat.mul_comm (2 ^ i) 2, Nat.mul_assoc] at this; omega)
        have hQm' : Q + 2 ^ i ≤ m := by
          have := hE'.out
          have : (Q + 2 ^ i) * 1 ≤ (Q + 2 ^ i) * n := Nat.mul_le_mul (Nat.le_refl _) hn
          omega
        clear hE hL
        generalize hP : 2 ^ i * n = P at *
        have HP := Lib.hid hP
        clear hP
        generalize h2i : 2 ^ i = T at *
        have H2 := Lib.hid h2i
        clear h2i
        go_wp2_with fail
        refine (power_c i (by omega) _).mono ?_; rintro e w1 ⟨g1, c1, rfl, s1, b1⟩; rw [H2.out] at s1 ⊢; go_wp2_with fail
        refine (times_c _ false false g1 c1 g' cap' T n (s1.mono (Nat.zero_le _)) (hn'.stay b1) (len_ok hp2) (len_ok (by omega))).mono ?_; rintro e w2 ⟨g2, c2, rfl, s2, b2⟩; rw [HP.out] at s2 ⊢; go_wp2_with fail
        refine (order_c _ g2 c2 ga ca P A s2 (hA.stay (chain b1 b2))).mono ?_; rintro e w3 ⟨rfl, k, rfl⟩; go_wp2_with fail
        refine (less_c _ ga ca g2 c2 A P ((hA.stay (chain b1 b2)).drawn k) (s2.drawn k) (len_ok (by omega)) hle).mono ?_; rintro e w4 ⟨g4, c4, rfl, s4, b4⟩; go_wp2_with fail
        refine (power_c i (by omega) _).mono ?_; rintro e w5 ⟨g5, c5, rfl, s5, b5⟩; rw [H2.out] at s5 ⊢; go_wp2_with fail
        have c24 : Below wr.heap.size wr w4 := (chain b1 b2).trans ((below_drewN (Below.refl _ _) k).trans (b4.mono (chain b1 b2).size))
        refine (plus_c _ gq cq g5 c5 Q T ((hQ.stay (chain c24 b5)).mono (Nat.zero_le _)) (s5.mono (Nat.zero_le _)) (len_ok (by omega)) (len_ok hp2)).mono ?_; rintro e w6 ⟨g6, c6, rfl, s6, b6⟩; go_wp2_with fail
        exact ⟨⟨i, A - P, Q + T, g4, c4, g6, c6, rfl, rfl, rfl, by omega, (s4.stay (chain b5 b6)).mono (Nat.zero_le _), s6.mono (by have := (chain c24 b5).size; omega), hE', Lib.hid (by rw [H2.out, HP.out]; exact hL'.out), by omega, hQm', by have := s6.lt.1; have := (chain c24 b5).size; omega, hb.trans ((chain (chain c24 b5) b6).mono hz)⟩, by first | (simp [intOf]; done) | (simp [intOf]; omega)⟩
      · have e3 : 0 < ord (2 ^ i * n) A := by unfold ord; rw [if_neg (by omega), if_pos (by omega)]; omega
        have hL' := Lib.hid (show A < 2 ^ i * n by omega)
        clear hL
        generalize hP : 2 ^ i * n = P at *
        have HP := Lib.hid hP
        clear hP
        generalize h2i : 2 ^ i = T at *
        have H2 := Lib.hid h2i
        clear h2i
        go_wp2_with fail
        refine (power_c i (by omega) _).mono ?_; rintro e w1 ⟨g1, c1, rfl, s1, b1⟩; rw [H2.out] at s1 ⊢; go_wp2_with fail
        refine (times_c _ false false g1 c1 g' cap' T n (s1.mono (Nat.zero_le _)) (hn'.stay b1) (len_ok hp2) (len_ok (by omega))).mono ?_; rintro e w2 ⟨g2, c2, rfl, s2, b2⟩; rw [HP.out] at s2 ⊢; go_wp2_with fail
        refine (order_c _ g2 c2 ga ca P A s2 (hA.stay (chain b1 b2))).mono ?_; rintro e w3 ⟨rfl, k, rfl⟩; go_wp2_with fail
        exact ⟨⟨i, A, Q, ga, ca, gq, cq, rfl, rfl, rfl, by omega, (hA.stay (chain b1 b2)).drawn k, (hQ.stay (chain b1 b2)).drawn k, hE, Lib.hid (by rw [H2.out, HP.out]; exact hL'.out), hAm, hQm, hne, hb.trans (below_drewN ((chain b1 b2).mono hz) k)⟩, by first | (simp [intOf]; done) | (simp [intOf]; omega)⟩
end Go.Proofs.Ytpfkcllincfpkaa.dg
