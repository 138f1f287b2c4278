/- Floats that hold a whole number of few digits, or one over a small power of two: read, added, divided, each without a rest. Plain lemmas, no program in sight. -/
import Derived.Test.YtpkokolhmcophaaFl
namespace Go.Proofs.Ytpkokolhmcophaa.fl
open Ieee

/-- the float of z times two to the e -/
def F (z e : Int) : Nat := double.nearest (decide (z < 0)) z.natAbs e
theorem F_zero (e : Int) : F 0 e = 0 := rfl
theorem nearest_zero (neg : Bool) (e : Int) : double.nearest neg 0 e = double.word neg 0 := if_pos rfl
theorem F_lt (z e : Int) : F z e < 2 ^ 64 := double.nearest_lt _ _ _
theorem F_int (n : Int) : floatOfInt .f64 n = F n 0 := rfl

theorem log2_shift (m j : Nat) (h : m ≠ 0) : (m * 2 ^ j).log2 = m.log2 + j := by
  have h2 : m * 2 ^ j ≠ 0 := Nat.mul_ne_zero h (Nat.pos_iff_ne_zero.1 (Nat.two_pow_pos j))
  rw [Nat.log2_eq_iff h2]
  have a := Nat.log2_self_le h
  have b := @Nat.lt_log2_self m
  constructor
  · rw [Nat.pow_add]; exact Nat.mul_le_mul_right _ a
  · rw [show m.log2 + j + 1 = m.log2 + 1 + j by omega, Nat.pow_add]; exact Nat.mul_lt_mul_of_pos_right b (Nat.two_pow_pos j)
theorem cut_exact (neg : Bool) (a d : Nat) (h : a ≠ 0) : Toward.even.cut neg (a * 2 ^ d) d = a := by
  unfold Toward.cut
  have hd : min d ((a * 2 ^ d).log2 + 2) = d := by rw [log2_shift a d h]; omega
  have hp := Nat.two_pow_pos d
  simp only [hd, Nat.one_shiftLeft, Nat.mul_div_cancel _ hp, Nat.mul_mod_left]
  simp

theorem dbl : double.fractionBits = 52 ∧ double.leastPlace = -1074 ∧ double.binade = 4503599627370496 ∧ double.infRung = 9218868437227405312 ∧ double.signWeight = 9223372036854775808 := by decide

/-- of a number that the format has: the word by its digits -/
theorem nearest_fits (neg : Bool) {m : Nat} {p : Int} (j : Nat) (h : m ≠ 0) (hm : m.log2 ≤ 52) (hp : -1074 ≤ p) :
    double.nearest neg (m * 2 ^ j) (p - j) = double.word neg (min ((max (p + m.log2 - 52) (-1074) - (-1074)).toNat * 4503599627370496 + m * 2 ^ (p - max (p + m.log2 - 52) (-1074)).toNat) 9218868437227405312) := by
  have hmj : m * 2 ^ j ≠ 0 := Nat.mul_ne_zero h (Nat.pos_iff_ne_zero.1 (Nat.two_pow_pos j))
  unfold Format.nearest
  rw [if_neg hmj, dbl.1, dbl.2.1, dbl.2.2.1, dbl.2.2.2.1, log2_shift m j h]
  dsimp only
  have eL : p - (j : Int) + ((m.log2 + j : Nat) : Int) - ((52 : Nat) : Int) = p + m.log2 - 52 := by omega
  rw [eL]
  generalize hL : max (p + (m.log2 : Int) - 52) (-1074) = L
  have hLp : L ≤ p := by omega
  have key : Toward.even.cut neg ((m * 2 ^ j) <<< (p - j - L).toNat) (L - (p - j)).toNat = m * 2 ^ (p - L).toNat := by
    rw [Nat.shiftLeft_eq]
    by_cases c : L ≤ p - j
    · rw [show (L - (p - (j : Int))).toNat = 0 by omega]
      have e : m * 2 ^ j * 2 ^ (p - j - L).toNat = m * 2 ^ (p - L).toNat * 2 ^ 0 := by
        rw [Nat.mul_assoc, ← Nat.pow_add, Nat.pow_zero, Nat.mul_one]; congr 2; omega
      rw [e]
      exact cut_exact neg _ 0 (Nat.mul_ne_zero h (Nat.pos_iff_ne_zero.1 (Nat.two_pow_pos _)))
    · rw [show (p - (j : Int) - L).toNat = 0 by omega, Nat.pow_zero, Nat.mul_one]
      have e : m * 2 ^ j = m * 2 ^ (p - L).toNat * 2 ^ (L - (p - (j : Int))).toNat := by
        rw [Nat.mul_assoc, ← Nat.pow_add]; congr 2; omega
      rw [e]
      exact cut_exact neg _ _ (Nat.mul_ne_zero h (Nat.pos_iff_ne_zero.1 (Nat.two_pow_pos _)))
  rw [key]
theorem nearest_shift (neg : Bool) {m : Nat} {p q : Int} (j : Nat) (h : m ≠ 0) (hm : m.log2 ≤ 52) (hp : -1074 ≤ p) (hq : q = p - j) : double.nearest neg (m * 2 ^ j) q = double.nearest neg m p := by
  subst hq
  have h0 := nearest_fits neg 0 h hm hp
  rw [Nat.pow_zero, Nat.mul_one] at h0
  rw [nearest_fits neg j h hm hp, ← h0]
  congr 1; omega

theorem read_word (neg : Bool) {r : Nat} (h1 : 4503599627370496 ≤ r) (h2 : r < 9218868437227405312) :
    double.read (double.word neg r) = .number neg (4503599627370496 + r % 4503599627370496) (-1074 + ((r / 4503599627370496 - 1 : Nat) : Int)) := by
  unfold Format.read Format.word
  rw [dbl.2.2.2.2, dbl.2.2.1, dbl.2.2.2.1, dbl.2.1]
  dsimp only
  cases neg
  · simp only [Bool.false_eq_true, if_false]
    rw [show r % 9223372036854775808 = r by omega, if_neg (by omega), if_pos (by omega), show r / 9223372036854775808 % 2 = 0 by omega]
    rfl
  · simp only [if_true]
    rw [show (9223372036854775808 + r) % 9223372036854775808 = r by omega, if_neg (by omega), if_pos (by omega), show (9223372036854775808 + r) / 9223372036854775808 % 2 = 1 by omega]
    rfl
/-- a number of few digits, written and read again -/
theorem read_near (neg : Bool) {m : Nat} {p : Int} (h : m ≠ 0) (hm : m.log2 ≤ 52) (hp : -1000 ≤ p) (hp2 : p ≤ 900) :
    double.read (double.nearest neg m p) = .number neg (m * 2 ^ (52 - m.log2)) (p + m.log2 - 52) := by
  have h0 := nearest_fits neg 0 h hm (p := p) (by omega)
  rw [Nat.pow_zero, Nat.mul_one] at h0
  rw [show p - ((0 : Nat) : Int) = p by omega] at h0
  have eL : max (p + (m.log2 : Int) - 52) (-1074) = p + m.log2 - 52 := by omega
  rw [eL, show (p - (p + (m.log2 : Int) - 52)).toNat = 52 - m.log2 by omega] at h0
  have lo : 4503599627370496 ≤ m * 2 ^ (52 - m.log2) := by
    have a := Nat.mul_le_mul_right (2 ^ (52 - m.log2)) (Nat.log2_self_le h)
    rw [← Nat.pow_add, show m.log2 + (52 - m.log2) = 52 by omega] at a
    exact a
  have hi : m * 2 ^ (52 - m.log2) < 9007199254740992 := by
    have a := Nat.mul_lt_mul_of_pos_right (@Nat.lt_log2_self m) (Nat.two_pow_pos (52 - m.log2))
    rw [← Nat.pow_add, show m.log2 + 1 + (52 - m.log2) = 53 by omega] at a
    exact a
  generalize hk : m * 2 ^ (52 - m.log2) = k at *
  obtain ⟨d, hd⟩ : ∃ d : Nat, p + (m.log2 : Int) - 52 = d - 1074 := ⟨(p + m.log2 - 52 + 1074).toNat, by omega⟩
  rw [hd] at h0 ⊢
  rw [show ((d : Int) - 1074 - (-1074)).toNat = d by omega] at h0
  have hd2 : d ≤ 2000 := by omega
  rw [h0, Nat.min_eq_left (by omega), read_word neg (by omega) (by omega)]
  congr 1 <;> omega

/-- what the float of z times two to the e is read as -/
theorem read_F {z e : Int} (hz : z.natAbs < 2 ^ 53) (he : -900 ≤ e) (he2 : e ≤ 900) :
    ∃ (M : Nat) (I : Int), double.read (F z e) = .number (decide (z < 0)) M I ∧ -1074 ≤ I ∧ I ≤ e ∧ ∀ b : Int, b ≤ I → signed (decide (z < 0)) M (I - b).toNat = z * 2 ^ (e - b).toNat := by
  by_cases h : z = 0
  · subst h
    refine ⟨0, -1074, by rw [F_zero]; decide, by omega, by omega, fun b _ => ?_⟩
    rw [signed_eq]; simp
  · have hm : z.natAbs ≠ 0 := by omega
    have hl : z.natAbs.log2 ≤ 52 := by have := (Nat.log2_lt hm (k := 53)).2 hz; omega
    refine ⟨z.natAbs * 2 ^ (52 - z.natAbs.log2), e + z.natAbs.log2 - 52, read_near _ hm hl (by omega) (by omega), by omega, by omega, fun b hb => ?_⟩
    rw [signed_eq, show ((z.natAbs * 2 ^ (52 - z.natAbs.log2) : Nat) : Int) = (z.natAbs : Int) * 2 ^ (52 - z.natAbs.log2) by rw [Int.natCast_mul, Int.natCast_pow]; rfl]
    have e1 : (if decide (z < 0) = true then -((z.natAbs : Int) * 2 ^ (52 - z.natAbs.log2)) else (z.natAbs : Int) * 2 ^ (52 - z.natAbs.log2)) = z * 2 ^ (52 - z.natAbs.log2) := by
      by_cases c : z < 0
      · rw [if_pos (by simpa using c), ← Int.neg_mul]; congr 1; omega
      · rw [if_neg (by simpa using c)]; congr 1; omega
    rw [e1, Int.mul_assoc, ← Int.pow_add]
    congr 2; omega

theorem F_shift {z e : Int} (j : Nat) (hz : z.natAbs < 2 ^ 53) (he : -1074 ≤ e) : F (z * 2 ^ j) (e - j) = F z e := by
  by_cases h : z = 0
  · subst h; rw [Int.zero_mul, F_zero, F_zero]
  · unfold F
    have hm : z.natAbs ≠ 0 := by omega
    have hl : z.natAbs.log2 ≤ 52 := by have := (Nat.log2_lt hm (k := 53)).2 hz; omega
    have hp := two_pow_pos' j
    have e1 : decide (z * 2 ^ j < 0) = decide (z < 0) := by
      congr 1; apply propext
      constructor
      · intro c; refine Int.lt_of_not_ge fun c2 => ?_; have := Int.mul_nonneg c2 (Int.le_of_lt hp); omega
      · intro c; exact Int.mul_neg_of_neg_of_pos c hp
    have e2 : (z * 2 ^ j).natAbs = z.natAbs * 2 ^ j := by rw [Int.natAbs_mul, Int.natAbs_pow, show Int.natAbs 2 = 2 from rfl]
    rw [e1, e2]
    exact nearest_shift _ j hm hl he rfl

/-- two numbers of one place added -/
theorem F_add {x y e : Int} (hx : x.natAbs < 2 ^ 40) (hy : y.natAbs < 2 ^ 40) (he : -900 ≤ e) (he2 : e ≤ 900) : floatBits .add .f64 (F x e) (F y e) = some (F (x + y) e) := by
  show double.add (F x e) (F y e) = _
  unfold Format.add
  obtain ⟨M1, I1, r1, l1, u1, v1⟩ := read_F (z := x) (e := e) (by omega) he he2
  obtain ⟨M2, I2, r2, l2, u2, v2⟩ := read_F (z := y) (e := e) (by omega) he he2
  rw [r1, r2]
  show some (double.write _) = _
  congr 1
  unfold Format.write
  dsimp only
  rw [v1 (min I1 I2) (by omega), v2 (min I1 I2) (by omega), ← Int.add_mul]
  generalize hb : min I1 I2 = b
  have hbe : b ≤ e := by omega
  have hbl : -1074 ≤ b := by omega
  obtain ⟨q, hq⟩ : ∃ q : Nat, e - b = q := ⟨(e - b).toNat, by omega⟩
  rw [hq, Int.toNat_natCast]
  by_cases h : x + y = 0
  · rw [h, Int.zero_mul, if_pos rfl]
    have : (decide (x < 0) && decide (y < 0)) = false := by
      by_cases c : x < 0
      · rw [show decide (y < 0) = false by simp; omega]; simp
      · rw [show decide (x < 0) = false by simp; omega]; rfl
    rw [this, F_zero]; exact F_zero b
  · have hp := two_pow_pos' q
    have hne : (x + y) * 2 ^ q ≠ 0 := Int.mul_ne_zero h (by omega)
    rw [if_neg hne]
    have := F_shift (z := x + y) (e := e) q (by omega) (by omega)
    rw [← this]
    unfold F
    rw [show e - (q : Int) = b by omega]

theorem quot_num (dg : Nat) (s t : Bool) (m n : Nat) (i j : Int) (hn : n ≠ 0) :
    (Datum.number s m i).quotient dg (.number t n j) = some (.number (s ^^ t) (2 * ((m <<< (dg + n.log2 - m.log2)) / n) + ((m <<< (dg + n.log2 - m.log2)) % n != 0).toNat) (i - j - (dg + n.log2 - m.log2 : Nat) - 1)) := by
  unfold Datum.quotient
  exact if_neg hn
theorem zero_quot (dg n : Nat) (i j : Int) (hn : n ≠ 0) : ((Datum.number false 0 i).quotient dg (.number false n j)).map double.write = some 0 := by
  rw [quot_num _ _ _ _ _ _ _ hn, Nat.zero_shiftLeft, Nat.zero_div, Nat.zero_mod, Option.map_some, show ((0 : Nat) != 0 : Bool).toNat = 0 from rfl, Nat.mul_zero, Nat.add_zero, Bool.xor_false]
  generalize i - j - (dg + n.log2 - Nat.log2 0 : Nat) - 1 = P
  show some (double.nearest false 0 P) = some 0
  rw [nearest_zero]; rfl
/-- a number divided by a power of two -/
theorem F_div {x : Int} (t : Nat) (hx : x.natAbs < 2 ^ 40) (ht : t ≤ 50) : floatBits .quo .f64 (F x 0) (F (2 ^ t) 0) = some (F x (-t)) := by
  show double.div (F x 0) (F (2 ^ t) 0) = _
  unfold Format.div
  have hp := two_pow_pos' t
  have hp' := Nat.two_pow_pos t
  have hn : ((2 : Int) ^ t).natAbs = 2 ^ t := by rw [Int.natAbs_pow, show Int.natAbs 2 = 2 from rfl]
  have hlg : ((2 : Int) ^ t).natAbs.log2 = t := by rw [hn, Nat.log2_two_pow]
  have rd : double.read (F (2 ^ t) 0) = .number false 4503599627370496 (t - 52) := by
    unfold F
    rw [read_near _ (by omega) (by rw [hlg]; omega) (by omega) (by omega), hlg, hn, ← Nat.pow_add, show t + (52 - t) = 52 by omega, show decide ((2 : Int) ^ t < 0) = false by simp; omega, Int.zero_add]
  rw [rd, dbl.1]
  by_cases h : x = 0
  · subst h
    rw [F_zero, F_zero, show double.read 0 = .number false 0 (-1074) by decide]
    exact zero_quot _ _ _ _ (by omega)
  · have hm : x.natAbs ≠ 0 := by omega
    have hl : x.natAbs.log2 ≤ 40 := by have := (Nat.log2_lt hm (k := 40)).2 hx; omega
    have rx : double.read (F x 0) = .number (decide (x < 0)) (x.natAbs * 2 ^ (52 - x.natAbs.log2)) (x.natAbs.log2 - 52) := by
      unfold F
      rw [read_near _ hm (by omega) (by omega) (by omega), Int.zero_add]
    have hmm : x.natAbs * 2 ^ (52 - x.natAbs.log2) ≠ 0 := Nat.mul_ne_zero hm (by have := Nat.two_pow_pos (52 - x.natAbs.log2); omega)
    have hml : (x.natAbs * 2 ^ (52 - x.natAbs.log2)).log2 = 52 := by rw [log2_shift _ _ hm]; omega
    rw [rx, quot_num _ _ _ _ _ _ _ (by omega), hml, show Nat.log2 4503599627370496 = 52 by decide, show 52 + 2 + 52 - 52 = 54 by rfl, Nat.shiftLeft_eq]
    have e1 : x.natAbs * 2 ^ (52 - x.natAbs.log2) * 2 ^ 54 = x.natAbs * 2 ^ (52 - x.natAbs.log2) * 4 * 4503599627370496 := by rw [Nat.mul_assoc _ 4 _]
    rw [e1, Nat.mul_div_cancel _ (by omega), Nat.mul_mod_left, Option.map_some]
    congr 1
    unfold Format.write F
    dsimp only
    rw [Bool.xor_false]
    have e2 : 2 * (x.natAbs * 2 ^ (52 - x.natAbs.log2) * 4) + ((0 : Nat) != 0 : Bool).toNat = x.natAbs * 2 ^ (55 - x.natAbs.log2) := by
      rw [show 55 - x.natAbs.log2 = (52 - x.natAbs.log2) + 3 by omega, Nat.pow_add, show ((0 : Nat) != 0 : Bool).toNat = 0 from rfl, ← Nat.mul_assoc x.natAbs]
      generalize x.natAbs * 2 ^ (52 - x.natAbs.log2) = y
      omega
    rw [e2]
    exact nearest_shift _ _ hm (by omega) (by omega) (by omega)

/-! ### such floats among others -/
theorem F_nan {z e : Int} (hz : z.natAbs < 2 ^ 40) (he : -900 ≤ e) (he2 : e ≤ 900) : nan (F z e) = false := by
  obtain ⟨M, I, r, _, _, _⟩ := read_F (z := z) (e := e) (by omega) he he2
  unfold nan; rw [r]; rfl
theorem F_key {z e : Int} (hz : z.natAbs < 2 ^ 40) (he : -900 ≤ e) (he2 : e ≤ 900) : cls (F z e) = 0 ∧ key (F z e) = z * 2 ^ (e + 1074).toNat := by
  obtain ⟨M, I, r, h1, _, h3⟩ := read_F (z := z) (e := e) (by omega) he he2
  unfold cls key
  rw [r, dbl.2.1]
  refine ⟨rfl, ?_⟩
  have := h3 (-1074) h1
  rw [show e - (-1074 : Int) = e + 1074 by omega] at this
  exact this
theorem lt_zero_right {z e : Int} (hz : z.natAbs < 2 ^ 40) (he : -900 ≤ e) (he2 : e ≤ 900) (h : z ≠ 0) : lt (F z e) 0 = true ∨ lt 0 (F z e) = true := by
  have e0 : cls 0 = 0 ∧ key 0 = 0 := by decide
  obtain ⟨k1, k2⟩ := F_key hz he he2
  unfold lt lessK
  rw [e0.1, e0.2, k1, k2]
  have hp := two_pow_pos' (e + 1074).toNat
  by_cases c : z < 0
  · left; have := Int.mul_neg_of_neg_of_pos c hp; simp; exact this
  · right; have := Int.mul_pos (show 0 < z by omega) hp; simp; exact this
theorem big_key : cls 9218868437227405311 = 0 ∧ key 9218868437227405311 = 9007199254740991 * 2 ^ 2045 ∧ cls 18442240474082181119 = 0 ∧ key 18442240474082181119 = -(9007199254740991 * 2 ^ 2045) ∧ nan 9218868437227405311 = false ∧ nan 18442240474082181119 = false := by
  refine ⟨by decide +kernel, by decide +kernel, by decide +kernel, by decide +kernel, by decide +kernel, by decide +kernel⟩
theorem F_small {z e : Int} (hz : z.natAbs < 2 ^ 40) (he : -900 ≤ e) (he2 : e ≤ 900) : z * 2 ^ (e + 1074).toNat < 9007199254740991 * 2 ^ 2045 ∧ -(9007199254740991 * 2 ^ 2045) < z * 2 ^ (e + 1074).toNat := by
  obtain ⟨q, hq⟩ : ∃ q : Nat, (e + 1074).toNat = q := ⟨_, rfl⟩
  have hq2 : q ≤ 2045 := by omega
  rw [hq]
  have hp := two_pow_pos' q
  have hp2 := two_pow_pos' (2045 - q)
  have e1 : (2 : Int) ^ 2045 = 2 ^ (2045 - q) * 2 ^ q := by rw [← Int.pow_add]; congr 1; omega
  rw [e1, ← Int.mul_assoc, ← Int.neg_mul]
  generalize (2 : Int) ^ (2045 - q) = s at *
  generalize (2 : Int) ^ q = r at *
  clear e1
  have hs : 9007199254740991 ≤ 9007199254740991 * s := by omega
  exact ⟨Int.mul_lt_mul_of_pos_right (by omega) hp, Int.mul_lt_mul_of_pos_right (by omega) hp⟩
theorem F_below {z e : Int} (hz : z.natAbs < 2 ^ 40) (he : -900 ≤ e) (he2 : e ≤ 900) : double.order (F z e) 9218868437227405311 = some .lt ∧ double.order 18442240474082181119 (F z e) = some .lt := by
  obtain ⟨k1, k2⟩ := F_key hz he he2
  have hn := F_nan hz he he2
  obtain ⟨b1, b2, b3, b4, b5, b6⟩ := big_key
  obtain ⟨s1, s2⟩ := F_small hz he he2
  have l1 : lt (F z e) 9218868437227405311 = true := by
    unfold lt lessK; rw [k1, k2, b1, b2]; exact decide_eq_true (.inr ⟨rfl, s1⟩)
  have l2 : lt 18442240474082181119 (F z e) = true := by
    unfold lt lessK; rw [k1, k2, b3, b4]; exact decide_eq_true (.inr ⟨rfl, s2⟩)
  constructor
  · rw [order_is, hn, b5, l1]; rfl
  · rw [order_is, hn, b6, l2]; rfl
end Go.Proofs.Ytpkokolhmcophaa.fl
