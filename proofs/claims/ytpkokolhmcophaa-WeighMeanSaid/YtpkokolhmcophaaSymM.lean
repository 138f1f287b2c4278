/- Merging in place: plain lemmas, no program in sight. -/
import Derived.Test.YtpkokolhmcophaaSortM
namespace Go.Proofs.Ytpkokolhmcophaa.sl
open Go.RowKit
variable {D : Nat → Nat → Bool} {K : Nat → Nat}

/-! ### one ahead of many -/
/-- the one from a has gone on to k -/
def shR (a k p : Nat) : Nat := if a ≤ p ∧ p < k then p + 1 else if p = k then a else p
theorem shR_start (a p : Nat) : shR a a p = p := by unfold shR; repeat' split
                                                    all_goals omega
theorem shR_step {a k b : Nat} {l c : List Nat} (hak : a ≤ k) (hkb : k + 1 < b) (hb : b ≤ c.length) (h : ∀ p, c.getD p 0 = l.getD (shR a k p) 0) (p : Nat) : (swapL c k (k + 1)).getD p 0 = l.getD (shR a (k + 1) p) 0 := by
  rw [swapL_getD c (by omega) (by omega), h, h, h, ← apply_ite (fun x => l.getD x 0), ← apply_ite (fun x => l.getD x 0)]
  congr 1
  unfold shR
  repeat' split
  all_goals omega
theorem one_low {a b i h : Nat} {l : List Nat} (hs : Srt K l (a + 1) b) (hh : i ≤ h ∧ h < b) (_hai : a + 1 ≤ i) (hlt : K (l.getD h 0) < K (l.getD a 0)) : ∀ t, a + 1 ≤ t → t < h + 1 → K (l.getD t 0) < K (l.getD a 0) := by
  intro t h1 h2
  by_cases c : t = h
  · rw [c]; exact hlt
  · have := hs t h h1 (by omega) hh.2; omega
theorem one_high {a b h : Nat} {l : List Nat} (hs : Srt K l (a + 1) b) (hh : a + 1 ≤ h) (hlt : ¬ K (l.getD h 0) < K (l.getD a 0)) : ∀ t, h ≤ t → t < b → K (l.getD a 0) ≤ K (l.getD t 0) := by
  intro t h1 h2
  by_cases c : t = h
  · rw [c]; omega
  · have := hs h t hh (by omega) h2; omega
theorem one_end {a b i : Nat} {l c : List Nat} (hs : Srt K l (a + 1) b) (hi : a + 1 ≤ i ∧ i ≤ b) (hlo : ∀ t, a + 1 ≤ t → t < i → K (l.getD t 0) < K (l.getD a 0)) (hhi : ∀ t, i ≤ t → t < b → K (l.getD a 0) ≤ K (l.getD t 0))
    (h : ∀ p, c.getD p 0 = l.getD (shR a (i - 1) p) 0) : Srt K c a b := by
  intro p q h1 h2 h3
  rw [h, h]
  unfold shR
  by_cases p1 : a ≤ p ∧ p < i - 1
  · rw [if_pos p1]
    by_cases q1 : a ≤ q ∧ q < i - 1
    · rw [if_pos q1]; exact hs _ _ (by omega) (by omega) (by omega)
    · rw [if_neg q1]
      by_cases q2 : q = i - 1
      · rw [if_pos q2]; exact Nat.le_of_lt (hlo _ (by omega) (by omega))
      · rw [if_neg q2]; exact hs _ _ (by omega) (by omega) (by omega)
  · rw [if_neg p1, if_neg (show ¬ (a ≤ q ∧ q < i - 1) by omega)]
    by_cases p2 : p = i - 1
    · rw [if_pos p2, if_neg (by omega)]; exact hhi _ (by omega) (by omega)
    · rw [if_neg p2, if_neg (by omega)]; exact hs _ _ (by omega) (by omega) (by omega)

/-! ### one behind many -/
/-- the one from m has gone back to k -/
def shL (m k p : Nat) : Nat := if p = k then m else if k < p ∧ p ≤ m then p - 1 else p
theorem shL_start (m p : Nat) : shL m m p = p := by unfold shL; repeat' split
                                                    all_goals omega
theorem shL_step {m k : Nat} {l c : List Nat} (hkm : k + 1 ≤ m) (hb : m < c.length) (h : ∀ p, c.getD p 0 = l.getD (shL m (k + 1) p) 0) (p : Nat) : (swapL c (k + 1) k).getD p 0 = l.getD (shL m k p) 0 := by
  rw [swapL_getD c (by omega) (by omega), h, h, h, ← apply_ite (fun x => l.getD x 0), ← apply_ite (fun x => l.getD x 0)]
  congr 1
  unfold shL
  repeat' split
  all_goals omega
theorem last_low {a m h : Nat} {l : List Nat} (hs : Srt K l a m) (hh : h < m) (hle : ¬ K (l.getD m 0) < K (l.getD h 0)) : ∀ t, a ≤ t → t < h + 1 → K (l.getD t 0) ≤ K (l.getD m 0) := by
  intro t h1 h2
  by_cases c : t = h
  · rw [c]; omega
  · have := hs t h h1 (by omega) hh; omega
theorem last_high {a m h : Nat} {l : List Nat} (hs : Srt K l a m) (hh : a ≤ h) (hlt : K (l.getD m 0) < K (l.getD h 0)) : ∀ t, h ≤ t → t < m → K (l.getD m 0) < K (l.getD t 0) := by
  intro t h1 h2
  by_cases c : t = h
  · rw [c]; exact hlt
  · have := hs h t hh (by omega) h2; omega
theorem last_end {a m i : Nat} {l c : List Nat} (hs : Srt K l a m) (hi : a ≤ i ∧ i ≤ m) (hlo : ∀ t, a ≤ t → t < i → K (l.getD t 0) ≤ K (l.getD m 0)) (hhi : ∀ t, i ≤ t → t < m → K (l.getD m 0) < K (l.getD t 0))
    (h : ∀ p, c.getD p 0 = l.getD (shL m i p) 0) : Srt K c a (m + 1) := by
  intro p q h1 h2 h3
  rw [h, h]
  unfold shL
  by_cases p1 : p = i
  · rw [if_pos p1, if_neg (show ¬ q = i by omega), if_pos (by omega)]; exact Nat.le_of_lt (hhi _ (by omega) (by omega))
  · rw [if_neg p1]
    by_cases p2 : i < p ∧ p ≤ m
    · rw [if_pos p2, if_neg (by omega), if_pos (by omega)]; exact hs _ _ (by omega) (by omega) (by omega)
    · rw [if_neg p2]
      by_cases q1 : q = i
      · rw [if_pos q1]; exact hlo _ (by omega) (by omega)
      · rw [if_neg q1]
        by_cases q2 : i < q ∧ q ≤ m
        · rw [if_pos q2]
          by_cases e : p = q - 1
          · rw [e]; exact Nat.le_refl _
          · exact hs _ _ (by omega) (by omega) (by omega)
        · rw [if_neg q2]; exact hs _ _ (by omega) (by omega) (by omega)

/-! ### many and many -/
/-- up to s each is no greater than its mirror place's, from r on each is greater -/
def Lo (K : Nat → Nat) (l : List Nat) (n lo s : Nat) : Prop := ∀ c, lo ≤ c → c < s → K (l.getD c 0) ≤ K (l.getD (n - 1 - c) 0)
def Hi (K : Nat → Nat) (l : List Nat) (n hi r : Nat) : Prop := ∀ c, r ≤ c → c < hi → K (l.getD (n - 1 - c) 0) < K (l.getD c 0)
/-- where the search may go -/
structure Rng (a m b mid lo hi : Nat) : Prop where
  h : (m > mid ∧ lo = mid + m - b ∧ hi = mid) ∨ (m ≤ mid ∧ lo = a ∧ hi = m)
  am : a < m
  mb : m < b
  md : mid = (a + b) / 2
theorem lo_step {a m b mid lo hi s c : Nat} {l : List Nat} (hr : Rng a m b mid lo hi) (h1 : Srt K l a m) (h2 : Srt K l m b) (hc : s ≤ c ∧ c < hi) (_hs : lo ≤ s) (hle : ¬ K (l.getD (mid + m - 1 - c) 0) < K (l.getD c 0)) : Lo K l (mid + m) lo (c + 1) := by
  obtain ⟨h, am, mb, md⟩ := hr
  intro t t1 t2
  by_cases e : t = c
  · rw [e]; omega
  · have x1 := h1 t c (by omega) (by omega) (by omega)
    have x2 := h2 (mid + m - 1 - c) (mid + m - 1 - t) (by omega) (by omega) (by omega)
    omega
theorem hi_step {a m b mid lo hi c : Nat} {l : List Nat} (hr : Rng a m b mid lo hi) (h1 : Srt K l a m) (h2 : Srt K l m b) (hc : lo ≤ c ∧ c < hi) (hlt : K (l.getD (mid + m - 1 - c) 0) < K (l.getD c 0)) : Hi K l (mid + m) hi c := by
  obtain ⟨h, am, mb, md⟩ := hr
  intro t t1 t2
  by_cases e : t = c
  · rw [e]; exact hlt
  · have x1 := h1 c t (by omega) (by omega) (by omega)
    have x2 := h2 (mid + m - 1 - t) (mid + m - 1 - c) (by omega) (by omega) (by omega)
    omega

/-- behind the turning about: four rising pieces, the first two below the last two -/
structure Four (D : Nat → Nat → Bool) (K : Nat → Nat) (l : List Nat) (a s mid e b : Nat) : Prop where
  s1 : Srt K l a s
  s2 : Srt K l s mid
  s3 : Srt K l mid e
  s4 : Srt K l e b
  c1 : Crs D K l a s mid
  c2 : Crs D K l mid e b
  low : ∀ p q, a ≤ p → p < mid → mid ≤ q → q < b → K (l.getD p 0) ≤ K (l.getD q 0)

theorem four_of {a m b mid lo hi s : Nat} {l c : List Nat} (hr : Rng a m b mid lo hi) (h1 : Srt K l a m) (h2 : Srt K l m b) (hx : Crs D K l a m b) (hs : lo ≤ s ∧ s ≤ hi) (hlo : Lo K l (mid + m) lo s) (hhi : Hi K l (mid + m) hi s)
    (h : ∀ p, c.getD p 0 = l.getD (rotI s m (mid + m - s) p) 0) : Four D K c a s mid (mid + m - s) b := by
  obtain ⟨hr, am, mb, md⟩ := hr
  have R1 : ∀ p, p < s → rotI s m (mid + m - s) p = p := fun p hp => by unfold rotI; rw [if_neg (by omega), if_neg (by omega)]
  have R2 : ∀ p, s ≤ p → p < mid → rotI s m (mid + m - s) p = p - s + m := fun p h1 h2 => by unfold rotI; rw [if_pos (by omega)]
  have R3 : ∀ p, mid ≤ p → p < mid + m - s → rotI s m (mid + m - s) p = p - (mid - s) := fun p h1 h2 => by unfold rotI; rw [if_neg (by omega), if_pos (by omega)]; omega
  have R4 : ∀ p, mid + m - s ≤ p → rotI s m (mid + m - s) p = p := fun p h1 => by unfold rotI; rw [if_neg (by omega), if_neg (by omega)]
  refine ⟨fun p q a1 a2 a3 => ?_, fun p q a1 a2 a3 => ?_, fun p q a1 a2 a3 => ?_, fun p q a1 a2 a3 => ?_, fun p q a1 a2 a3 a4 => ?_, fun p q a1 a2 a3 a4 => ?_, fun p q a1 a2 a3 a4 => ?_⟩
  · rw [h, h, R1 p (by omega), R1 q (by omega)]; exact h1 _ _ (by omega) (by omega) (by omega)
  · rw [h, h, R2 p (by omega) (by omega), R2 q (by omega) (by omega)]; exact h2 _ _ (by omega) (by omega) (by omega)
  · rw [h, h, R3 p (by omega) (by omega), R3 q (by omega) (by omega)]; exact h1 _ _ (by omega) (by omega) (by omega)
  · rw [h, h, R4 p (by omega), R4 q (by omega)]; exact h2 _ _ (by omega) (by omega) (by omega)
  · rw [h, h, R1 p (by omega), R2 q (by omega) (by omega)]; exact hx _ _ (by omega) (by omega) (by omega) (by omega)
  · rw [h, h, R3 p (by omega) (by omega), R4 q (by omega)]; exact hx _ _ (by omega) (by omega) (by omega) (by omega)
  · -- the mirror places at the split
    have A : ∀ x, lo ≤ x → x < s → K (l.getD x 0) ≤ K (l.getD (mid + m - 1 - x) 0) := hlo
    have Bq : ∀ x, s ≤ x → x < hi → K (l.getD (mid + m - 1 - x) 0) < K (l.getD x 0) := hhi
    have le1 : ∀ x y, a ≤ x → x ≤ y → y < m → K (l.getD x 0) ≤ K (l.getD y 0) := fun x y g1 g2 g3 => by
      by_cases e : x = y
      · rw [e]; exact Nat.le_refl _
      · exact h1 x y g1 (by omega) g3
    have le2 : ∀ x y, m ≤ x → x ≤ y → y < b → K (l.getD x 0) ≤ K (l.getD y 0) := fun x y g1 g2 g3 => by
      by_cases e : x = y
      · rw [e]; exact Nat.le_refl _
      · exact h2 x y g1 (by omega) g3
    rw [h, h]
    by_cases p1 : p < s
    · rw [R1 p p1]
      by_cases q1 : q < mid + m - s
      · rw [R3 q a3 q1]; exact le1 _ _ (by omega) (by omega) (by omega)
      · rw [R4 q (by omega)]
        have x1 := le1 p (s - 1) (by omega) (by omega) (by omega)
        have x2 := A (s - 1) (by omega) (by omega)
        have x3 := le2 (mid + m - 1 - (s - 1)) q (by omega) (by omega) (by omega)
        omega
    · rw [R2 p (by omega) a2]
      by_cases q1 : q < mid + m - s
      · rw [R3 q a3 q1]
        have x1 := le2 (p - s + m) (mid + m - 1 - s) (by omega) (by omega) (by omega)
        have x2 := Bq s (by omega) (by omega)
        have x3 := le1 s (q - (mid - s)) (by omega) (by omega) (by omega)
        omega
      · rw [R4 q (by omega)]; exact le2 _ _ (by omega) (by omega) (by omega)

theorem srt_of_two {l : List Nat} {a s b : Nat} (h1 : Srt K l a s) (h2 : Srt K l s b) (h : ¬ (a < s ∧ s < b)) (has : a ≤ s) (hsb : s ≤ b) : Srt K l a b := by
  intro p q g1 g2 g3
  by_cases c : q < s
  · exact h1 p q g1 g2 c
  · exact h2 p q (by omega) g2 g3
theorem srt_out {l l' : List Nat} {a b x y : Nat} (h : Moved a b l l') (ho : y ≤ a ∨ b ≤ x) (hs : Srt K l x y) : Srt K l' x y := by
  intro p q g1 g2 g3
  rw [h.out p (by omega), h.out q (by omega)]; exact hs p q g1 g2 g3
theorem crs_out {l l' : List Nat} {a b x y z : Nat} (h : Moved a b l l') (ho : b ≤ x) (hs : Crs D K l x y z) : Crs D K l' x y z := by
  intro p q g1 g2 g3 g4
  by_cases c : y ≤ p ∨ q < y
  · omega
  · rw [h.out p (by omega), h.out q (by omega)]; exact hs p q g1 g2 g3 g4
theorem four_end {a mid b : Nat} {l1 l2 l3 : List Nat} (hlow : ∀ p q, a ≤ p → p < mid → mid ≤ q → q < b → K (l1.getD p 0) ≤ K (l1.getD q 0)) (m1 : Moved a mid l1 l2) (m2 : Moved mid b l2 l3) (s1 : Srt K l2 a mid) (s2 : Srt K l3 mid b) : Srt K l3 a b := by
  intro p q g1 g2 g3
  by_cases c : mid ≤ p
  · exact s2 p q c g2 g3
  · rw [m2.out p (by omega)]
    by_cases c2 : q < mid
    · rw [m2.out q (by omega)]; exact s1 p q g1 g2 c2
    · obtain ⟨p', p1, p2, p3⟩ := m1.in p g1 (by omega)
      obtain ⟨q', q1, q2, q3⟩ := m2.in q (by omega) g3
      rw [p3, q3, m1.out q' (by omega)]
      exact hlow _ _ p1 p2 q1 q2
end Go.Proofs.Ytpkokolhmcophaa.sl
