/- Two pieces of a list exchanged, two neighbouring ones turned about: the contracts of the library's swapRange and rotate. -/
import Derived.Test.YtpkokolhmcophaaArr
namespace Go.Proofs.Ytpkokolhmcophaa.sl
open Go.RowKit

theorem swapL_getD (l : List Nat) {p q : Nat} (hp : p < l.length) (hq : q < l.length) (j : Nat) : (swapL l p q).getD j 0 = if j = q then l.getD p 0 else if j = p then l.getD q 0 else l.getD j 0 := by
  unfold swapL
  simp only [List.getD_eq_getElem?_getD, List.getElem?_set, List.length_set]
  by_cases h1 : j = q
  · subst h1; simp [hq]
  · rw [if_neg (fun h => h1 h.symm), if_neg h1]
    by_cases h2 : j = p
    · subst h2; simp [hp]
    · rw [if_neg (fun h => h2 h.symm), if_neg h2]

/-- what a sort's part comes to: block g holds a list of which Q is said, and below g nothing has turned -/
def Into (B : Nat) (w : World) (g cap : Nat) (Q : List Nat → Prop) (e : Ending) (w' : World) : Prop := ∃ l', e = .returned (.tuple #[]) ∧ SlB B w' g cap l' ∧ Below g w w' ∧ Q l'

/-- k places from a on exchanged with those from b on: where a place's number comes from -/
def swpI (a b k j : Nat) : Nat := if a ≤ j ∧ j < a + k then j - a + b else if b ≤ j ∧ j < b + k then j - b + a else j
def swp (l : List Nat) (a b k j : Nat) : Nat := l.getD (swpI a b k j) 0
theorem swp_zero (l : List Nat) (a b j : Nat) : swp l a b 0 j = l.getD j 0 := by
  unfold swp swpI; rw [if_neg (by omega), if_neg (by omega)]
theorem swp_succ {l c : List Nat} {a b k : Nat} (hab : a + k < b) (hlen : c.length = l.length) (hb : b + k < l.length) (hc : ∀ j, c.getD j 0 = swp l a b k j) (j : Nat) :
    (swapL c (a + k) (b + k)).getD j 0 = swp l a b (k + 1) j := by
  rw [swapL_getD c (by omega) (by omega), hc, hc, hc]
  unfold swp
  rw [← apply_ite (fun x => l.getD x 0), ← apply_ite (fun x => l.getD x 0)]
  congr 1
  unfold swpI
  repeat' split
  all_goals omega

theorem swapRange_c (B : Nat) (w : World) (g cap a b n N : Nat) (f : Value) (l : List Nat) (hN : l.length = N) (hs : N ≤ 1000000) (hab : a + n ≤ b) (hbn : b + n ≤ N) (h : SlB B w g cap l) :
    Calls Try.prog 31 #[.slice (some ⟨g, 0, none⟩) N cap, .int .i64 (a : Nat), .int .i64 (b : Nat), .int .i64 (n : Nat), f] w
      (Into B w g cap fun l' => l'.length = N ∧ ∀ j, l'.getD j 0 = swp l a b n j) := by
  obtain ⟨b1, b2, _⟩ := h.small
  unfold maxLen at b2
  have Hn := Lib.hid hN
  clear hN
  rw [Hn.out] at b1
  go_enter Try.func31, Try.ntmps31
  go_wp2
  go_loopw [10] (fun i wr => ∃ (k : Nat) (c : List Nat), i = .int .i64 k ∧ k ≤ n ∧ SlB B wr g cap c ∧ Hid (c.length = N) ∧ Hid (∀ j, c.getD j 0 = swp l a b k j) ∧ Below g w wr) (fun i _ => n - (intOf i).toNat)
  case atStart => exact ⟨0, l, rfl, Nat.zero_le _, h, Hn, Lib.hid (fun j => (swp_zero l a b j).symm), Below.refl _ _⟩
  case round =>
    obtain ⟨k, c, rfl, hk, hsl, hl, hc, hb⟩ := hrel
    by_cases hlt : k < n
    · have c1 := hsl.at (a + k) (by have := hl.out; omega)
      have c2 := hsl.at (b + k) (by have := hl.out; omega)
      have f1 := hsl.free (a + k)
      have f2 := hsl.free (b + k)
      have hsl1 := Lib.hid (hsl.swap1 (p := a + k) (q := b + k))
      have hst := Lib.hid (swp_succ (by omega) (by rw [hl.out, Hn.out]) (by have := Hn.out; omega) hc.out)
      have hl' := Lib.hid (show (swapL c (a + k) (b + k)).length = N by rw [swapL_len, hl.out])
      generalize swapL c (a + k) (b + k) = c' at *
      generalize c.getD (a + k) 0 = x at *
      generalize c.getD (b + k) 0 = y at *
      clear hc hl hsl h
      go_wp2
      go_region
      go_wp2_with fail
      exact ⟨⟨k + 1, c', by go_num, by omega, hsl1.out.drew, hl', hst, ((hb.setCell (Nat.le_refl _) _).setCell (Nat.le_refl _) _).drew⟩, by simp [intOf]; omega⟩
    · obtain rfl : k = n := by omega
      go_wp2
      go_end0
      exact ⟨c, rfl, hsl, hb, hl.out, hc.out⟩

/-- what stands in [a, m) and in [m, b), the other way round: where a place's number comes from -/
def rotI (a m b p : Nat) : Nat := if a ≤ p ∧ p < a + (b - m) then p - a + m else if a + (b - m) ≤ p ∧ p < b then p - (b - m) else p

/-- the one piece is the longer one -/
theorem rot_left {m i j : Nat} (hi : i ≤ m) (hij : j < i) (p : Nat) : swpI (m - i) m j (rotI (m - (i - j)) m (m + j) p) = rotI (m - i) m (m + j) p := by
  unfold rotI swpI
  repeat' split
  all_goals omega
theorem rot_right {m i j : Nat} (hi : i ≤ m) (hij : i < j) (p : Nat) : swpI (m - i) (m + j - i) i (rotI (m - i) m (m + (j - i)) p) = rotI (m - i) m (m + j) p := by
  unfold rotI swpI
  repeat' split
  all_goals omega
theorem rot_last {m i : Nat} (hi : i ≤ m) (p : Nat) : swpI (m - i) m i p = rotI (m - i) m (m + i) p := by
  unfold rotI swpI
  repeat' split
  all_goals omega

theorem rotate_c (B : Nat) (w : World) (g cap a m b N : Nat) (f : Value) (l : List Nat) (hN : l.length = N) (hs : N ≤ 1000000) (ham : a < m) (hmb : m < b) (hbn : b ≤ N) (h : SlB B w g cap l) :
    Calls Try.prog 30 #[.slice (some ⟨g, 0, none⟩) N cap, .int .i64 (a : Nat), .int .i64 (m : Nat), .int .i64 (b : Nat), f] w
      (Into B w g cap fun l' => l'.length = N ∧ ∀ p, l'.getD p 0 = l.getD (rotI a m b p) 0) := by
  have Hn := Lib.hid hN
  clear hN
  go_enter Try.func30, Try.ntmps30
  go_wp2
  go_loopw [10, 11] (fun u v wr => ∃ (i j : Nat) (c : List Nat), u = .int .i64 i ∧ v = .int .i64 j ∧ 0 < i ∧ 0 < j ∧ i ≤ m ∧ m + j ≤ N ∧ SlB B wr g cap c ∧ Hid (c.length = N) ∧ Hid (∀ p, c.getD (rotI (m - i) m (m + j) p) 0 = l.getD (rotI a m b p) 0) ∧ Below g w wr) (fun u v _ => (intOf u).toNat + (intOf v).toNat)
  case atStart => exact ⟨m - a, b - m, l, by go_num, by go_num, by omega, by omega, by omega, by omega, h, Hn, Lib.hid (by rw [show m - (m - a) = a from by omega, show m + (b - m) = b from by omega]; exact fun _ => rfl), Below.refl _ _⟩
  case round =>
    obtain ⟨i, j, c, rfl, rfl, hi, hj, him, hjN, hsl, hl, hc, hb⟩ := hrel
    rcases Nat.lt_trichotomy i j with hij | hij | hij
    · have k1 := swapRange_c B wr g cap (m - i) (m + j - i) i N f c hl.out hs (by omega) (by omega) hsl
      have t1 : ((i : Int) != (j : Int)) = true := by simp; omega
      rw [show ((m - i : Nat) : Int) = (m : Int) - i from by omega, show ((m + j - i : Nat) : Int) = (m : Int) + j - i from by omega] at k1
      go_wp2_with fail
      refine k1.mono ?_; rintro e w1 ⟨c', rfl, h1, h2, h3, h4⟩
      have H3 := Lib.hid h3
      have H4 := Lib.hid h4
      clear h3 h4
      go_wp2_with fail
      exact ⟨⟨i, j - i, c', rfl, by go_num, by omega, by omega, by omega, by omega, h1, H3, Lib.hid (fun p => by rw [H4.out, ← hc.out]; unfold swp; rw [rot_right him hij]), hb.trans h2⟩, by simp [intOf]; omega⟩
    · subst hij
      have k1 := swapRange_c B wr g cap (m - i) m i N f c hl.out hs (by omega) (by omega) hsl
      rw [show ((m - i : Nat) : Int) = (m : Int) - i from by omega] at k1
      go_wp2_with fail
      refine k1.mono ?_; rintro e w1 ⟨c', rfl, h1, h2, h3, h4⟩
      have H3 := Lib.hid h3
      have H4 := Lib.hid h4
      clear h3 h4
      go_wp2_with fail
      go_end0
      exact ⟨c', rfl, h1, hb.trans h2, H3.out, fun p => by rw [H4.out, ← hc.out]; unfold swp; rw [rot_last him]⟩
    · have k1 := swapRange_c B wr g cap (m - i) m j N f c hl.out hs (by omega) (by omega) hsl
      have t1 : ((i : Int) != (j : Int)) = true := by simp; omega
      rw [show ((m - i : Nat) : Int) = (m : Int) - i from by omega] at k1
      go_wp2_with fail
      refine k1.mono ?_; rintro e w1 ⟨c', rfl, h1, h2, h3, h4⟩
      have H3 := Lib.hid h3
      have H4 := Lib.hid h4
      clear h3 h4
      go_wp2_with fail
      exact ⟨⟨i - j, j, c', by go_num, rfl, by omega, by omega, by omega, by omega, h1, H3, Lib.hid (fun p => by rw [H4.out, ← hc.out]; unfold swp; rw [rot_left him hij]), hb.trans h2⟩, by simp [intOf]; omega⟩
end Go.Proofs.Ytpkokolhmcophaa.sl
