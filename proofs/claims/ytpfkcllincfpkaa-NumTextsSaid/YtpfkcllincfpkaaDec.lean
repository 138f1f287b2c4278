/- Decimal digits as bytes: plain lemmas, no program in sight. -/
import Derived.Test.YtpfkcllincfpkaaNumMath
namespace Go.Proofs.Ytpfkcllincfpkaa.tx
open Go.RowKit Go.Proofs.Ytpfkcllincfpkaa.nm

/-- the byte of a digit -/
def dig (n : Nat) : UInt8 := UInt8.ofNat (48 + n % 10)
theorem dig_nat (n : Nat) : (dig n).toNat = 48 + n % 10 := by
  unfold dig; rw [UInt8.toNat_ofNat_of_lt' (by show 48 + n % 10 < 256; omega)]

/-- a number's decimal digits, the highest first, ahead of r -/
def decTo (n : Nat) (r : List UInt8) : List UInt8 := if h : n < 10 then dig n :: r else decTo (n / 10) (dig n :: r)
termination_by n
decreasing_by omega
def dec (n : Nat) : List UInt8 := decTo n []
theorem decTo_lt {n : Nat} (h : n < 10) (r : List UInt8) : decTo n r = dig n :: r := by rw [decTo, dif_pos h]
theorem decTo_ge {n : Nat} (h : ¬ n < 10) (r : List UInt8) : decTo n r = decTo (n / 10) (dig n :: r) := by rw [decTo, dif_neg h]
theorem decTo_append (n : Nat) (r : List UInt8) : decTo n r = dec n ++ r := by
  unfold dec
  induction n using Nat.strongRecOn generalizing r with
  | ind n ih =>
    by_cases h : n < 10
    · rw [decTo_lt h, decTo_lt h]; rfl
    · rw [decTo_ge h, decTo_ge h, ih _ (by omega), ih _ (by omega) [dig n]]; simp

/-- what a list of digits comes to, from a number on -/
def valF (l : List UInt8) (n : Nat) : Nat := l.foldl (fun n c => 10 * n + (c.toNat - 48)) n
theorem valF_nil (n : Nat) : valF [] n = n := by unfold valF; rw [List.foldl_nil]
theorem valF_cons (c : UInt8) (l : List UInt8) (n : Nat) : valF (c :: l) n = valF l (10 * n + (c.toNat - 48)) := by unfold valF; rw [List.foldl_cons]
theorem valF_append (a b : List UInt8) (n : Nat) : valF (a ++ b) n = valF b (valF a n) := by unfold valF; rw [List.foldl_append]
theorem valF_mono (l : List UInt8) : ∀ n, n ≤ valF l n := by
  induction l with
  | nil => intro n; exact Nat.le_refl _
  | cons c l ih => intro n; rw [valF_cons]; have := ih (10 * n + (c.toNat - 48)); omega
/-- digits alone -/
def Digs (l : List UInt8) : Prop := ∀ c ∈ l, 48 ≤ c.toNat ∧ c.toNat ≤ 57
theorem digs_decTo (n : Nat) (r : List UInt8) (h : Digs r) : Digs (decTo n r) := by
  induction n using Nat.strongRecOn generalizing r with
  | ind n ih =>
    have hd : Digs (dig n :: r) := fun c hc => by
      rcases List.mem_cons.1 hc with rfl | hc
      · rw [dig_nat]; omega
      · exact h c hc
    by_cases h1 : n < 10
    · rw [decTo_lt h1]; exact hd
    · rw [decTo_ge h1]; exact ih _ (by omega) _ hd
theorem digs_dec (n : Nat) : Digs (dec n) := digs_decTo n [] (fun _ h => nomatch h)
theorem val_decTo (n : Nat) (r : List UInt8) : valF (decTo n r) 0 = valF r n := by
  induction n using Nat.strongRecOn generalizing r with
  | ind n ih =>
    by_cases h1 : n < 10
    · rw [decTo_lt h1, valF_cons, dig_nat, show 10 * 0 + (48 + n % 10 - 48) = n from by omega]
    · rw [decTo_ge h1, ih _ (by omega), valF_cons, dig_nat, show 10 * (n / 10) + (48 + n % 10 - 48) = n from by omega]
theorem val_dec (n : Nat) : valF (dec n) 0 = n := val_decTo n []
theorem dec_ne (n : Nat) : dec n ≠ [] := by
  unfold dec
  have : ∀ n r, (decTo n r).length ≥ 1 + r.length := by
    intro n
    induction n using Nat.strongRecOn with
    | ind n ih =>
      intro r
      by_cases h1 : n < 10
      · rw [decTo_lt h1]; simp; omega
      · rw [decTo_ge h1]; have := ih _ (show n / 10 < n by omega) (dig n :: r); simp at this; omega
  intro h; have := this n []; rw [h] at this; simp at this
theorem dec_len_lt {n k : Nat} (h : n < 10 ^ k) (hk : 0 < k) : (dec n).length ≤ k := by
  have : ∀ k n r, 0 < k → n < 10 ^ k → (decTo n r).length ≤ k + r.length := by
    intro k
    induction k with
    | zero => intro n r h; omega
    | succ k ih =>
      intro n r _ h
      by_cases h1 : n < 10
      · rw [decTo_lt h1]; simp; omega
      · rw [decTo_ge h1]
        have hk : 0 < k := by
          rcases Nat.eq_zero_or_pos k with rfl | hk
          · simp at h; omega
          · exact hk
        have := ih (n / 10) (dig n :: r) hk (by rw [Nat.pow_succ] at h; omega)
        simp at this; omega
  have := this k n [] hk h; simpa [dec] using this

/-- the text of an integer -/
def text (a : Int) : List UInt8 := if a < 0 then 45 :: dec a.natAbs else dec a.natAbs
theorem text_neg {a : Int} (h : a < 0) : text a = 45 :: dec a.natAbs := if_pos h
theorem text_pos {a : Int} (h : ¬ a < 0) : text a = dec a.natAbs := if_neg h
theorem dec_head {n : Nat} {c : UInt8} {l : List UInt8} (h : dec n = c :: l) : c ≠ 45 := by
  have := digs_dec n c (by rw [h]; exact List.mem_cons_self ..)
  intro e; subst e; simp at this
theorem text_inj {a b : Int} (h : text a = text b) : a = b := by
  by_cases ha : a < 0 <;> by_cases hb : b < 0
  · rw [text_neg ha, text_neg hb] at h
    have h2 := (List.cons.inj h).2
    have := val_dec a.natAbs; rw [h2, val_dec] at this; omega
  · rw [text_neg ha, text_pos hb] at h
    exact absurd rfl (dec_head h.symm)
  · rw [text_pos ha, text_neg hb] at h
    exact absurd rfl (dec_head h)
  · rw [text_pos ha, text_pos hb] at h
    have := val_dec a.natAbs; rw [h, val_dec] at this; omega
theorem text_len {a : Int} (h : Fit a) : (text a).length ≤ 20 ∧ 1 ≤ (text a).length := by
  have h1 : (dec a.natAbs).length ≤ 19 := dec_len_lt (by unfold Fit at h; omega) (by omega)
  have h2 : 1 ≤ (dec a.natAbs).length := by
    have := dec_ne a.natAbs
    rcases hd : dec a.natAbs with _ | ⟨c, l⟩
    · exact absurd hd this
    · simp
  by_cases c : a < 0
  · rw [text_neg c]; simp; omega
  · rw [text_pos c]; omega

open Classical in
/-- the number whose text this is, or 0; the error -/
noncomputable def parseV (s : List UInt8) : Int := if h : ∃ a, Fit a ∧ text a = s then Classical.choose h else 0
open Classical in
noncomputable def parseE (s : List UInt8) : Int := if ∃ a, Fit a ∧ text a = s then 0 else 12
theorem parse_yes {s : List UInt8} {a : Int} (h : Fit a) (ht : text a = s) : parseV s = a ∧ parseE s = 0 := by
  have he : ∃ a, Fit a ∧ text a = s := ⟨a, h, ht⟩
  unfold parseV parseE
  rw [dif_pos he, if_pos he]
  exact ⟨text_inj ((Classical.choose_spec he).2.trans ht.symm), rfl⟩
theorem parse_no {s : List UInt8} (h : ∀ a, Fit a → text a ≠ s) : parseV s = 0 ∧ parseE s = 12 := by
  have he : ¬ ∃ a, Fit a ∧ text a = s := fun ⟨a, h1, h2⟩ => h a h1 h2
  unfold parseV parseE
  rw [dif_neg he, if_neg he]
  exact ⟨rfl, rfl⟩

end Go.Proofs.Ytpfkcllincfpkaa.tx
