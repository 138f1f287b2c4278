/- The next token: what the machine of modes makes of the bytes where a token begins. -/
import Derived.Test.YtdcggedggngpoaaScanR
namespace Go.Proofs.Ytdcggedggngpoaa.lx
open Go.RowKit

theorem ans_start (M : Nat) (b : UInt8) (l : List UInt8) (ts : List Tok) (n : Nat) (h1 : cl b ≠ 1) (h2 : b ≠ 37) (h3 : b ≠ 47) :
    ans M (b :: l) ts n .btw = if cl b = 0 then .bad n 30 else if ts.length = M then .bad n 34 else match opening ts n b with | .go ts' m' => ans M l ts' (n + 1) m' | .bad p e => .bad p e := by
  rw [ans_cons, step, start, if_neg h1, if_neg h2, if_neg h3]
  by_cases h0 : cl b = 0
  · rw [if_pos h0, if_pos h0]
  · rw [if_neg h0, if_neg h0]
    by_cases hM : ts.length = M
    · rw [if_pos hM, if_pos hM]
    · rw [if_neg hM, if_neg hM]
      cases opening ts n b <;> rfl
theorem ans_slash (M : Nat) (l : List UInt8) (ts : List Tok) (n : Nat) (h : ∀ r, l ≠ 42 :: r) :
    ans M (47 :: l) ts n .btw = if ts.length = M then .bad n 34 else ans M l ts (n + 1) (.word 5 n [47]) := by
  rw [ans_cons, step, start, if_neg (by decide), if_neg (by decide), if_pos rfl]
  cases l with
  | nil =>
    simp only [ans_nil, fin]
    by_cases hM : ts.length = M
    · rw [if_pos hM, if_pos hM]
    · rw [if_neg hM, if_neg hM]; rfl
  | cons b r =>
    have hb : b ≠ 42 := fun e => h r (by rw [e])
    simp only [ans_cons, step]
    rw [if_neg hb]
    by_cases hM : ts.length = M
    · rw [if_pos hM, if_pos hM]
    · rw [if_neg hM, if_neg hM, (joinB_name (cl b)).2.2.2]
      by_cases h5 : cl b = 5
      · rw [if_pos h5, if_pos (by simpa using h5)]; rfl
      · rw [if_neg h5, if_neg (by simpa using h5)]; rfl
/-- a '.' that begins a token -/
theorem ans_dot (M : Nat) (l : List UInt8) (ts : List Tok) (n : Nat) :
    ans M l ts (n + 1) (.dot n) = if (match l with | [] => true | b :: _ => cl b == 1 || b == 37) = true then ans M l (ts ++ [⟨6, [46], n, n + 1⟩]) (n + 1) .btw else ans M l ts (n + 1) (.word 5 n [46]) := by
  cases l with
  | nil => rfl
  | cons b r =>
    simp only [ans_cons, step]
    rw [(joinB_name (cl b)).2.2.2]
    by_cases h5 : cl b = 5
    · have h37 : b ≠ 37 := fun e => by rw [e] at h5; exact absurd h5 (by decide)
      rw [if_pos h5, if_neg (by simp [h5, h37]), if_pos (by simpa using h5)]; rfl
    · rw [if_neg h5]
      by_cases h1 : cl b = 1 ∨ b = 37
      · rw [if_pos h1, if_pos (by simpa using h1)]
      · rw [if_neg h1, if_neg (by simpa using h1), if_neg (by simpa using h5)]; rfl
/-- a word, whole -/
theorem ans_word_all (M y : Nat) (s : ByteArray) (n : Nat) (ts : List Tok) (_hn : n < s.size) :
    ans M (s.data.toList.drop (n + 1)) ts (n + 1) (.word y n [bA s n]) =
      ans M (s.data.toList.drop (n + 1 + (wordL s n y).length)) (ts ++ [⟨kindOf y, bA s n :: wordL s n y, n, n + 1 + (wordL s n y).length⟩]) (n + 1 + (wordL s n y).length) .btw := by
  have hsp : s.data.toList.drop (n + 1) = wordL s n y ++ (s.data.toList.drop (n + 1)).dropWhile fun b => joinB y (cl b) := (List.takeWhile_append_dropWhile).symm
  have hd : s.data.toList.drop (n + 1 + (wordL s n y).length) = (s.data.toList.drop (n + 1)).dropWhile fun b => joinB y (cl b) := by
    rw [← List.drop_drop]
    conv => lhs; rw [hsp]
    rw [List.drop_left]
  rw [hd]
  conv => lhs; rw [hsp]
  rw [ans_word M y n (wordL s n y) _ _ _ _ (fun b hb => List.all_eq_true.1 (List.all_takeWhile (p := fun b => joinB y (cl b)) (l := s.data.toList.drop (n + 1))) b hb)]
  rw [ans_word_end]
  · rfl
  · intro b r hbr
    have := List.head?_dropWhile_not (fun b => joinB y (cl b)) (s.data.toList.drop (n + 1))
    rw [hbr] at this
    simpa using this

theorem wordL_none {s : ByteArray} {n y : Nat} (h : ∀ b r, s.data.toList.drop (n + 1) = b :: r → joinB y (cl b) = false) : wordL s n y = [] := by
  unfold wordL
  cases hd : s.data.toList.drop (n + 1) with
  | nil => rfl
  | cons b r => rw [List.takeWhile_cons, if_neg (by rw [h b r hd]; decide)]

theorem next_word (M : Nat) {s : ByteArray} {n : Nat} (ts : List Tok) (hn : n < s.size) (hst : Stop s n) (h0 : cl (bA s n) ≠ 0) (h6 : cl (bA s n) ≠ 6) (hM : ts.length ≠ M) :
    ans M (s.data.toList.drop n) ts n .btw = ans M (s.data.toList.drop (n + 1 + (wordL s n (cl (bA s n))).length))
      (ts ++ [⟨kindS s n ts (cl (bA s n)), bA s n :: wordL s n (cl (bA s n)), n, n + 1 + (wordL s n (cl (bA s n))).length⟩]) (n + 1 + (wordL s n (cl (bA s n))).length) .btw := by
  obtain ⟨h1, h2, h3⟩ := hst hn
  have hb := bA_le s n
  by_cases h47 : bA s n = 47
  · rw [drop_bA hn, h47, ans_slash, if_neg hM]
    · have e5 : cl (47 : UInt8) = 5 := by decide
      have hk : kindS s n ts 5 = kindOf 5 := by
        unfold kindS endsB; rw [h47]; rfl
      rw [e5, hk]
      have := ans_word_all M 5 s n ts hn
      rw [h47] at this; exact this
    · intro r hr
      rw [drop_bA hn, h47, hr] at h3
      exact absurd h3 (by simp [Lib.hasPrefix])
  rw [drop_bA hn, ans_start M _ _ ts n h1 h2 h47, if_neg h0, if_neg hM]
  unfold opening
  rw [if_neg h6]
  by_cases h7 : cl (bA s n) = 7
  · rw [if_pos h7]
    have hw : wordL s n (cl (bA s n)) = [] := wordL_none fun b r _ => by rw [h7]; rfl
    rw [hw, h7]; rfl
  rw [if_neg h7]
  by_cases h8 : cl (bA s n) = 8
  · rw [if_pos h8]
    have hw : wordL s n (cl (bA s n)) = [] := wordL_none fun b r _ => by rw [h8]; rfl
    rw [hw, h8]
    have hk : kindS s n ts 8 = if bA s n = 40 ∧ opens ts n = true then 4 else 5 := by
      unfold kindS
      rw [if_neg (by decide), if_neg (by decide), if_pos rfl]
      by_cases hp : bA s n = 40 ∧ opens ts n = true
      · rw [if_pos (by simp [hp]), if_pos hp]
      · rw [if_neg (by simpa using hp), if_neg hp]
    rw [hk]; rfl
  rw [if_neg h8]
  by_cases h46 : bA s n = 46
  · rw [if_pos h46]
    simp only
    have e5 : cl (bA s n) = 5 := by rw [h46]; decide
    rw [ans_dot, e5]
    have he : (match s.data.toList.drop (n + 1) with | [] => true | b :: _ => cl b == 1 || b == 37) = endsB s n := by
      unfold endsB
      rw [h46]
      by_cases hlt : n + 1 < s.size
      · rw [drop_bA hlt]
        simp only
        rw [show (n + 1 == s.size) = false from by simp; omega, Bool.false_or, Bool.or_comm]; rfl
      · rw [drop_end (k := n + 1) (by omega), show (n + 1 == s.size) = true from by simp; omega]; rfl
    rw [he]
    by_cases hE : endsB s n = true
    · rw [if_pos hE]
      have hw : wordL s n 5 = [] := wordL_none fun b r hbr => by
        rw [hbr] at he
        simp only at he
        rw [hE] at he
        rw [(joinB_name (cl b)).2.2.2]
        rcases Bool.or_eq_true_iff.1 he with h | h
        · rw [beq_iff_eq] at h; rw [h]; rfl
        · rw [beq_iff_eq] at h; rw [h]; decide
      have hk : kindS s n ts 5 = 6 := by unfold kindS; rw [if_neg (by decide), if_neg (by decide), if_neg (by decide), if_pos rfl, if_pos hE]
      rw [hw, hk, h46]; rfl
    · rw [if_neg hE]
      have hk : kindS s n ts 5 = kindOf 5 := by unfold kindS; rw [if_neg (by decide), if_neg (by decide), if_neg (by decide), if_pos rfl, if_neg hE]; rfl
      rw [hk]
      have := ans_word_all M 5 s n ts hn
      rw [h46] at this ⊢; exact this
  rw [if_neg h46]
  have hk : kindS s n ts (cl (bA s n)) = kindOf (cl (bA s n)) := by
    unfold kindS kindOf
    by_cases a3 : cl (bA s n) = 3
    · rw [if_pos a3, if_pos a3]
    rw [if_neg a3, if_neg a3]
    by_cases a4 : cl (bA s n) = 4
    · rw [if_pos a4, if_pos a4]
    rw [if_neg a4, if_neg a4, if_neg h8]
    by_cases a5 : cl (bA s n) = 5
    · rw [if_pos a5, if_neg]
      unfold endsB
      simp [h46]
    · rw [if_neg a5]
  rw [hk]
  exact ans_word_all M _ s n ts hn
theorem next_quote (M : Nat) {s : ByteArray} {n : Nat} (ts : List Tok) (hn : n < s.size) (h6 : cl (bA s n) = 6) (hM : ts.length ≠ M) :
    ans M (s.data.toList.drop n) ts n .btw = ans M (s.data.toList.drop (n + 1)) ts (n + 1) (.quo n []) := by
  have h37 : bA s n ≠ 37 := fun e => by rw [e] at h6; exact absurd h6 (by decide)
  have h47 : bA s n ≠ 47 := fun e => by rw [e] at h6; exact absurd h6 (by decide)
  rw [drop_bA hn, ans_start M _ _ ts n (by omega) h37 h47, if_neg (by omega), if_neg hM]
  unfold opening
  rw [if_pos h6]
theorem next_alien (M : Nat) {s : ByteArray} {n : Nat} (ts : List Tok) (hn : n < s.size) (hst : Stop s n) (h0 : cl (bA s n) = 0) : ans M (s.data.toList.drop n) ts n .btw = .bad n 30 := by
  obtain ⟨h1, h2, h3⟩ := hst hn
  have h47 : bA s n ≠ 47 := fun e => by rw [e] at h0; exact absurd h0 (by decide)
  rw [drop_bA hn, ans_start M _ _ ts n h1 h2 h47, if_pos h0]
theorem next_many (M : Nat) {s : ByteArray} {n : Nat} (ts : List Tok) (hn : n < s.size) (hst : Stop s n) (h0 : cl (bA s n) ≠ 0) (hM : ts.length = M) : ans M (s.data.toList.drop n) ts n .btw = .bad n 34 := by
  obtain ⟨h1, h2, h3⟩ := hst hn
  by_cases h47 : bA s n = 47
  · rw [drop_bA hn, h47, ans_slash, if_pos hM]
    intro r hr
    rw [drop_bA hn, h47, hr] at h3
    exact absurd h3 (by simp [Lib.hasPrefix])
  · rw [drop_bA hn, ans_start M _ _ ts n h1 h2 h47, if_neg h0, if_pos hM]
end Go.Proofs.Ytdcggedggngpoaa.lx
