/- Quoted atoms: the scanner's escaped, quoted. -/
import Derived.Test.YtdcggedggngpoaaBld
import Derived.Test.YtdcggedggngpoaaScanP
namespace Go.Proofs.Ytdcggedggngpoaa.lx
open Go.RowKit

/-- what a backslash and this byte stand for -/
def escOk (d : UInt8) : Bool := d == 110 || d == 116 || d == 92 || d == 39
def escV (d : UInt8) : UInt8 := if d = 110 then 10 else if d = 116 then 9 else d

def escE (d : UInt8) (n : Nat) : Ending := if escOk d = true then .returned (.int .u8 ((escV d).toNat : Nat)) else Wrong n 32
theorem escaped_end {B c n f : Nat} {s : ByteArray} {v : Value} {ts : List Tok} {w : World} (h : Sc B c s n v ts w) (hs : s.size ≤ 4096) (hn : n + 1 = s.size) :
    Calls Try.prog 45 #[.pointer (some ⟨c, 0, none⟩), .int .i64 (f : Nat)] w fun e w' => e = Wrong f 31 ∧ w = w' := by
  have c0 := h.c0
  have c1 := h.c1
  clear h
  have b1 : ((n : Int) + 1 == (s.size : Int)) = true := by simp; omega
  have hn2 : n ≤ 4096 := by omega
  clear hn
  go_enter Try.func45, Try.ntmps45
  go_wp2
  exact ⟨rfl, rfl, rfl⟩
set_option maxHeartbeats 1000000 in
theorem escaped_c {B c n f : Nat} {s : ByteArray} {v : Value} {ts : List Tok} {w : World} (h : Sc B c s n v ts w) (hs : s.size ≤ 4096) (hn : n + 1 < s.size) :
    Calls Try.prog 45 #[.pointer (some ⟨c, 0, none⟩), .int .i64 (f : Nat)] w fun e w' => e = escE (bA s (n + 1)) n ∧ w = w' := by
  have c0 := h.c0
  have c1 := h.c1
  clear h
  have hgt := get_bA s
  have b1 : ((n : Int) + 1 == (s.size : Int)) = false := by simp; omega
  have hx : ∀ k : Nat, k < 256 → (bA s (n + 1)).toNat = k → bA s (n + 1) = UInt8.ofNat k := fun k hk e => UInt8.toNat_inj.1 (by rw [e]; simp; omega)
  by_cases h1 : (bA s (n + 1)).toNat = 110
  · obtain ⟨a1, a2⟩ := ieq_yes (a := (bA s (n + 1)).toNat) 110 (by omega)
    have e := Lib.hid (hx _ (by omega) h1)
    clear hx h1
    go_enter Try.func45, Try.ntmps45
    go_wp2
    go_ret
    exact ⟨by rw [e.out]; rfl, rfl⟩
  obtain ⟨p1, p2⟩ := ieq_no (a := (bA s (n + 1)).toNat) 110 (by omega)
  by_cases h2 : (bA s (n + 1)).toNat = 116
  · obtain ⟨a1, a2⟩ := ieq_yes (a := (bA s (n + 1)).toNat) 116 (by omega)
    have e := Lib.hid (hx _ (by omega) h2)
    clear hx h1 h2
    go_enter Try.func45, Try.ntmps45
    go_wp2
    go_ret
    exact ⟨by rw [e.out]; rfl, rfl⟩
  obtain ⟨q1, q2⟩ := ieq_no (a := (bA s (n + 1)).toNat) 116 (by omega)
  by_cases h3 : (bA s (n + 1)).toNat = 92
  · obtain ⟨a1, a2⟩ := ieq_yes (a := (bA s (n + 1)).toNat) 92 (by omega)
    have e := Lib.hid (hx _ (by omega) h3)
    clear hx h1 h2 h3
    go_enter Try.func45, Try.ntmps45
    go_wp2
    go_ret
    exact ⟨by rw [e.out]; rfl, rfl⟩
  obtain ⟨r1, r2⟩ := ieq_no (a := (bA s (n + 1)).toNat) 92 (by omega)
  by_cases h4 : (bA s (n + 1)).toNat = 39
  · obtain ⟨a1, a2⟩ := ieq_yes (a := (bA s (n + 1)).toNat) 39 (by omega)
    have e := Lib.hid (hx _ (by omega) h4)
    clear hx h1 h2 h3 h4
    go_enter Try.func45, Try.ntmps45
    go_wp2
    go_ret
    exact ⟨by rw [e.out]; rfl, rfl⟩
  obtain ⟨s1, s2⟩ := ieq_no (a := (bA s (n + 1)).toNat) 39 (by omega)
  have hno : escOk (bA s (n + 1)) = false := by
    unfold escOk
    rw [show (110 : UInt8) = UInt8.ofNat 110 from rfl, show (116 : UInt8) = UInt8.ofNat 116 from rfl, show (92 : UInt8) = UInt8.ofNat 92 from rfl, show (39 : UInt8) = UInt8.ofNat 39 from rfl,
      u8_eq _ _ (by omega), u8_eq _ _ (by omega), u8_eq _ _ (by omega), u8_eq _ _ (by omega)]
    simp [h1, h2, h3, h4]
  have hE := Lib.hid (show escE (bA s (n + 1)) n = Wrong n 32 by unfold escE; rw [if_neg (by rw [hno]; decide)])
  clear hno hx h1 h2 h3 h4
  go_enter Try.func45, Try.ntmps45
  go_wp2
  exact ⟨rfl, by rw [hE.out]; rfl, rfl⟩

/-! ### the machine in quotes -/
theorem ans_q_plain (M f : Nat) (b : UInt8) (l acc : List UInt8) (ts : List Tok) (n : Nat) (h1 : b ≠ 39) (h2 : b ≠ 92) (h3 : ¬ (b.toNat < 32 ∨ 126 < b.toNat)) :
    ans M (b :: l) ts n (.quo f acc) = ans M l ts (n + 1) (.quo f (acc ++ [b])) := by
  rw [ans_cons, step, if_neg h1, if_neg h2, if_neg h3]
theorem ans_q_bad (M f : Nat) (b : UInt8) (l acc : List UInt8) (ts : List Tok) (n : Nat) (h1 : b ≠ 39) (h2 : b ≠ 92) (h3 : b.toNat < 32 ∨ 126 < b.toNat) :
    ans M (b :: l) ts n (.quo f acc) = .bad n 30 := by
  rw [ans_cons, step, if_neg h1, if_neg h2, if_pos h3]
theorem ans_q_two (M f : Nat) (l acc : List UInt8) (ts : List Tok) (n : Nat) : ans M (39 :: 39 :: l) ts n (.quo f acc) = ans M l ts (n + 2) (.quo f (acc ++ [39])) := by
  rw [ans_cons, step, if_pos rfl]; simp only; rw [ans_cons, step, if_pos rfl]
theorem ans_q_esc (M f : Nat) (d : UInt8) (l acc : List UInt8) (ts : List Tok) (n : Nat) : ans M (92 :: d :: l) ts n (.quo f acc) = if escOk d = true then ans M l ts (n + 2) (.quo f (acc ++ [escV d])) else .bad n 32 := by
  rw [ans_cons, step, if_neg (by decide), if_pos rfl]; simp only; rw [ans_cons, step]
  unfold escOk escV
  by_cases h1 : d = 110
  · subst h1; rfl
  by_cases h2 : d = 116
  · subst h2; rfl
  by_cases h3 : d = 92
  · subst h3; rfl
  by_cases h4 : d = 39
  · subst h4; rfl
  rw [if_neg h1, if_neg h2, if_neg (by simp [h3, h4]), if_neg (by simp [h1, h2, h3, h4])]; rfl
theorem ans_q_esc_end (M f : Nat) (acc : List UInt8) (ts : List Tok) (n : Nat) : ans M [92] ts n (.quo f acc) = .bad f 31 := rfl
theorem ans_q_end (M f : Nat) (l acc : List UInt8) (ts : List Tok) (n : Nat) (h : ∀ b r, l = b :: r → b ≠ 39) : ans M (39 :: l) ts n (.quo f acc) = ans M l (ts ++ [⟨1, acc, f, n + 1⟩]) (n + 1) .btw := by
  rw [ans_cons, step, if_pos rfl]
  cases l with
  | nil => rfl
  | cons b r => simp only; rw [ans_cons, ans_cons, step, step, if_neg (h b r rfl)]

/-! ### frames -/
theorem Sc.on {B c n K : Nat} {s : ByteArray} {v : Value} {ts : List Tok} {w w' : World} (h : Sc B c s n v ts w) (hb : Below K w w') (hc : c < K) (hv : ∀ g, v.ownBlock = some g → g < K) : Sc B c s n v ts w' := by
  refine ⟨h.base, (hb.block c hc).trans h.block, ⟨h.row.1, ?_⟩, h.other⟩
  rcases h.row.2 with h1 | ⟨g, cap, cur, h1, h2, h3, h4⟩
  · exact .inl h1
  · exact .inr ⟨g, cap, cur, h1, h2, (hb.block g (hv g (by rw [h1]; rfl))).trans h3, h4⟩
theorem Kp.on {c K : Nat} {w w1 w2 : World} (h : Kp c w w1) (hb : Below K w1 w2) (hK : w.heap.size ≤ K) : Kp c w w2 :=
  ⟨hb.os.trans h.os, hb.tape.trans h.tape, hb.output.trans h.output, Nat.le_trans h.size hb.size, fun k hk hne => (hb.block k (by omega)).trans (h.block k hk hne)⟩
theorem Bl.kp {c K b : Nat} {l : List UInt8} {w w' : World} (h : Bl K b l w) (hk : Kp c w w') (hc : c < K) : Bl K b l w' := by
  have key : ∀ p, Lib.BuilderAtF 50 5 K b p (Lib.byteCells l) w → Lib.BuilderAtF 50 5 K b p (Lib.byteCells l) w' := by
    rintro p ⟨hB, v, hb, hown, hne⟩
    have hlt : b < w.heap.size := by
      rcases Nat.lt_or_ge b w.heap.size with h' | h'
      · exact h'
      · simp [Array.getElem?_eq_none h'] at hb
    refine ⟨hB, v, (hk.block b hlt (by intro e; cases e; omega)).trans hb, ⟨hown.1, ?_⟩, hne⟩
    rcases hown.2 with h1 | ⟨g, cap, cur, fz, h1, h2, h3, h4⟩
    · exact .inl h1
    · have hg : g < w.heap.size := by
        rcases Nat.lt_or_ge g w.heap.size with h' | h'
        · exact h'
        · simp [Array.getElem?_eq_none h'] at h3
      exact .inr ⟨g, cap, cur, fz, h1, h2, (hk.block g hg (by intro e; cases e; omega)).trans h3, h4⟩
  exact h.elim (fun x => .inl (key _ x)) (fun x => .inr (key _ x))
end Go.Proofs.Ytdcggedggngpoaa.lx
