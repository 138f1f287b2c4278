/- Quoted atoms: the scanner's escaped, quoted.; Quoted atoms: the scanner's quoted.; What num's functions come to: a contract for each.; Texts of integers: num's Print, Parse; the reference's.; Texts of integers: num's Print.; Texts of integers: num's Parse. -/
import Derived.Test.YtcdmmcogegnieaaGreatDoorQ3
import Derived.Test.YtcdmmcogegnieaaGreatDoorProg
import Derived.Test.YtcdmmcogegnieaaGreatDoorQ2
import Derived.WalkKit
import Derived.Handy
import Derived.Outline
import Derived.Lib.Hide
import Derived.WalkSpells
import Derived.WalkLawsBesides
import Derived.Laws.BytesArg
import Derived.PlainAid
import Derived.Lib.IndexBytes
import Derived.Lib.Strings
set_option linter.unusedVariables false
section
/- Quoted atoms: the scanner's escaped, quoted. -/
namespace Go.Proofs.YtcdmmcogegnieaaGreatDoor.lx
open Go.RowKit

/-- what a backslash and this byte stand for -/
def escOk (d : UInt8) : Bool := d == 110 || d == 116 || d == 92 || d == 39
def escV (d : UInt8) : UInt8 := if d = 110 then 10 else if d = 116 then 9 else d

def escE (d : UInt8) (n : Nat) : Ending := if escOk d = true then .returned (.int .u8 ((escV d).toNat : Nat)) else Wrong n 32
theorem escaped_end {B c n f : Nat} {s : ByteArray} {v : Value} {ts : List Tok} {w : World} (h : Sc B c s n v ts w) (hs : s.size ≤ 4096) (hn : n + 1 = s.size) :
    Calls Tryz.prog 79 #[.pointer (some ⟨c, 0, none⟩), .int .i64 (f : Nat)] w fun e w' => e = Wrong f 31 ∧ w = w' := by
  have c0 := h.c0
  have c1 := h.c1
  clear h
  have b1 : ((n : Int) + 1 == (s.size : Int)) = true := by simp; omega
  have hn2 : n ≤ 4096 := by omega
  clear hn
  go_enter Tryz.func79, Tryz.ntmps79
  go_wp2
  exact ⟨rfl, rfl, rfl⟩
set_option maxHeartbeats 1000000 in
theorem escaped_c {B c n f : Nat} {s : ByteArray} {v : Value} {ts : List Tok} {w : World} (h : Sc B c s n v ts w) (hs : s.size ≤ 4096) (hn : n + 1 < s.size) :
    Calls Tryz.prog 79 #[.pointer (some ⟨c, 0, none⟩), .int .i64 (f : Nat)] w fun e w' => e = escE (bA s (n + 1)) n ∧ w = w' := by
  have c0 := h.c0
  have c1 := h.c1
  clear h
  have hgt := get_bA s
  have b1 : ((n : Int) + 1 == (s.size : Int)) = false := by simp; omega
  have hx : ∀ k : Nat, k < 256 → (bA s (n + 1)).toNat = k → bA s (n + 1) = UInt8.ofNat k := fun k hk e => UInt8.toNat_inj.1 (by rw [e]; simp; omega)
  by_cases h1 : (bA s (n + 1)).toNat = 110
  · obtain ⟨a1, a2⟩ := ieq_yes (a := (bA s (n + 1)).toNat) 110 (by omega)
    have e := Lib.hid (hx _ (by omega) h1)
    clear hx h1
    go_enter Tryz.func79, Tryz.ntmps79
    go_wp2
    go_ret
    exact ⟨by rw [e.out]; rfl, rfl⟩
  obtain ⟨p1, p2⟩ := ieq_no (a := (bA s (n + 1)).toNat) 110 (by omega)
  by_cases h2 : (bA s (n + 1)).toNat = 116
  · obtain ⟨a1, a2⟩ := ieq_yes (a := (bA s (n + 1)).toNat) 116 (by omega)
    have e := Lib.hid (hx _ (by omega) h2)
    clear hx h1 h2
    go_enter Tryz.func79, Tryz.ntmps79
    go_wp2
    go_ret
    exact ⟨by rw [e.out]; rfl, rfl⟩
  obtain ⟨q1, q2⟩ := ieq_no (a := (bA s (n + 1)).toNat) 116 (by omega)
  by_cases h3 : (bA s (n + 1)).toNat = 92
  · obtain ⟨a1, a2⟩ := ieq_yes (a := (bA s (n + 1)).toNat) 92 (by omega)
    have e := Lib.hid (hx _ (by omega) h3)
    clear hx h1 h2 h3
    go_enter Tryz.func79, Tryz.ntmps79
    go_wp2
    go_ret
    exact ⟨by rw [e.out]; rfl, rfl⟩
  obtain ⟨r1, r2⟩ := ieq_no (a := (bA s (n + 1)).toNat) 92 (by omega)
  by_cases h4 : (bA s (n + 1)).toNat = 39
  · obtain ⟨a1, a2⟩ := ieq_yes (a := (bA s (n + 1)).toNat) 39 (by omega)
    have e := Lib.hid (hx _ (by omega) h4)
    clear hx h1 h2 h3 h4
    go_enter Tryz.func79, Tryz.ntmps79
    go_wp2
    go_ret
    exact ⟨by rw [e.out]; rfl, rfl⟩
  obtain ⟨s1, s2⟩ := ieq_no (a := (bA s (n + 1)).toNat) 39 (by omega)
  have hno : escOk (bA s (n + 1)) = false := by
    unfold escOk
    rw [show (110 : UInt8) = UInt8.ofNat 110 from rfl, show (116 : UInt8) = UInt8.ofNat 116 from rfl, show (92 : UInt8) = UInt8.ofNat 92 from rfl, show (39 : UInt8) = UInt8.ofNat 39 from rfl,
      u8_eq _ _ (by omega), u8_eq _ _ (by omega), u8_eq _ _ (by omega), u8_eq _ _ (by omega)]
    simp [h1, h2, h3, h4]
  have hE := Lib.hid (show escE (bA s (n + 1)) n = Wrong n 32 by unfold escE; rw [if_neg (by rw [hno]; decide)])
  clear hno hx h1 h2 h3 h4
  go_enter Tryz.func79, Tryz.ntmps79
  go_wp2
  exact ⟨rfl, by rw [hE.out]; rfl, rfl⟩

/-! ### the machine in quotes -/
theorem ans_q_plain (M f : Nat) (b : UInt8) (l acc : List UInt8) (ts : List Tok) (n : Nat) (h1 : b ≠ 39) (h2 : b ≠ 92) (h3 : ¬ (b.toNat < 32 ∨ 126 < b.toNat)) :
    ans M (b :: l) ts n (.quo f acc) = ans M l ts (n + 1) (.quo f (acc ++ [b])) := by
  rw [ans_cons, step, if_neg h1, if_neg h2, if_neg h3]
theorem ans_q_bad (M f : Nat) (b : UInt8) (l acc : List UInt8) (ts : List Tok) (n : Nat) (h1 : b ≠ 39) (h2 : b ≠ 92) (h3 : b.toNat < 32 ∨ 126 < b.toNat) :
    ans M (b :: l) ts n (.quo f acc) = .bad n 30 := by
  rw [ans_cons, step, if_neg h1, if_neg h2, if_pos h3]
theorem ans_q_two (M f : Nat) (l acc : List UInt8) (ts : List Tok) (n : Nat) : ans M (39 :: 39 :: l) ts n (.quo f acc) = ans M l ts (n + 2) (.quo f (acc ++ [39])) := by
  rw [ans_cons, step, if_pos rfl]; simp only; rw [ans_cons, step, if_pos rfl]
theorem ans_q_esc (M f : Nat) (d : UInt8) (l acc : List UInt8) (ts : List Tok) (n : Nat) : ans M (92 :: d :: l) ts n (.quo f acc) = if escOk d = true then ans M l ts (n + 2) (.quo f (acc ++ [escV d])) else .bad n 32 := by
  rw [ans_cons, step, if_neg (by decide), if_pos rfl]; simp only; rw [ans_cons, step]
  unfold escOk escV
  by_cases h1 : d = 110
  · subst h1; rfl
  by_cases h2 : d = 116
  · subst h2; rfl
  by_cases h3 : d = 92
  · subst h3; rfl
  by_cases h4 : d = 39
  · subst h4; rfl
  rw [if_neg h1, if_neg h2, if_neg (by simp [h3, h4]), if_neg (by simp [h1, h2, h3, h4])]; rfl
theorem ans_q_esc_end (M f : Nat) (acc : List UInt8) (ts : List Tok) (n : Nat) : ans M [92] ts n (.quo f acc) = .bad f 31 := rfl
theorem ans_q_end (M f : Nat) (l acc : List UInt8) (ts : List Tok) (n : Nat) (h : ∀ b r, l = b :: r → b ≠ 39) : ans M (39 :: l) ts n (.quo f acc) = ans M l (ts ++ [⟨1, acc, f, n + 1⟩]) (n + 1) .btw := by
  rw [ans_cons, step, if_pos rfl]
  cases l with
  | nil => rfl
  | cons b r => simp only; rw [ans_cons, ans_cons, step, step, if_neg (h b r rfl)]

/-! ### frames -/
theorem Sc.on {B c n K : Nat} {s : ByteArray} {v : Value} {ts : List Tok} {w w' : World} (h : Sc B c s n v ts w) (hb : Below K w w') (hc : c < K) (hv : ∀ g, v.ownBlock = some g → g < K) : Sc B c s n v ts w' := by
  refine ⟨h.base, (hb.block c hc).trans h.block, ⟨h.row.1, ?_⟩, h.other⟩
  rcases h.row.2 with h1 | ⟨g, cap, cur, h1, h2, h3, h4⟩
  · exact .inl h1
  · exact .inr ⟨g, cap, cur, h1, h2, (hb.block g (hv g (by rw [h1]; rfl))).trans h3, h4⟩
theorem Kp.on {c K : Nat} {w w1 w2 : World} (h : Kp c w w1) (hb : Below K w1 w2) (hK : w.heap.size ≤ K) : Kp c w w2 :=
  ⟨hb.os.trans h.os, hb.tape.trans h.tape, hb.output.trans h.output, Nat.le_trans h.size hb.size, fun k hk hne => (hb.block k (by omega)).trans (h.block k hk hne)⟩
theorem Bl.kp {c K b : Nat} {l : List UInt8} {w w' : World} (h : Bl K b l w) (hk : Kp c w w') (hc : c < K) : Bl K b l w' := by
  have key : ∀ p, Lib.BuilderAtF 107 5 K b p (Lib.byteCells l) w → Lib.BuilderAtF 107 5 K b p (Lib.byteCells l) w' := by
    rintro p ⟨hB, v, hb, hown, hne⟩
    have hlt : b < w.heap.size := by
      rcases Nat.lt_or_ge b w.heap.size with h' | h'
      · exact h'
      · simp [Array.getElem?_eq_none h'] at hb
    refine ⟨hB, v, (hk.block b hlt (by intro e; cases e; omega)).trans hb, ⟨hown.1, ?_⟩, hne⟩
    rcases hown.2 with h1 | ⟨g, cap, cur, fz, h1, h2, h3, h4⟩
    · exact .inl h1
    · have hg : g < w.heap.size := by
        rcases Nat.lt_or_ge g w.heap.size with h' | h'
        · exact h'
        · simp [Array.getElem?_eq_none h'] at h3
      exact .inr ⟨g, cap, cur, fz, h1, h2, (hk.block g hg (by intro e; cases e; omega)).trans h3, h4⟩
  exact h.elim (fun x => .inl (key _ x)) (fun x => .inr (key _ x))
end Go.Proofs.YtcdmmcogegnieaaGreatDoor.lx
end
section
/- Quoted atoms: the scanner's quoted. -/
namespace Go.Proofs.YtcdmmcogegnieaaGreatDoor.lx
open Go.RowKit

/-- the machine in quotes that began at n comes from n + 1 on to what it comes to at m with the text acc -/
def Quo (s : ByteArray) (n m : Nat) (acc : List UInt8) : Prop := ∀ M ts, ans M (s.data.toList.drop (n + 1)) ts (n + 1) (.quo n []) = ans M (s.data.toList.drop m) ts m (.quo n acc)
def QuoOk (s : ByteArray) (n m : Nat) (acc : List UInt8) : Prop := ∀ M ts, ans M (s.data.toList.drop (n + 1)) ts (n + 1) (.quo n []) = ans M (s.data.toList.drop m) (ts ++ [⟨1, acc, n, m⟩]) m .btw
def QuoBad (s : ByteArray) (n p k : Nat) : Prop := ∀ M ts, ans M (s.data.toList.drop (n + 1)) ts (n + 1) (.quo n []) = .bad p k
def QuoP (B c : Nat) (s : ByteArray) (v : Value) (ts : List Tok) (n : Nat) (w : World) (e : Ending) (w' : World) : Prop :=
  Kp c w w' ∧ ((∃ m acc, e = .returned (.string ⟨acc.toArray⟩) ∧ Sc B c s m v ts w' ∧ n < m ∧ m ≤ s.size ∧ QuoOk s n m acc) ∨ (∃ p k, e = Wrong p k ∧ QuoBad s n p k))

theorem drop2 {s : ByteArray} {m : Nat} (h : m + 1 < s.size) : s.data.toList.drop m = bA s m :: bA s (m + 1) :: s.data.toList.drop (m + 2) := by
  rw [drop_bA (by omega), drop_bA h]
theorem drop1 {s : ByteArray} {m : Nat} (h : m + 1 = s.size) : s.data.toList.drop m = [bA s m] := by
  rw [drop_bA (by omega), drop_end (k := m + 1) (by omega)]

set_option maxRecDepth 100000 in
set_option maxHeartbeats 4000000 in
theorem quoted_c {B c n : Nat} {s : ByteArray} {v : Value} {ts : List Tok} {w : World} (h : Sc B c s n v ts w) (hn : n < s.size) (hs : s.size ≤ 4096) :
    Calls Tryz.prog 63 #[.pointer (some ⟨c, 0, none⟩)] w (QuoP B c s v ts n w) := by
  have hcK := h.lt
  have hvK : Hid (∀ g, v.ownBlock = some g → g < w.heap.size) := Lib.hid fun g hg => ((World.ownsRow.lt h.row) g hg).2
  have c1 := h.c1
  have f1 := h.free 1
  have c1' : (w.alloc (.cells #[.pointer none, .slice none 0 0] 107)).cell? ⟨c, 1, none⟩ = some (.int .i64 (n : Nat)) := (h.alloc _).c1
  have f1' : (w.alloc (.cells #[.pointer none, .slice none 0 0] 107)).frozen? ⟨c, 1, none⟩ = false := (h.alloc _).free 1
  have hz : (w.setCell ⟨c, 1, none⟩ (.int .i64 ((n : Int) + 1))).heap.size = w.heap.size := by simp [World.setCell]
  have hS0 := Lib.hid ((h.move (n + 1) (e := (n : Int) + 1) (by omega)).alloc (.cells #[.pointer none, .slice none 0 0] 107))
  have hK0 := Lib.hid (((Kp.refl c w).set 1 (.int .i64 ((n : Int) + 1))).alloc (.cells #[.pointer none, .slice none 0 0] 107))
  have hB0 := bl_new (w.setCell ⟨c, 1, none⟩ (.int .i64 ((n : Int) + 1)))
  rw [hz] at hB0
  have hB1 := Lib.hid hB0
  clear hB0 hz
  clear h
  have hgt := get_bA s
  go_enter Tryz.func63, Tryz.ntmps63
  go_wp2
  clear c1 f1 c1' f1'
  go_loopg [] (s.size - (n + 1)) (fun k wr => ∃ (m : Nat) (acc : List UInt8), k = s.size - m ∧ m ≤ s.size ∧ n < m ∧ acc.length ≤ m ∧ Hid (Quo s n m acc) ∧ Hid (Sc B c s m v ts wr) ∧ Hid (Kp c w wr) ∧ Hid (Bl w.heap.size w.heap.size acc wr))
  case atStart => exact ⟨n + 1, [], rfl, by omega, by omega, by simp, Lib.hid (fun _ _ => rfl), hS0, hK0, hB1⟩
  case round =>
    obtain ⟨m, acc, hgk, hm, hnm, hal, hj, hS, hK, hBl⟩ := hrel
    have c0 := hS.out.c0
    have c1 := hS.out.c1
    have f1 := hS.out.free 1
    have hmm : (m : Int) ≤ s.size := by omega
    by_cases hlt : m < s.size
    · have hlt2 : (m : Int) < s.size := by omega
      go_wp2
      go_quiet (fail)
      go_wp2
      go_quiet (fail)
      generalize hw2 : World.drewN (World.drewN wr _) _ = w2
      have hS2 := Lib.hid (show Sc B c s m v ts w2 by rw [← hw2]; exact (hS.out.drew _).drew _)
      have hK2 := Lib.hid (show Kp c w w2 by rw [← hw2]; exact (hK.out.drew _).drew _)
      have hBl2 := Lib.hid (show Bl w.heap.size w.heap.size acc w2 by rw [← hw2]; exact hBl.out.kp ((Kp.refl c wr).drew _ |>.drew _) hcK)
      clear hw2 c0 c1 f1 hS hK hBl
      have c1 := hS2.out.c1
      have f1 := hS2.out.free 1
      have hd := Lib.hid (drop_bA hlt)
      by_cases h39 : (bA s m).toNat = 39
      · obtain ⟨a1, a2⟩ := ieq_yes (a := (bA s m).toNat) 39 (by omega)
        have e39 := Lib.hid (show bA s m = 39 from UInt8.toNat_inj.1 (by rw [h39]; rfl))
        clear h39
        have kb := behindIs_c hS2.out hlt hs 39
        cases hb : (decide (m + 1 < s.size) && (bA s (m + 1)).toNat == 39) <;> rw [hb] at kb
        · have hq := Lib.hid (show QuoOk s n (m + 1) acc from fun M ts' => by
            rw [hj.out M ts', hd.out, e39.out, ans_q_end]
            intro b r hbr e
            subst e
            by_cases h3 : m + 1 < s.size
            · rw [drop_bA h3] at hbr
              rw [(List.cons.inj hbr).1] at hb
              simp [h3] at hb
            · rw [drop_end (k := m + 1) (by omega)] at hbr; cases hbr)
          clear hb
          have hS3 := Lib.hid (hS2.out.move (m + 1) (e := (m : Int) + 1) (by omega))
          have hK3 := Lib.hid (hK2.out.set 1 (.int .i64 ((m : Int) + 1)))
          have hBl3 := Lib.hid (hBl2.out.kp ((Kp.refl c w2).set 1 (.int .i64 ((m : Int) + 1))) hcK)
          go_wp2_with (go_at_call 77; refine kb.mono ?_; rintro e w' ⟨rfl, rfl⟩)
          refine (bString_c w.heap.size w.heap.size acc _ hBl3.out hK3.out.size).mono ?_
          rintro e w4 ⟨rfl, hb4⟩
          go_wp2
          go_ret
          exact ⟨hK3.out.on hb4 (Nat.le_refl _), .inl ⟨m + 1, acc, rfl, hS3.out.on hb4 hcK hvK.out, by omega, by omega, hq.out⟩⟩
        · have hlt3 : m + 1 < s.size := by simp at hb; exact hb.1
          have hq := Lib.hid (show Quo s n (m + 2) (acc ++ [bA s m]) from fun M ts' => by
            simp only [Bool.and_eq_true, decide_eq_true_eq, beq_iff_eq] at hb
            have e2 : bA s (m + 1) = 39 := UInt8.toNat_inj.1 (by rw [hb.2]; rfl)
            rw [hj.out M ts', drop2 hlt3, e39.out, e2, ans_q_two])
          clear hb
          have hS3 := Lib.hid (hS2.out.move (m + 1) (e := (m : Int) + 1) (by omega))
          have hK3 := Lib.hid (hK2.out.set 1 (.int .i64 ((m : Int) + 1)))
          have hBl3 := Lib.hid (hBl2.out.kp ((Kp.refl c w2).set 1 (.int .i64 ((m : Int) + 1))) hcK)
          go_wp2_with (go_at_call 77; refine kb.mono ?_; rintro e w' ⟨rfl, rfl⟩)
          refine (writeByte_c w.heap.size w.heap.size acc (bA s m) _ hBl3.out (by omega) (by have := hK3.out.size; simpa using this)).mono ?_
          rintro e w4 ⟨rfl, hBl4, hb4⟩
          have hS4 := Lib.hid (hS3.out.on hb4 hcK hvK.out)
          have hK4 := Lib.hid (hK3.out.on hb4 (Nat.le_refl _))
          have hBl5 := Lib.hid hBl4
          clear hBl4 hb4
          have c1 := hS4.out.c1
          have f1 := hS4.out.free 1
          go_wp2
          go_roundg (s.size - (m + 2))
          case measure => omega
          case rel => exact ⟨m + 2, acc ++ [bA s m], rfl, by omega, by omega, by simp; omega, hq, Lib.hid (hS4.out.move (m + 2) (by omega)), Lib.hid (hK4.out.set 1 _), Lib.hid (hBl5.out.kp ((Kp.refl c _).set 1 _) hcK)⟩
      have n39 := Lib.hid (show bA s m ≠ 39 from fun e => h39 (by rw [e]; rfl))
      obtain ⟨a1, a2⟩ := ieq_no (a := (bA s m).toNat) 39 (by omega)
      clear h39
      by_cases h92 : (bA s m).toNat = 92
      · obtain ⟨b1, b2⟩ := ieq_yes (a := (bA s m).toNat) 92 (by omega)
        have e92 := Lib.hid (show bA s m = 92 from UInt8.toNat_inj.1 (by rw [h92]; rfl))
        clear h92
        by_cases hend : m + 1 = s.size
        · have ke := escaped_end (f := n) hS2.out hs hend
          unfold Wrong at ke
          have hq := Lib.hid (show QuoBad s n n 31 from fun M ts' => by rw [hj.out M ts', drop1 hend, e92.out]; rfl)
          clear hend
          go_wp2_with (go_at_call 79; (with_reducible refine ke.mono ?_); rintro e w' ⟨rfl, rfl⟩)
          exact ⟨rfl, hK2.out, .inr ⟨n, 31, rfl, hq.out⟩⟩
        · have hlt3 : m + 1 < s.size := by omega
          have ke := escaped_c (f := n) hS2.out hs hlt3
          clear hend
          cases ho : escOk (bA s (m + 1))
          · have hE : escE (bA s (m + 1)) m = Wrong m 32 := by unfold escE; rw [if_neg (by rw [ho]; decide)]
            rw [hE] at ke
            unfold Wrong at ke
            have hq := Lib.hid (show QuoBad s n m 32 from fun M ts' => by rw [hj.out M ts', drop2 hlt3, e92.out, ans_q_esc, if_neg (by rw [ho]; decide)])
            clear hE ho
            go_wp2_with (go_at_call 79; (with_reducible refine ke.mono ?_); rintro e w' ⟨rfl, rfl⟩)
            exact ⟨rfl, hK2.out, .inr ⟨m, 32, rfl, hq.out⟩⟩
          · have hE : escE (bA s (m + 1)) m = .returned (.int .u8 ((escV (bA s (m + 1))).toNat : Nat)) := by unfold escE; rw [if_pos ho]
            rw [hE] at ke
            have hq := Lib.hid (show Quo s n (m + 2) (acc ++ [escV (bA s (m + 1))]) from fun M ts' => by rw [hj.out M ts', drop2 hlt3, e92.out, ans_q_esc, if_pos ho])
            clear hE ho
            have hS3 := Lib.hid (hS2.out.move (m + 1) (e := (m : Int) + 1) (by omega))
            have hK3 := Lib.hid (hK2.out.set 1 (.int .i64 ((m : Int) + 1)))
            have hBl3 := Lib.hid (hBl2.out.kp ((Kp.refl c w2).set 1 (.int .i64 ((m : Int) + 1))) hcK)
            go_wp2_with (go_at_call 79; (with_reducible refine ke.mono ?_); rintro e w' ⟨rfl, rfl⟩)
            refine (writeByte_c w.heap.size w.heap.size acc (escV (bA s (m + 1))) _ hBl3.out (by omega) (by have := hK3.out.size; simpa using this)).mono ?_
            rintro e w4 ⟨rfl, hBl4, hb4⟩
            have hS4 := Lib.hid (hS3.out.on hb4 hcK hvK.out)
            have hK4 := Lib.hid (hK3.out.on hb4 (Nat.le_refl _))
            have hBl5 := Lib.hid hBl4
            clear hBl4 hb4
            have c1 := hS4.out.c1
            have f1 := hS4.out.free 1
            go_wp2
            go_roundg (s.size - (m + 2))
            case measure => omega
            case rel => exact ⟨m + 2, acc ++ [escV (bA s (m + 1))], rfl, by omega, by omega, by simp; omega, hq, Lib.hid (hS4.out.move (m + 2) (by omega)), Lib.hid (hK4.out.set 1 _), Lib.hid (hBl5.out.kp ((Kp.refl c _).set 1 _) hcK)⟩
      have n92 := Lib.hid (show bA s m ≠ 92 from fun e => h92 (by rw [e]; rfl))
      obtain ⟨b1, b2⟩ := ieq_no (a := (bA s m).toNat) 92 (by omega)
      clear h92
      by_cases h32 : (bA s m).toNat < 32
      · have hq := Lib.hid (show QuoBad s n m 30 from fun M ts' => by rw [hj.out M ts', hd.out, ans_q_bad M n _ _ _ _ _ n39.out n92.out (.inl h32)])
        have t1 : (((bA s m).toNat : Nat) : Int) < 32 := by omega
        clear h32
        go_wp2
        exact ⟨rfl, hK2.out, .inr ⟨m, 30, rfl, hq.out⟩⟩
      have t1 : ¬ ((((bA s m).toNat : Nat) : Int) < 32) := by omega
      by_cases h126 : 126 < (bA s m).toNat
      · have hq := Lib.hid (show QuoBad s n m 30 from fun M ts' => by rw [hj.out M ts', hd.out, ans_q_bad M n _ _ _ _ _ n39.out n92.out (.inr h126)])
        have t2 : (126 : Int) < (((bA s m).toNat : Nat) : Int) := by omega
        clear h126
        go_wp2
        exact ⟨rfl, hK2.out, .inr ⟨m, 30, rfl, hq.out⟩⟩
      have t2 : ¬ ((126 : Int) < (((bA s m).toNat : Nat) : Int)) := by omega
      have hq := Lib.hid (show Quo s n (m + 1) (acc ++ [bA s m]) from fun M ts' => by rw [hj.out M ts', hd.out, ans_q_plain M n _ _ _ _ _ n39.out n92.out (by omega)])
      clear h32 h126
      go_wp2_with fail
      refine (writeByte_c w.heap.size w.heap.size acc (bA s m) _ hBl2.out (by omega) (by have := hK2.out.size; simpa using this)).mono ?_
      rintro e w4 ⟨rfl, hBl4, hb4⟩
      have hS4 := Lib.hid (hS2.out.on hb4 hcK hvK.out)
      have hK4 := Lib.hid (hK2.out.on hb4 (Nat.le_refl _))
      have hBl5 := Lib.hid hBl4
      clear hBl4 hb4
      have c1 := hS4.out.c1
      have f1 := hS4.out.free 1
      go_wp2
      go_roundg (s.size - (m + 1))
      case measure => omega
      case rel => exact ⟨m + 1, acc ++ [bA s m], rfl, by omega, by omega, by simp; omega, hq, Lib.hid (hS4.out.move (m + 1) (by omega)), Lib.hid (hK4.out.set 1 _), Lib.hid (hBl5.out.kp ((Kp.refl c _).set 1 _) hcK)⟩
    · have hlt2 : ¬ ((m : Int) < s.size) := by omega
      go_wp2
      go_quiet (fail)
      go_wp2
      exact ⟨rfl, hK.out.drew _, .inr ⟨n, 31, rfl, fun M ts' => by rw [hj.out M ts', drop_end (k := m) (by omega)]; rfl⟩⟩
end Go.Proofs.YtcdmmcogegnieaaGreatDoor.lx
end
section
/- What num's functions come to: a contract for each. -/
namespace Go.Proofs.YtcdmmcogegnieaaGreatDoor.nm
open Go.RowKit

theorem ret2 {k l : IntKind} {a b c d : Int} (h : a = c) (h2 : b = d) : Ending.returned (.tuple #[.int k a, .int l b]) = .returned (.tuple #[.int k c, .int l d]) := by rw [h, h2]
theorem least_cases {a b : Int} (h : ¬ (a = -9223372036854775808 ∧ b = -1)) : ((a == -9223372036854775808) = true ∧ (b == -1) = false) ∨ (a == -9223372036854775808) = false := by
  by_cases h1 : a = -9223372036854775808
  · exact .inl ⟨by rw [beq_iff_eq]; exact h1, by rw [beq_eq_false_iff_ne]; exact fun h2 => h ⟨h1, h2⟩⟩
  · exact .inr (by rw [beq_eq_false_iff_ne]; exact h1)

theorem add_over_neg {a b : Int} (ha : Fit a) (hb : Fit b) (h : a + b < -9223372036854775808) : a ≤ wrap64 (a + b) ∧ b < 0 := by
  unfold wrap64; unfold Fit at *; omega
theorem add_over_pos {a b : Int} (ha : Fit a) (hb : Fit b) (h : 9223372036854775807 < a + b) : wrap64 (a + b) < a ∧ 0 ≤ b := by
  unfold wrap64; unfold Fit at *; omega

theorem sub_over_neg {a b : Int} (ha : Fit a) (hb : Fit b) (h : a - b < -9223372036854775808) : a < wrap64 (a - b) ∧ 0 ≤ b := by
  unfold wrap64; unfold Fit at *; omega
theorem sub_over_pos {a b : Int} (ha : Fit a) (hb : Fit b) (h : 9223372036854775807 < a - b) : wrap64 (a - b) ≤ a ∧ b < 0 := by
  unfold wrap64; unfold Fit at *; omega

theorem sub_c (a b : Int) (ha : Fit a) (hb : Fit b) (w : World) :
    Calls Tryz.prog 123 #[.int .i64 a, .int .i64 b] w fun e w' => e = .returned (.tuple #[.int .i64 (val (a - b)), .int .i64 (err (a - b))]) ∧ w = w' := by
  by_cases h : Fit (a - b)
  · rw [val_of h, err_of h]
    unfold Fit at *
    by_cases h0 : b < 0
    · have h1 : decide (a < a - b) = true := by simp; omega
      go_enter Tryz.func123, Tryz.ntmps123
      go_wp2
      go_ret2
      exact ⟨rfl, rfl⟩
    · have h1 : decide (a < a - b) = false := by simp; omega
      go_enter Tryz.func123, Tryz.ntmps123
      go_wp2
      go_ret2
      exact ⟨rfl, rfl⟩
  · rw [val_no h, err_no h]
    by_cases h0 : b < 0
    · have h1 : decide (a < wrap64 (a - b)) = false := by have := (sub_over_pos ha hb (by unfold Fit at *; omega)).1; simp; omega
      clear h ha hb
      go_enter Tryz.func123, Tryz.ntmps123
      go_wp2
      go_ret2
      exact ⟨rfl, rfl⟩
    · have h1 : decide (a < wrap64 (a - b)) = true := by have := (sub_over_neg ha hb (by unfold Fit at *; omega)).1; simp; omega
      clear h ha hb
      go_enter Tryz.func123, Tryz.ntmps123
      go_wp2
      go_ret2
      exact ⟨rfl, rfl⟩

theorem neg_c (a : Int) (ha : Fit a) (w : World) :
    Calls Tryz.prog 124 #[.int .i64 a] w fun e w' => e = .returned (.tuple #[.int .i64 (val (-a)), .int .i64 (err (-a))]) ∧ w = w' := by
  go_enter Tryz.func124, Tryz.ntmps124
  go_wp2_with (go_at_call 123; refine (sub_c 0 a (by unfold Fit; omega) ha _).mono ?_; rintro e w' ⟨rfl, rfl⟩)
  go_ret2
  exact ⟨rfl, rfl⟩

def absI (a : Int) : Int := if a < 0 then -a else a
theorem mul_c (a b : Int) (ha : Fit a) (hb : Fit b) (w : World) :
    Calls Tryz.prog 122 #[.int .i64 a, .int .i64 b] w fun e w' => e = .returned (.tuple #[.int .i64 (val (a * b)), .int .i64 (err (a * b))]) ∧ w = w' := by
  by_cases h0 : b = 0
  · subst h0
    rw [Int.mul_zero, show val 0 = 0 from by decide, show err 0 = 0 from by decide]
    go_enter Tryz.func122, Tryz.ntmps122
    go_wp2
    go_ret2
    exact ⟨rfl, rfl⟩
  · have c0 : (b == 0) = false := by simp [h0]
    by_cases h1 : a = -9223372036854775808 ∧ b = -1
    · obtain ⟨rfl, rfl⟩ := h1
      rw [val_no mul_least, err_no mul_least]
      go_enter Tryz.func122, Tryz.ntmps122
      go_wp2
      go_ret2
      exact ⟨rfl, rfl⟩
    · by_cases hf : Fit (a * b)
      · have t1 : (wrap64 ((wrap64 (a * b)).tdiv b) != a) = false := by rw [wrap_fit hf, Int.mul_tdiv_cancel _ h0, wrap_fit ha]; simp
        rw [val_of hf, err_of hf]
        have hw := Lib.hid (wrap_fit hf)
        rcases least_cases h1 with ⟨ca, cb⟩ | ca
        · clear h1 ha hb hf
          go_enter Tryz.func122, Tryz.ntmps122
          go_wp2
          go_ret2
          exact ⟨ret2 hw.out rfl, rfl⟩
        · clear h1 ha hb hf
          go_enter Tryz.func122, Tryz.ntmps122
          go_wp2
          go_ret2
          exact ⟨ret2 hw.out rfl, rfl⟩
      · have t1 : (wrap64 ((wrap64 (a * b)).tdiv b) != a) = true := by rw [bne_iff_ne]; exact mul_back ha hb h0 h1 hf
        rw [val_no hf, err_no hf]
        rcases least_cases h1 with ⟨ca, cb⟩ | ca
        · clear h1 ha hb hf
          go_enter Tryz.func122, Tryz.ntmps122
          go_wp2
          go_ret2
          exact ⟨rfl, rfl⟩
        · clear h1 ha hb hf
          go_enter Tryz.func122, Tryz.ntmps122
          go_wp2
          go_ret2
          exact ⟨rfl, rfl⟩

end Go.Proofs.YtcdmmcogegnieaaGreatDoor.nm
end
section
/- Texts of integers: num's Print, Parse; the reference's. -/
namespace Go.Proofs.YtcdmmcogegnieaaGreatDoor.tx
open Go.RowKit Go.Proofs.YtcdmmcogegnieaaGreatDoor.nm

/-- a text as a value -/
def str (l : List UInt8) : ByteArray := ⟨l.toArray⟩
def ten : ByteArray := { data := #[48, 49, 50, 51, 52, 53, 54, 55, 56, 57] }
theorem ten_cut (d : Nat) (h : d < 10) : ten.extract d (d + 1) = str [dig d] := by
  have : ∀ d : Fin 10, ten.extract d.val (d.val + 1) = str [dig d.val] := by decide
  exact this ⟨d, h⟩
theorem str_append (a b : List UInt8) : str a ++ str b = str (a ++ b) := by
  unfold str; apply ByteArray.ext; simp

theorem dec_len (n : Nat) (h : n ≤ 9223372036854775808) : (dec n).length ≤ 19 := dec_len_lt (by omega) (by omega)

theorem dig_mod (m : Nat) : dig (m % 10) = dig m := by unfold dig; rw [Nat.mod_mod]
theorem str_step (m : Nat) (r : List UInt8) : Value.string (ten.extract (m % 10) (m % 10 + 1) ++ str r) = Value.string (str (dig m :: r)) := by
  rw [ten_cut _ (by omega), dig_mod, str_append]; rfl
theorem str_end1 (m : Nat) (r : List UInt8) {l : List UInt8} (h : m < 10) (hl : l = dig m :: r) :
    Ending.returned (.string (({ data := #[45] } : ByteArray) ++ ten.extract m (m + 1) ++ str r)) = .returned (.string (str (45 :: l))) := by
  rw [ten_cut _ h, show ({ data := #[45] } : ByteArray) = str [45] from rfl, str_append, str_append, hl]; rfl
theorem str_end0 (m : Nat) (r : List UInt8) {l : List UInt8} (h : m < 10) (hl : l = dig m :: r) :
    Ending.returned (.string (({ data := #[] } : ByteArray) ++ ten.extract m (m + 1) ++ str r)) = .returned (.string (str l)) := by
  rw [ten_cut _ h, show ({ data := #[] } : ByteArray) = str [] from rfl, str_append, str_append, hl]; rfl

theorem print_r (a : Int) (ha : Fit a) (w : World) :
    Calls Tryz.prog 13 #[.int .i64 a] w fun e w' => e = .returned (.string (str (text a))) ∧ w = w' := by
  have hN := Lib.hid (dec_len a.natAbs (by unfold Fit at ha; omega))
  unfold Fit at ha
  by_cases h0 : a < 0
  · rw [text_neg h0]
    go_enter Tryz.func13, Tryz.ntmps13
    go_wp2
    go_loop [5, 3] (fun s n => ∃ (m : Nat) (r : List UInt8), n = .int .u64 m ∧ s = .string (str r) ∧ Hid (dec a.natAbs = decTo m r) ∧ m ≤ 18446744073709551615) (fun _ n => (intOf n).toNat)
    case atStart => exact ⟨a.natAbs, [], by go_num, rfl, Lib.hid rfl, by omega⟩
    case round =>
      obtain ⟨m, r, rfl, rfl, hD, hm⟩ := hrel
      have hl : r.length ≤ 19 := by
        have := hN.out; rw [hD.out, decTo_append] at this; simp at this; omega
      have hsz : (str r).size ≤ 19 := hl
      by_cases hm9 : 9 < m
      · have hD' := Lib.hid (show dec a.natAbs = decTo (m / 10) (dig m :: r) by rw [hD.out, decTo_ge (by omega)])
        go_wp2
        exact ⟨⟨m / 10, dig m :: r, by go_num, str_step m r, hD', by omega⟩, by simp [intOf]; omega⟩
      · have hD' := Lib.hid (show dec a.natAbs = dig m :: r by rw [hD.out, decTo_lt (by omega)])
        go_wp2
        go_ret
        exact ⟨str_end1 m r (by omega) hD'.out, rfl⟩
  · rw [text_pos h0]
    go_enter Tryz.func13, Tryz.ntmps13
    go_wp2
    go_loop [5, 3] (fun s n => ∃ (m : Nat) (r : List UInt8), n = .int .u64 m ∧ s = .string (str r) ∧ Hid (dec a.natAbs = decTo m r) ∧ m ≤ 18446744073709551615) (fun _ n => (intOf n).toNat)
    case atStart => exact ⟨a.natAbs, [], by go_num, rfl, Lib.hid rfl, by omega⟩
    case round =>
      obtain ⟨m, r, rfl, rfl, hD, hm⟩ := hrel
      have hl : r.length ≤ 19 := by
        have := hN.out; rw [hD.out, decTo_append] at this; simp at this; omega
      have hsz : (str r).size ≤ 19 := hl
      by_cases hm9 : 9 < m
      · have hD' := Lib.hid (show dec a.natAbs = decTo (m / 10) (dig m :: r) by rw [hD.out, decTo_ge (by omega)])
        go_wp2
        exact ⟨⟨m / 10, dig m :: r, by go_num, str_step m r, hD', by omega⟩, by simp [intOf]; omega⟩
      · have hD' := Lib.hid (show dec a.natAbs = dig m :: r by rw [hD.out, decTo_lt (by omega)])
        go_wp2
        go_ret
        exact ⟨str_end0 m r (by omega) hD'.out, rfl⟩
end Go.Proofs.YtcdmmcogegnieaaGreatDoor.tx
end
section
/- Texts of integers: num's Print. -/
namespace Go.Proofs.YtcdmmcogegnieaaGreatDoor.tx
open Go.RowKit Go.Proofs.YtcdmmcogegnieaaGreatDoor.nm

theorem mag_neg {a : Int} (h : a < 0) (h2 : -9223372036854775808 ≤ a) : Ending.returned (.int .u64 (IntKind.u64.wrap (-IntKind.u64.wrap a))) = .returned (.int .u64 (a.natAbs : Nat)) := by
  rw [IntKind.wrap_u64, IntKind.wrap_u64]; congr 2; omega
theorem mag_pos {a : Int} (h : ¬ a < 0) : Ending.returned (.int .u64 a) = .returned (.int .u64 (a.natAbs : Nat)) := by
  congr 2; omega

/-- the digits that stand in the room, from place f on -/
structure Room (w : World) (B f : Nat) (r : List UInt8) (cur : Array Value) : Prop where
  block : w.heap[B]? = some (.cells cur 148 (0, 0))
  size : cur.size = 20
  get : ∀ i (h : i < r.length), cur[f + i]? = some (.int .u8 (r[i].toNat : Nat))
theorem Room.cell {w : World} {B f : Nat} {r : List UInt8} {cur : Array Value} (h : Room w B f r cur) (k : Nat) (hk : k < 20) : ∃ v, w.cell? ⟨B, k, none⟩ = some v := by
  rw [cell_of_row w B k cur _ _ h.block]
  exact ⟨cur[k]'(by rw [h.size]; exact hk), by simp [h.size, hk]⟩
theorem Room.free {w : World} {B f : Nat} {r : List UInt8} {cur : Array Value} (h : Room w B f r cur) (k : Nat) : w.frozen? ⟨B, k, none⟩ = false := frozen_of_row w B k cur _ h.block
theorem Room.store {w : World} {B k : Nat} {r : List UInt8} {cur : Array Value} (h : Room w B (k + 1) r cur) (hk : k < 20) (c : UInt8) {e : Int} (he : e = (c.toNat : Nat)) :
    Room (w.setCell ⟨B, k, none⟩ (.int .u8 e)) B k (c :: r) (cur.setIfInBounds k (.int .u8 e)) := by
  subst he
  refine ⟨heap_setCell_same w B k cur _ _ h.block, by simpa using h.size, fun i hi => ?_⟩
  cases i with
  | zero => simp [h.size, hk]
  | succ i =>
    have := h.get i (by simpa using hi)
    rw [Array.getElem?_setIfInBounds_ne (by omega), show k + (i + 1) = k + 1 + i from by omega, this]
    rfl
theorem room_start (w : World) : Room (w.alloc (.cells #[.int .u8 0, .int .u8 0, .int .u8 0, .int .u8 0, .int .u8 0, .int .u8 0, .int .u8 0, .int .u8 0, .int .u8 0, .int .u8 0, .int .u8 0, .int .u8 0, .int .u8 0, .int .u8 0, .int .u8 0, .int .u8 0, .int .u8 0, .int .u8 0, .int .u8 0, .int .u8 0] 148)) w.heap.size 20 [] #[.int .u8 0, .int .u8 0, .int .u8 0, .int .u8 0, .int .u8 0, .int .u8 0, .int .u8 0, .int .u8 0, .int .u8 0, .int .u8 0, .int .u8 0, .int .u8 0, .int .u8 0, .int .u8 0, .int .u8 0, .int .u8 0, .int .u8 0, .int .u8 0, .int .u8 0, .int .u8 0] :=
  ⟨heap_alloc_new _ _, rfl, fun _ hi => absurd hi (Nat.not_lt_zero _)⟩
set_option maxRecDepth 20000 in
theorem Room.conv {w : World} {B f : Nat} {r : List UInt8} {cur : Array Value} (h : Room w B f r cur) (hf : 20 - f = r.length) :
    (convert 35 9 (.slice (some ⟨B, f, none⟩) (20 - f) (20 - f))).run Tryz.prog w = .ok (.string (str r)) w := by
  have := run_convert_bytes_arg (P := Tryz.prog) w 35 5 Tryz.underlying35 Tryz.underlying5 B f (20 - f) (20 - f) (r.map fun c => (c.toNat : Int)) (by simp [hf]) (fun i hi => by
    rw [cell_of_row w B (f + i) cur _ _ h.block, h.get i (by omega)]
    simp [show i < r.length by omega]) 9 Tryz.underlying9
  rw [this]
  congr 2
  unfold strOfNums str
  simp only [List.map_map]
  rw [show ((fun n : Int => UInt8.ofNat n.toNat) ∘ fun c : UInt8 => (c.toNat : Int)) = id from funext fun c => by simp, List.map_id]
theorem slice_room (B q : Nat) (hq : q < 20) (w : World) :
    (Instr.sliceAt 148 (.pointer (some ⟨B, 0, none⟩)) (some (.int .i64 (q : Int))) none none).run Tryz.prog w = .ok (.slice (some ⟨B, q, none⟩) (20 - q) (20 - q)) w := by
  have hal : Tryz.prog.arrayLen 148 = 20 := by kernel_rfl
  have hel : Tryz.prog.elem 148 = 5 := by kernel_rfl
  have hsz : ∀ w, (sizeOf 5).run Tryz.prog w = .ok 1 w := fun _ => by kernel_rfl
  rw [run_sliceAt_array_l w 148 ⟨B, 0, none⟩ (by kernel_rfl) .i64 q (by omega) (by rw [hal]; omega), hel, hsz, hal]
  simp [Result.andThen, slicedAt, show ¬ (20 = q) from by omega, Addr.add]
  try omega

set_option maxRecDepth 20000 in
theorem magnitude_c (a : Int) (ha : Fit a) (w : World) :
    Calls Tryz.prog 125 #[.int .i64 a] w fun e w' => e = .returned (.int .u64 (a.natAbs : Nat)) ∧ w = w' := by
  unfold Fit at ha
  by_cases h0 : a < 0
  · go_enter Tryz.func125, Tryz.ntmps125
    go_wp2
    go_ret
    exact ⟨mag_neg h0 ha.1, rfl⟩
  · go_enter Tryz.func125, Tryz.ntmps125
    go_wp2
    go_ret
    exact ⟨mag_pos (by omega), rfl⟩

set_option maxRecDepth 20000 in
theorem print_c (a : Int) (ha : Fit a) (w : World) :
    Calls Tryz.prog 113 #[.int .i64 a] w fun e w' => e = .returned (.string (str (text a))) ∧ Below w.heap.size w w' := by
  have hN := Lib.hid (dec_len a.natAbs (by unfold Fit at ha; omega))
  have hm := magnitude_c a ha
  have hN2 : a.natAbs ≤ 9223372036854775808 := by unfold Fit at ha; omega
  go_enter Tryz.func113, Tryz.ntmps113
  go_wp2_with (go_at_call 125; refine (hm _).mono ?_; rintro e w' ⟨rfl, rfl⟩)
  go_loopw [4, 5, 8] (fun f n c wr => ∃ (k j m : Nat) (r : List UInt8) (cur : Array Value), f = .int .i64 k ∧ n = .int .u64 m ∧ c = .int .i64 j ∧ k + j ≤ 20 ∧ 20 ≤ k + j ∧ Hid (r.length = j) ∧ Hid (dec a.natAbs = decTo m r) ∧ m ≤ 9223372036854775808 ∧ Hid (Room wr w.heap.size k r cur) ∧ Below w.heap.size w wr) (fun _ _ c _ => 19 - (intOf c).toNat)
  case atStart =>
    exact ⟨20, 0, a.natAbs, [], _, rfl, rfl, rfl, by omega, by omega, Lib.hid rfl, Lib.hid rfl, hN2, Lib.hid (room_start w), by go_grown⟩
  case round =>
    obtain ⟨k, j, m, r, cur, rfl, rfl, rfl, hk1, hk2, hrl, hD, hm2, hR, hb⟩ := hrel
    have hj : j ≤ 18 := by
      have h1 := hN.out; rw [hD.out, decTo_append, List.length_append, hrl.out] at h1
      have h2 := dec_ne m
      rcases hd : dec m with _ | ⟨x, l⟩
      · exact absurd hd h2
      · rw [hd] at h1; simp at h1; omega
    obtain ⟨p, rfl⟩ : ∃ p, k = p + 2 := ⟨k - 2, by omega⟩
    obtain ⟨v0, c0⟩ := hR.out.cell (p + 1) (by omega)
    have f0 := hR.out.free (p + 1)
    have hR' := Lib.hid (hR.out.store (k := p + 1) (by omega) (dig m) (e := 48 + (m : Int) % 10) (by rw [dig_nat]; omega))
    by_cases h10 : m < 10
    · have hz : m / 10 = 0 := by omega
      have hD' := Lib.hid (show dec a.natAbs = dig m :: r by rw [hD.out, decTo_lt h10])
      have hln : (dec a.natAbs).length = r.length + 1 := by rw [hD'.out]; rfl
      by_cases h0 : a < 0
      · obtain ⟨v1, c1⟩ := hR.out.cell p (by omega)
        have f1 := hR.out.free p
        have hR2 := hR'.out.store (k := p) (by omega) 45 (e := 45) rfl
        rw [← hD'.out, ← text_neg h0] at hR2
        have hcv := hR2.conv (by rw [text_neg h0, List.length_cons, hln, hrl.out]; omega)
        have hsl : ∀ W, (Instr.sliceAt 148 (.pointer (some ⟨w.heap.size, 0, none⟩)) (some (.int .i64 ((p : Int) + 2 - 1 - 1))) none none).run Tryz.prog W = .ok (.slice (some ⟨w.heap.size, p, none⟩) (20 - p) (20 - p)) W := by
          rw [show ((p : Int) + 2 - 1 - 1) = (p : Nat) from by omega]; exact slice_room w.heap.size p (by omega)
        have hb2 : Below w.heap.size w (((wr.setCell ⟨w.heap.size, p + 1, none⟩ (.int .u8 (48 + (m : Int) % 10))).setCell ⟨w.heap.size, p, none⟩ (.int .u8 45))) := (hb.setCell (Nat.le_refl _) _).setCell (Nat.le_refl _) _
        clear hR2 hD hD' hln
        go_wp2
        go_ret
        exact ⟨rfl, hb2⟩
      · have hR2 := hR'.out
        rw [← hD'.out, ← text_pos h0] at hR2
        have hcv := hR2.conv (by rw [text_pos h0, hln, hrl.out]; omega)
        rw [show 20 - (p + 1) = 19 - p from by omega] at hcv
        have hsl : ∀ W, (Instr.sliceAt 148 (.pointer (some ⟨w.heap.size, 0, none⟩)) (some (.int .i64 ((p : Int) + 2 - 1))) none none).run Tryz.prog W = .ok (.slice (some ⟨w.heap.size, p + 1, none⟩) (19 - p) (19 - p)) W := by
          rw [show ((p : Int) + 2 - 1) = ((p + 1 : Nat) : Int) from by omega, show 19 - p = 20 - (p + 1) from by omega]; exact slice_room w.heap.size (p + 1) (by omega)
        have hb2 : Below w.heap.size w (wr.setCell ⟨w.heap.size, p + 1, none⟩ (.int .u8 (48 + (m : Int) % 10))) := hb.setCell (Nat.le_refl _) _
        clear hR2 hD hD' hln
        go_wp2
        go_ret
        exact ⟨rfl, hb2⟩
    · have hz : 0 < m / 10 := by omega
      have hD' := Lib.hid (show dec a.natAbs = decTo (m / 10) (dig m :: r) by rw [hD.out, decTo_ge h10])
      go_wp2
      exact ⟨⟨p + 1, j + 1, m / 10, dig m :: r, _, by go_num, by go_num, by go_num, by omega, by omega, Lib.hid (by rw [List.length_cons, hrl.out]), hD', by omega, hR', hb.setCell (Nat.le_refl _) _⟩, by simp [intOf]; omega⟩
end Go.Proofs.YtcdmmcogegnieaaGreatDoor.tx
end
section
/- Texts of integers: num's Parse. -/
namespace Go.Proofs.YtcdmmcogegnieaaGreatDoor.tx
open Go.RowKit Go.Proofs.YtcdmmcogegnieaaGreatDoor.nm

theorem str_list (l : List UInt8) : (str l).data.toList = l := rfl
theorem str_size (l : List UInt8) : (str l).size = l.length := rfl
theorem str_get (l : List UInt8) (k : Nat) (h : k < l.length) : PlainAid.bt (str l) k = (l[k].toNat : Nat) := by
  unfold PlainAid.bt; rw [dif_pos (show k < (str l).size from h)]; rfl
theorem bytes_str {s : ByteArray} {l : List UInt8} (h : s.data.toList = l) : s = str l := WideShapes.bytes_inj h
theorem ret_str {s t : ByteArray} (h : s = t) : Ending.returned (.string s) = .returned (.string t) := by rw [h]

theorem trim_yes (t : List UInt8) (ht : t.length ≤ 100000) (w : World) :
    Calls Tryz.prog 121 #[.string (str (45 :: t)), .string { data := #[45] }] w fun e w' => e = .returned (.string (str t)) ∧ w = w' := by
  have h1 : (str (45 :: t)).size = t.length + 1 := rfl
  have h2 := Lib.hid (show (str (45 :: t)).extract 1 (str (45 :: t)).size = str t from bytes_str (by rw [Lib.extract_to_end, str_list]; rfl))
  have h3 : (((str (45 :: t)).extract 0 1).toList == [45]) = true := by rw [ByteArray.toList_eq, Lib.extract_data, str_list]; rfl
  generalize str (45 :: t) = s at *
  have hb : 1 ≤ s.size ∧ s.size ≤ 200000 := by omega
  clear h1
  go_enter Tryz.func121, Tryz.ntmps121
  go_wp2
  go_ret
  exact ⟨ret_str h2.out, rfl⟩
theorem trim_no (l : List UInt8) (hl : l.length ≤ 100000) (h : ∀ t, l ≠ 45 :: t) (w : World) :
    Calls Tryz.prog 121 #[.string (str l), .string { data := #[45] }] w fun e w' => e = .returned (.string (str l)) ∧ w = w' := by
  cases l with
  | nil =>
    have h1 : (str []).size = 0 := rfl
    generalize str [] = s at *
    go_enter Tryz.func121, Tryz.ntmps121
    go_wp2
    go_ret
    exact ⟨rfl, rfl⟩
  | cons c t =>
    have hc : c ≠ 45 := fun e => h t (by rw [e])
    have h1 : (str (c :: t)).size = t.length + 1 := rfl
    have h3 : (((str (c :: t)).extract 0 1).toList == [45]) = false := by
      rw [ByteArray.toList_eq, Lib.extract_data, str_list]
      show ([c] == [45]) = false
      simp [hc]
    generalize str (c :: t) = s at *
    have hb : 1 ≤ s.size ∧ s.size ≤ 200000 := by simp at hl; omega
    clear h1 h
    go_enter Tryz.func121, Tryz.ntmps121
    go_wp2
    go_ret
    exact ⟨rfl, rfl⟩

/-- what reckon answers of a text -/
def Reck (l : List UInt8) (w w' : World) (e : Ending) : Prop :=
  ∃ (n : Int) (ok : Bool), e = .returned (.tuple #[.int .i64 n, .bool ok]) ∧ Fit n ∧ (∀ a, Fit a → text a = l → ok = true ∧ n = a) ∧ w = w'

theorem reckon_core (l t : List UInt8) (neg : Bool) (_hl : l.length ≤ 100000) (ht : t.length ≤ 100000) (hn : neg = decide (t.length < l.length))
    (hT : ∀ a, Fit a → text a = l → dec a.natAbs = t ∧ (a < 0 ↔ neg = true)) (w : World)
    (htr : ∀ w, Calls Tryz.prog 121 #[.string (str l), .string { data := #[45] }] w fun e w' => e = .returned (.string (str t)) ∧ w = w') :
    Calls Tryz.prog 112 #[.string (str l)] w fun e w' => Reck l w w' e := by
  have HT := Lib.hid hT
  have HN := Lib.hid hn
  clear hT hn
  have s1 : (str l).size = l.length := rfl
  have s2 : (str t).size = t.length := rfl
  have hgt := PlainAid.get_bt (str t)
  have hbt := fun k h => str_get t k h
  generalize str l = sl at *
  generalize str t = st at *
  go_enter Tryz.func112, Tryz.ntmps112
  go_wp2_with fail
  refine (htr _).mono ?_; rintro e w' ⟨rfl, rfl⟩
  clear htr
  go_wp2_with fail
  go_loop [5, 15] (fun n i => ∃ k V : Nat, i = .int .i64 k ∧ n = .int .i64 (-(V : Int)) ∧ k ≤ t.length ∧ V ≤ 9223372036854775808 ∧ Hid (valF (t.take k) 0 = V) ∧ Hid (Digs (t.take k))) (fun _ i => t.length - (intOf i).toNat)
  case atStart => exact ⟨0, 0, rfl, rfl, by omega, by omega, Lib.hid rfl, Lib.hid (fun c hc => nomatch hc)⟩
  case round =>
    obtain ⟨k, V, rfl, rfl, hk, hV, hv, hd⟩ := hrel
    by_cases hkt : k < t.length
    · have hc := hbt k hkt
      have hs := Lib.hid (show t.take (k + 1) = t.take k ++ [t[k]] from List.take_succ_eq_append_getElem hkt)
      have hmem := Lib.hid (List.getElem_mem hkt)
      have hc2 := t[k].toNat_lt
      have hsp : Hid (t = t.take (k + 1) ++ t.drop (k + 1)) := Lib.hid (List.take_append_drop ..).symm
      generalize t[k] = ck at *
      generalize hcn : ck.toNat = c at *
      have Hcn := Lib.hid hcn
      clear hcn hbt
      have hbad : Hid (¬ (48 ≤ c ∧ c ≤ 57) → ∀ a, Fit a → text a = l → False) := Lib.hid fun hn a ha hta => by
        have h1 := digs_dec a.natAbs ck (by rw [(HT.out a ha hta).1]; exact hmem.out)
        rw [Hcn.out] at h1; exact hn h1
      by_cases h1 : c < 48
      · go_wp2
        go_ret2
        exact ⟨0, false, rfl, by unfold Fit; omega, fun a ha hta => (hbad.out (by omega) a ha hta).elim, rfl⟩
      · by_cases h2 : 57 < c
        · go_wp2
          go_ret2
          exact ⟨0, false, rfl, by unfold Fit; omega, fun a ha hta => (hbad.out (by omega) a ha hta).elim, rfl⟩
        · have hv' := Lib.hid (show valF (t.take (k + 1)) 0 = 10 * V + (c - 48) by rw [hs.out, valF_append, hv.out, valF_cons, valF_nil, Hcn.out])
          have hd' := Lib.hid (show Digs (t.take (k + 1)) by
            rw [hs.out]; intro x hx
            rcases List.mem_append.1 hx with hx | hx
            · exact hd.out x hx
            · rw [List.mem_singleton.1 hx, Hcn.out]; omega)
          have hbig : Hid (9223372036854775808 < 10 * V + (c - 48) → ∀ a, Fit a → text a = l → False) := Lib.hid fun hn a ha hta => by
            have h3 := val_dec a.natAbs
            rw [(HT.out a ha hta).1, hsp.out, valF_append, hv'.out] at h3
            have h4 := valF_mono (t.drop (k + 1)) (10 * V + (c - 48))
            unfold Fit at ha; omega
          clear hv hd hs hbad
          by_cases f1 : 10 * V ≤ 9223372036854775808
          · have m1 : Fit (-(V : Int) * 10) := by unfold Fit; omega
            have k1 := mul_c (-(V : Int)) 10 (by unfold Fit; omega) (by unfold Fit; omega)
            rw [val_of m1, err_of m1] at k1
            by_cases f2 : 10 * V + (c - 48) ≤ 9223372036854775808
            · have m2 : Fit (-(V : Int) * 10 - ((c : Int) - 48)) := by unfold Fit; omega
              have k2 := sub_c (-(V : Int) * 10) ((c : Int) - 48) m1 (by unfold Fit; omega)
              rw [val_of m2, err_of m2] at k2
              clear m1 m2
              go_wp2_with (first | (go_at_call 122; refine (k1 _).mono ?_; rintro e w' ⟨rfl, rfl⟩) | (go_at_call 123; refine (k2 _).mono ?_; rintro e w' ⟨rfl, rfl⟩))
              exact ⟨⟨k + 1, 10 * V + (c - 48), by go_num, by go_num, by omega, f2, hv', hd'⟩, by simp [intOf]; omega⟩
            · have m2 : ¬ Fit (-(V : Int) * 10 - ((c : Int) - 48)) := by unfold Fit; omega
              have k2 := sub_c (-(V : Int) * 10) ((c : Int) - 48) m1 (by unfold Fit; omega)
              rw [val_no m2, err_no m2] at k2
              clear m1 m2
              go_wp2_with (first | (go_at_call 122; refine (k1 _).mono ?_; rintro e w' ⟨rfl, rfl⟩) | (go_at_call 123; refine (k2 _).mono ?_; rintro e w' ⟨rfl, rfl⟩))
              go_ret2
              exact ⟨0, false, rfl, by unfold Fit; omega, fun a ha hta => (hbig.out (by omega) a ha hta).elim, rfl⟩
          · have m1 : ¬ Fit (-(V : Int) * 10) := by unfold Fit; omega
            have k1 := mul_c (-(V : Int)) 10 (by unfold Fit; omega) (by unfold Fit; omega)
            rw [val_no m1, err_no m1] at k1
            clear m1
            go_wp2_with (go_at_call 122; refine (k1 _).mono ?_; rintro e w' ⟨rfl, rfl⟩)
            go_ret2
            exact ⟨0, false, rfl, by unfold Fit; omega, fun a ha hta => (hbig.out (by omega) a ha hta).elim, rfl⟩
    · obtain rfl : k = t.length := by omega
      have hv2 := Lib.hid (show valF t 0 = V by have := hv.out; rwa [List.take_length] at this)
      have hval : Hid (∀ a, Fit a → text a = l → a.natAbs = V) := Lib.hid fun a ha hta => by
        have := val_dec a.natAbs; rw [(HT.out a ha hta).1, hv2.out] at this; exact this.symm
      clear hv hd hbt hgt
      by_cases hlt : t.length < l.length
      · have hn : neg = true := by rw [HN.out]; simp [hlt]
        have Hn := Lib.hid hn
        clear hn
        go_wp2
        go_ret2
        exact ⟨-(V : Int), true, rfl, by unfold Fit; omega, fun a ha hta => ⟨rfl, by
          have h1 := ((HT.out a ha hta).2).2 Hn.out
          have h2 := hval.out a ha hta
          omega⟩, rfl⟩
      · have hn : neg = false := by rw [HN.out]; simp [hlt]
        have Hn := Lib.hid hn
        clear hn
        have hneg : Hid (∀ a, Fit a → text a = l → a = (V : Int)) := Lib.hid fun a ha hta => by
          have h1 := (HT.out a ha hta).2
          rw [Hn.out] at h1
          have h2 := hval.out a ha hta
          have h3 : ¬ a < 0 := fun c => by simpa using h1.1 c
          omega
        have k1 := neg_c (-(V : Int)) (by unfold Fit; omega)
        rw [Int.neg_neg] at k1
        by_cases hf : Fit (V : Int)
        · rw [val_of hf, err_of hf] at k1
          have Hf := Lib.hid hf
          clear hf
          go_wp2_with (go_at_call 124; refine (k1 _).mono ?_; rintro e w' ⟨rfl, rfl⟩)
          go_ret2
          exact ⟨V, true, rfl, Hf.out, fun a ha hta => ⟨rfl, (hneg.out a ha hta).symm⟩, rfl⟩
        · rw [val_no hf, err_no hf] at k1
          have Hf := Lib.hid hf
          clear hf
          go_wp2_with (go_at_call 124; refine (k1 _).mono ?_; rintro e w' ⟨rfl, rfl⟩)
          go_ret2
          exact ⟨0, false, rfl, by unfold Fit; omega, fun a ha hta => by
            have := hneg.out a ha hta; rw [this] at ha; exact (Hf.out ha).elim, rfl⟩

theorem reckon_c (l : List UInt8) (hl : l.length ≤ 8192) (w : World) :
    Calls Tryz.prog 112 #[.string (str l)] w fun e w' => Reck l w w' e := by
  by_cases h : ∃ t, l = 45 :: t
  · obtain ⟨t, rfl⟩ := h
    simp at hl
    refine reckon_core (45 :: t) t true (by simp; omega) (by omega) (by simp) (fun a _ hta => ?_) w (trim_yes t (by omega))
    by_cases ha : a < 0
    · rw [text_neg ha] at hta; exact ⟨(List.cons.inj hta).2, by simp [ha]⟩
    · rw [text_pos ha] at hta; exact absurd rfl (dec_head hta)
  · refine reckon_core l l false (by omega) (by omega) (by simp) (fun a _ hta => ?_) w (trim_no l (by omega) fun t ht => h ⟨t, ht⟩)
    by_cases ha : a < 0
    · rw [text_neg ha] at hta; exact absurd ⟨_, hta.symm⟩ h
    · rw [text_pos ha] at hta; exact ⟨hta, by simp [ha]⟩

/-- num's Parse -/
theorem parse_c (l : List UInt8) (hl : l.length ≤ 8192) (w : World) :
    Calls Tryz.prog 101 #[.string (str l)] w fun e w' => e = .returned (.tuple #[.int .i64 (parseV l), .int .i64 (parseE l)]) ∧ Below w.heap.size w w' := by
  have rc := reckon_c l hl
  have hid := Lib.hid hl
  generalize hsl : str l = sl at *
  have Hsl := Lib.hid hsl
  clear hsl hl
  go_enter Tryz.func101, Tryz.ntmps101
  go_wp2_with fail
  refine (rc _).mono ?_; rintro e w' ⟨n, ok, rfl, hf, ha, rfl⟩
  have Ha := Lib.hid ha
  clear ha
  cases ok
  · have hp := Lib.hid (parse_no (s := l) fun a h1 h2 => by simpa using (Ha.out a h1 h2).1)
    go_wp2
    go_ret2
    exact ⟨ret2 hp.out.1.symm hp.out.2.symm, Below.refl _ _⟩
  · have pc := print_c n hf
    by_cases he : text n = l
    · have hp := Lib.hid (parse_yes hf he)
      have t1 : ((str (text n)).toList == sl.toList) = true := by rw [he, Hsl.out]; simp
      go_wp2_with fail
      refine (pc _).mono ?_; rintro e w1 ⟨rfl, b1⟩
      generalize str (text n) = st at *
      go_wp2_with fail
      go_ret2
      exact ⟨ret2 hp.out.1.symm hp.out.2.symm, b1⟩
    · have hp := Lib.hid (parse_no (s := l) fun a h1 h2 => he (by rw [(Ha.out a h1 h2).2]; exact h2))
      have t1 : ((str (text n)).toList == sl.toList) = false := by
        rw [← Hsl.out, ByteArray.toList_eq, ByteArray.toList_eq, str_list, str_list]; simpa using he
      go_wp2_with fail
      refine (pc _).mono ?_; rintro e w1 ⟨rfl, b1⟩
      generalize str (text n) = st at *
      go_wp2_with fail
      go_ret2
      exact ⟨ret2 hp.out.1.symm hp.out.2.symm, b1⟩

def two64 : Nat := 18446744073709551616
/-- the digits alone, round 2^64 -/
def valM (l : List UInt8) : Nat := l.foldl (fun n c => if 48 ≤ c.toNat ∧ c.toNat ≤ 57 then (10 * n + (c.toNat - 48)) % two64 else n) 0
theorem valM_snoc (l : List UInt8) (c : UInt8) : valM (l ++ [c]) = if 48 ≤ c.toNat ∧ c.toNat ≤ 57 then (10 * valM l + (c.toNat - 48)) % two64 else valM l := by
  unfold valM; rw [List.foldl_append]; rfl

theorem wrap_step {m c : Nat} (h : 48 ≤ c) : Value.int .u64 (IntKind.u64.wrap (IntKind.u64.wrap ((m : Int) * 10) + ((c : Int) - 48))) = .int .u64 (((10 * m + (c - 48)) % two64 : Nat) : Int) := by
  rw [IntKind.wrap_u64, IntKind.wrap_u64]; unfold two64; congr 1; omega
theorem valM_digs (l : List UInt8) : ∀ n, Digs l → valF l n < two64 → l.foldl (fun n c => if 48 ≤ c.toNat ∧ c.toNat ≤ 57 then (10 * n + (c.toNat - 48)) % two64 else n) n = valF l n := by
  induction l with
  | nil => intro n _ _; rw [List.foldl_nil, valF_nil]
  | cons c l ih =>
    intro n hd hv
    have h1 := hd c (List.mem_cons_self ..)
    rw [valF_cons] at hv ⊢
    have h2 := valF_mono l (10 * n + (c.toNat - 48))
    rw [List.foldl_cons, if_pos h1, Nat.mod_eq_of_lt (by omega)]
    exact ih _ (fun x hx => hd x (List.mem_cons_of_mem _ hx)) hv
theorem valM_dec {n : Nat} (h : n < two64) : valM (dec n) = n := by
  unfold valM; rw [valM_digs _ _ (digs_dec n) (by rw [val_dec]; exact h), val_dec]
theorem valM_neg (t : List UInt8) : valM (45 :: t) = valM t := by unfold valM; rw [List.foldl_cons]; rfl
theorem parse_m1 {l : List UInt8} {m : Nat} (hv : valM l = m) {r : List UInt8} (hl : l = 45 :: r) : ∀ a, Fit a → text a = l → wrap64 (-wrap64 (m : Int)) = a := by
  intro a ha hta
  by_cases h0 : a < 0
  · rw [text_neg h0] at hta
    have : m = a.natAbs := by rw [← hv, ← hta, valM_neg, valM_dec (by unfold two64; unfold Fit at ha; omega)]
    subst this
    unfold Fit at ha; unfold wrap64; omega
  · rw [text_pos h0, hl] at hta; exact absurd rfl (dec_head hta)
theorem parse_m0 {l : List UInt8} {m : Nat} (hv : valM l = m) {c : UInt8} {r : List UInt8} (hl : l = c :: r) (hc : c ≠ 45) : ∀ a, Fit a → text a = l → wrap64 (m : Int) = a := by
  intro a ha hta
  by_cases h0 : a < 0
  · rw [text_neg h0, hl] at hta; exact absurd (List.cons.inj hta).1.symm hc
  · rw [text_pos h0] at hta
    have : m = a.natAbs := by rw [← hv, ← hta, valM_dec (by unfold two64; unfold Fit at ha; omega)]
    subst this
    unfold Fit at ha; unfold wrap64; omega

set_option maxRecDepth 100000 in
/-- the reference's Parse -/
theorem parse_r (l : List UInt8) (hl : l.length ≤ 8192) (w : World) :
    Calls Tryz.prog 70 #[.string (str l)] w fun e w' => e = .returned (.tuple #[.int .i64 (parseV l), .int .i64 (parseE l)]) ∧ w = w' := by
  have s1 : (str l).size = l.length := rfl
  by_cases h1 : l.length < 1
  · have hp := Lib.hid (parse_no (s := l) fun a ha h => by have := text_len ha; rw [h] at this; omega)
    generalize str l = sl at *
    go_enter Tryz.func70, Tryz.ntmps70
    go_wp2
    go_ret2
    exact ⟨ret2 hp.out.1.symm hp.out.2.symm, rfl⟩
  · by_cases h2 : 20 < l.length
    · have hp := Lib.hid (parse_no (s := l) fun a ha h => by have := text_len ha; rw [h] at this; omega)
      generalize str l = sl at *
      go_enter Tryz.func70, Tryz.ntmps70
      go_wp2
      go_ret2
      exact ⟨ret2 hp.out.1.symm hp.out.2.symm, rfl⟩
    · have hgt := PlainAid.get_bt (str l)
      have hbt := fun k h => str_get l k h
      generalize hsl : str l = sl at *
      have Hsl := Lib.hid hsl
      clear hsl
      go_enter Tryz.func70, Tryz.ntmps70
      go_wp2
      go_loop [4, 5] (fun n i => ∃ k m : Nat, i = .int .i64 k ∧ n = .int .u64 m ∧ k ≤ l.length ∧ m < two64 ∧ Hid (valM (l.take k) = m)) (fun _ i => l.length - (intOf i).toNat)
      case atStart => exact ⟨0, 0, rfl, rfl, by omega, by unfold two64; omega, Lib.hid rfl⟩
      case round =>
        obtain ⟨k, m, rfl, rfl, hk, hm, hv⟩ := hrel
        by_cases hkl : k < l.length
        · have hc := hbt k hkl
          have hs := Lib.hid (show l.take (k + 1) = l.take k ++ [l[k]] from List.take_succ_eq_append_getElem hkl)
          have hc2 := l[k].toNat_lt
          generalize l[k] = ck at *
          generalize hcn : ck.toNat = c at *
          have Hcn := Lib.hid hcn
          clear hcn hbt
          by_cases h1 : 48 ≤ c
          · by_cases h2 : c ≤ 57
            · have hv' := Lib.hid (show valM (l.take (k + 1)) = (10 * m + (c - 48)) % two64 by rw [hs.out, valM_snoc, hv.out, Hcn.out, if_pos ⟨h1, h2⟩])
              go_wp2
              exact ⟨⟨k + 1, (10 * m + (c - 48)) % two64, by go_num, wrap_step h1, by omega, Nat.mod_lt _ (by unfold two64; omega), hv'⟩, by simp [intOf]; omega⟩
            · have hv' := Lib.hid (show valM (l.take (k + 1)) = m by rw [hs.out, valM_snoc, hv.out, Hcn.out, if_neg (by omega)])
              go_wp2
              exact ⟨⟨k + 1, m, by go_num, rfl, by omega, hm, hv'⟩, by simp [intOf]; omega⟩
          · have hv' := Lib.hid (show valM (l.take (k + 1)) = m by rw [hs.out, valM_snoc, hv.out, Hcn.out, if_neg (by omega)])
            go_wp2
            exact ⟨⟨k + 1, m, by go_num, rfl, by omega, hm, hv'⟩, by simp [intOf]; omega⟩
        · obtain rfl : k = l.length := by omega
          have hv2 := Lib.hid (show valM l = m by have := hv.out; rwa [List.take_length] at this)
          have hc := hbt 0 (by omega)
          have l0 := Lib.hid (show l = l[0] :: l.drop 1 by rw [List.getElem_cons_drop]; rfl)
          have hc2 := l[0].toNat_lt
          by_cases h45 : l[0] = 45
          · rw [h45] at hc l0
            have hc' : PlainAid.bt sl 0 = 45 := hc
            have hA := Lib.hid (parse_m1 hv2.out l0.out)
            have hpr := print_r (wrap64 (-wrap64 (m : Int))) (wrap_is_fit _) 
            by_cases he : text (wrap64 (-wrap64 (m : Int))) = l
            · have hp := Lib.hid (parse_yes (wrap_is_fit _) he)
              have t1 : ((str (text (wrap64 (-wrap64 (m : Int))))).toList == sl.toList) = true := by rw [he, Hsl.out]; simp
              generalize str (text (wrap64 (-wrap64 (m : Int)))) = st at *
              clear he hv
              go_wp2_with (go_at_call 13; refine (hpr _).mono ?_; rintro e w' ⟨rfl, rfl⟩)
              go_ret2
              exact ⟨ret2 hp.out.1.symm hp.out.2.symm, rfl⟩
            · have hp := Lib.hid (parse_no (s := l) fun a h1 h2 => he (by rw [hA.out a h1 h2]; exact h2))
              have t1 : ((str (text (wrap64 (-wrap64 (m : Int))))).toList == sl.toList) = false := by
                rw [← Hsl.out, ByteArray.toList_eq, ByteArray.toList_eq, str_list, str_list]; simpa using he
              generalize str (text (wrap64 (-wrap64 (m : Int)))) = st at *
              clear he hv
              go_wp2_with (go_at_call 13; refine (hpr _).mono ?_; rintro e w' ⟨rfl, rfl⟩)
              go_ret2
              exact ⟨ret2 hp.out.1.symm hp.out.2.symm, rfl⟩
          · have hne : l[0].toNat ≠ 45 := fun h => h45 (UInt8.toNat_inj.1 h)
            generalize hcn : l[0].toNat = c at *
            have t45 : ((c : Int) == 45) = false := by simp; omega
            have hA := Lib.hid (parse_m0 hv2.out l0.out h45)
            have hpr := print_r (wrap64 (m : Int)) (wrap_is_fit _) 
            by_cases he : text (wrap64 (m : Int)) = l
            · have hp := Lib.hid (parse_yes (wrap_is_fit _) he)
              have t1 : ((str (text (wrap64 (m : Int)))).toList == sl.toList) = true := by rw [he, Hsl.out]; simp
              generalize str (text (wrap64 (m : Int))) = st at *
              clear he hv
              go_wp2_with (go_at_call 13; refine (hpr _).mono ?_; rintro e w' ⟨rfl, rfl⟩)
              go_ret2
              exact ⟨ret2 hp.out.1.symm hp.out.2.symm, rfl⟩
            · have hp := Lib.hid (parse_no (s := l) fun a h1 h2 => he (by rw [hA.out a h1 h2]; exact h2))
              have t1 : ((str (text (wrap64 (m : Int)))).toList == sl.toList) = false := by
                rw [← Hsl.out, ByteArray.toList_eq, ByteArray.toList_eq, str_list, str_list]; simpa using he
              generalize str (text (wrap64 (m : Int))) = st at *
              clear he hv
              go_wp2_with (go_at_call 13; refine (hpr _).mono ?_; rintro e w' ⟨rfl, rfl⟩)
              go_ret2
              exact ⟨ret2 hp.out.1.symm hp.out.2.symm, rfl⟩

end Go.Proofs.YtcdmmcogegnieaaGreatDoor.tx
end
