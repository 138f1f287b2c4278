/- Quoted atoms: the scanner's quoted. -/
import Derived.Test.YtdcggedggngpoaaScanQ
namespace Go.Proofs.Ytdcggedggngpoaa.lx
open Go.RowKit

/-- the machine in quotes that began at n comes from n + 1 on to what it comes to at m with the text acc -/
def Quo (s : ByteArray) (n m : Nat) (acc : List UInt8) : Prop := ∀ M ts, ans M (s.data.toList.drop (n + 1)) ts (n + 1) (.quo n []) = ans M (s.data.toList.drop m) ts m (.quo n acc)
def QuoOk (s : ByteArray) (n m : Nat) (acc : List UInt8) : Prop := ∀ M ts, ans M (s.data.toList.drop (n + 1)) ts (n + 1) (.quo n []) = ans M (s.data.toList.drop m) (ts ++ [⟨1, acc, n, m⟩]) m .btw
def QuoBad (s : ByteArray) (n p k : Nat) : Prop := ∀ M ts, ans M (s.data.toList.drop (n + 1)) ts (n + 1) (.quo n []) = .bad p k
def QuoP (B c : Nat) (s : ByteArray) (v : Value) (ts : List Tok) (n : Nat) (w : World) (e : Ending) (w' : World) : Prop :=
  Kp c w w' ∧ ((∃ m acc, e = .returned (.string ⟨acc.toArray⟩) ∧ Sc B c s m v ts w' ∧ n < m ∧ m ≤ s.size ∧ QuoOk s n m acc) ∨ (∃ p k, e = Wrong p k ∧ QuoBad s n p k))

theorem drop2 {s : ByteArray} {m : Nat} (h : m + 1 < s.size) : s.data.toList.drop m = bA s m :: bA s (m + 1) :: s.data.toList.drop (m + 2) := by
  rw [drop_bA (by omega), drop_bA h]
theorem drop1 {s : ByteArray} {m : Nat} (h : m + 1 = s.size) : s.data.toList.drop m = [bA s m] := by
  rw [drop_bA (by omega), drop_end (k := m + 1) (by omega)]

set_option maxRecDepth 100000 in
set_option maxHeartbeats 4000000 in
theorem quoted_c {B c n : Nat} {s : ByteArray} {v : Value} {ts : List Tok} {w : World} (h : Sc B c s n v ts w) (hn : n < s.size) (hs : s.size ≤ 4096) :
    Calls Try.prog 37 #[.pointer (some ⟨c, 0, none⟩)] w (QuoP B c s v ts n w) := by
  have hcK := h.lt
  have hvK : Hid (∀ g, v.ownBlock = some g → g < w.heap.size) := Lib.hid fun g hg => ((World.ownsRow.lt h.row) g hg).2
  have c1 := h.c1
  have f1 := h.free 1
  have c1' : (w.alloc (.cells #[.pointer none, .slice none 0 0] 50)).cell? ⟨c, 1, none⟩ = some (.int .i64 (n : Nat)) := (h.alloc _).c1
  have f1' : (w.alloc (.cells #[.pointer none, .slice none 0 0] 50)).frozen? ⟨c, 1, none⟩ = false := (h.alloc _).free 1
  have hz : (w.setCell ⟨c, 1, none⟩ (.int .i64 ((n : Int) + 1))).heap.size = w.heap.size := by simp [World.setCell]
  have hS0 := Lib.hid ((h.move (n + 1) (e := (n : Int) + 1) (by omega)).alloc (.cells #[.pointer none, .slice none 0 0] 50))
  have hK0 := Lib.hid (((Kp.refl c w).set 1 (.int .i64 ((n : Int) + 1))).alloc (.cells #[.pointer none, .slice none 0 0] 50))
  have hB0 := bl_new (w.setCell ⟨c, 1, none⟩ (.int .i64 ((n : Int) + 1)))
  rw [hz] at hB0
  have hB1 := Lib.hid hB0
  clear hB0 hz
  clear h
  have hgt := get_bA s
  go_enter Try.func37, Try.ntmps37
  go_wp2
  clear c1 f1 c1' f1'
  go_loopg [] (s.size - (n + 1)) (fun k wr => ∃ (m : Nat) (acc : List UInt8), k = s.size - m ∧ m ≤ s.size ∧ n < m ∧ acc.length ≤ m ∧ Hid (Quo s n m acc) ∧ Hid (Sc B c s m v ts wr) ∧ Hid (Kp c w wr) ∧ Hid (Bl w.heap.size w.heap.size acc wr))
  case atStart => exact ⟨n + 1, [], rfl, by omega, by omega, by simp, Lib.hid (fun _ _ => rfl), hS0, hK0, hB1⟩
  case round =>
    obtain ⟨m, acc, hgk, hm, hnm, hal, hj, hS, hK, hBl⟩ := hrel
    have c0 := hS.out.c0
    have c1 := hS.out.c1
    have f1 := hS.out.free 1
    have hmm : (m : Int) ≤ s.size := by omega
    by_cases hlt : m < s.size
    · have hlt2 : (m : Int) < s.size := by omega
      go_wp2
      go_quiet (fail)
      go_wp2
      go_quiet (fail)
      generalize hw2 : World.drewN (World.drewN wr _) _ = w2
      have hS2 := Lib.hid (show Sc B c s m v ts w2 by rw [← hw2]; exact (hS.out.drew _).drew _)
      have hK2 := Lib.hid (show Kp c w w2 by rw [← hw2]; exact (hK.out.drew _).drew _)
      have hBl2 := Lib.hid (show Bl w.heap.size w.heap.size acc w2 by rw [← hw2]; exact hBl.out.kp ((Kp.refl c wr).drew _ |>.drew _) hcK)
      clear hw2 c0 c1 f1 hS hK hBl
      have c1 := hS2.out.c1
      have f1 := hS2.out.free 1
      have hd := Lib.hid (drop_bA hlt)
      by_cases h39 : (bA s m).toNat = 39
      · obtain ⟨a1, a2⟩ := ieq_yes (a := (bA s m).toNat) 39 (by omega)
        have e39 := Lib.hid (show bA s m = 39 from UInt8.toNat_inj.1 (by rw [h39]; rfl))
        clear h39
        have kb := behindIs_c hS2.out hlt hs 39
        cases hb : (decide (m + 1 < s.size) && (bA s (m + 1)).toNat == 39) <;> rw [hb] at kb
        · have hq := Lib.hid (show QuoOk s n (m + 1) acc from fun M ts' => by
            rw [hj.out M ts', hd.out, e39.out, ans_q_end]
            intro b r hbr e
            subst e
            by_cases h3 : m + 1 < s.size
            · rw [drop_bA h3] at hbr
              rw [(List.cons.inj hbr).1] at hb
              simp [h3] at hb
            · rw [drop_end (k := m + 1) (by omega)] at hbr; cases hbr)
          clear hb
          have hS3 := Lib.hid (hS2.out.move (m + 1) (e := (m : Int) + 1) (by omega))
          have hK3 := Lib.hid (hK2.out.set 1 (.int .i64 ((m : Int) + 1)))
          have hBl3 := Lib.hid (hBl2.out.kp ((Kp.refl c w2).set 1 (.int .i64 ((m : Int) + 1))) hcK)
          go_wp2_with (go_at_call 44; refine kb.mono ?_; rintro e w' ⟨rfl, rfl⟩)
          refine (bString_c w.heap.size w.heap.size acc _ hBl3.out hK3.out.size).mono ?_
          rintro e w4 ⟨rfl, hb4⟩
          go_wp2
          go_ret
          exact ⟨hK3.out.on hb4 (Nat.le_refl _), .inl ⟨m + 1, acc, rfl, hS3.out.on hb4 hcK hvK.out, by omega, by omega, hq.out⟩⟩
        · have hlt3 : m + 1 < s.size := by simp at hb; exact hb.1
          have hq := Lib.hid (show Quo s n (m + 2) (acc ++ [bA s m]) from fun M ts' => by
            simp only [Bool.and_eq_true, decide_eq_true_eq, beq_iff_eq] at hb
            have e2 : bA s (m + 1) = 39 := UInt8.toNat_inj.1 (by rw [hb.2]; rfl)
            rw [hj.out M ts', drop2 hlt3, e39.out, e2, ans_q_two])
          clear hb
          have hS3 := Lib.hid (hS2.out.move (m + 1) (e := (m : Int) + 1) (by omega))
          have hK3 := Lib.hid (hK2.out.set 1 (.int .i64 ((m : Int) + 1)))
          have hBl3 := Lib.hid (hBl2.out.kp ((Kp.refl c w2).set 1 (.int .i64 ((m : Int) + 1))) hcK)
          go_wp2_with (go_at_call 44; refine kb.mono ?_; rintro e w' ⟨rfl, rfl⟩)
          refine (writeByte_c w.heap.size w.heap.size acc (bA s m) _ hBl3.out (by omega) (by have := hK3.out.size; simpa using this)).mono ?_
          rintro e w4 ⟨rfl, hBl4, hb4⟩
          have hS4 := Lib.hid (hS3.out.on hb4 hcK hvK.out)
          have hK4 := Lib.hid (hK3.out.on hb4 (Nat.le_refl _))
          have hBl5 := Lib.hid hBl4
          clear hBl4 hb4
          have c1 := hS4.out.c1
          have f1 := hS4.out.free 1
          go_wp2
          go_roundg (s.size - (m + 2))
          case measure => omega
          case rel => exact ⟨m + 2, acc ++ [bA s m], rfl, by omega, by omega, by simp; omega, hq, Lib.hid (hS4.out.move (m + 2) (by omega)), Lib.hid (hK4.out.set 1 _), Lib.hid (hBl5.out.kp ((Kp.refl c _).set 1 _) hcK)⟩
      have n39 := Lib.hid (show bA s m ≠ 39 from fun e => h39 (by rw [e]; rfl))
      obtain ⟨a1, a2⟩ := ieq_no (a := (bA s m).toNat) 39 (by omega)
      clear h39
      by_cases h92 : (bA s m).toNat = 92
      · obtain ⟨b1, b2⟩ := ieq_yes (a := (bA s m).toNat) 92 (by omega)
        have e92 := Lib.hid (show bA s m = 92 from UInt8.toNat_inj.1 (by rw [h92]; rfl))
        clear h92
        by_cases hend : m + 1 = s.size
        · have ke := escaped_end (f := n) hS2.out hs hend
          unfold Wrong at ke
          have hq := Lib.hid (show QuoBad s n n 31 from fun M ts' => by rw [hj.out M ts', drop1 hend, e92.out]; rfl)
          clear hend
          go_wp2_with (go_at_call 45; (with_reducible refine ke.mono ?_); rintro e w' ⟨rfl, rfl⟩)
          exact ⟨rfl, hK2.out, .inr ⟨n, 31, rfl, hq.out⟩⟩
        · have hlt3 : m + 1 < s.size := by omega
          have ke := escaped_c (f := n) hS2.out hs hlt3
          clear hend
          cases ho : escOk (bA s (m + 1))
          · have hE : escE (bA s (m + 1)) m = Wrong m 32 := by unfold escE; rw [if_neg (by rw [ho]; decide)]
            rw [hE] at ke
            unfold Wrong at ke
            have hq := Lib.hid (show QuoBad s n m 32 from fun M ts' => by rw [hj.out M ts', drop2 hlt3, e92.out, ans_q_esc, if_neg (by rw [ho]; decide)])
            clear hE ho
            go_wp2_with (go_at_call 45; (with_reducible refine ke.mono ?_); rintro e w' ⟨rfl, rfl⟩)
            exact ⟨rfl, hK2.out, .inr ⟨m, 32, rfl, hq.out⟩⟩
          · have hE : escE (bA s (m + 1)) m = .returned (.int .u8 ((escV (bA s (m + 1))).toNat : Nat)) := by unfold escE; rw [if_pos ho]
            rw [hE] at ke
            have hq := Lib.hid (show Quo s n (m + 2) (acc ++ [escV (bA s (m + 1))]) from fun M ts' => by rw [hj.out M ts', drop2 hlt3, e92.out, ans_q_esc, if_pos ho])
            clear hE ho
            have hS3 := Lib.hid (hS2.out.move (m + 1) (e := (m : Int) + 1) (by omega))
            have hK3 := Lib.hid (hK2.out.set 1 (.int .i64 ((m : Int) + 1)))
            have hBl3 := Lib.hid (hBl2.out.kp ((Kp.refl c w2).set 1 (.int .i64 ((m : Int) + 1))) hcK)
            go_wp2_with (go_at_call 45; (with_reducible refine ke.mono ?_); rintro e w' ⟨rfl, rfl⟩)
            refine (writeByte_c w.heap.size w.heap.size acc (escV (bA s (m + 1))) _ hBl3.out (by omega) (by have := hK3.out.size; simpa using this)).mono ?_
            rintro e w4 ⟨rfl, hBl4, hb4⟩
            have hS4 := Lib.hid (hS3.out.on hb4 hcK hvK.out)
            have hK4 := Lib.hid (hK3.out.on hb4 (Nat.le_refl _))
            have hBl5 := Lib.hid hBl4
            clear hBl4 hb4
            have c1 := hS4.out.c1
            have f1 := hS4.out.free 1
            go_wp2
            go_roundg (s.size - (m + 2))
            case measure => omega
            case rel => exact ⟨m + 2, acc ++ [escV (bA s (m + 1))], rfl, by omega, by omega, by simp; omega, hq, Lib.hid (hS4.out.move (m + 2) (by omega)), Lib.hid (hK4.out.set 1 _), Lib.hid (hBl5.out.kp ((Kp.refl c _).set 1 _) hcK)⟩
      have n92 := Lib.hid (show bA s m ≠ 92 from fun e => h92 (by rw [e]; rfl))
      obtain ⟨b1, b2⟩ := ieq_no (a := (bA s m).toNat) 92 (by omega)
      clear h92
      by_cases h32 : (bA s m).toNat < 32
      · have hq := Lib.hid (show QuoBad s n m 30 from fun M ts' => by rw [hj.out M ts', hd.out, ans_q_bad M n _ _ _ _ _ n39.out n92.out (.inl h32)])
        have t1 : (((bA s m).toNat : Nat) : Int) < 32 := by omega
        clear h32
        go_wp2
        exact ⟨rfl, hK2.out, .inr ⟨m, 30, rfl, hq.out⟩⟩
      have t1 : ¬ ((((bA s m).toNat : Nat) : Int) < 32) := by omega
      by_cases h126 : 126 < (bA s m).toNat
      · have hq := Lib.hid (show QuoBad s n m 30 from fun M ts' => by rw [hj.out M ts', hd.out, ans_q_bad M n _ _ _ _ _ n39.out n92.out (.inr h126)])
        have t2 : (126 : Int) < (((bA s m).toNat : Nat) : Int) := by omega
        clear h126
        go_wp2
        exact ⟨rfl, hK2.out, .inr ⟨m, 30, rfl, hq.out⟩⟩
      have t2 : ¬ ((126 : Int) < (((bA s m).toNat : Nat) : Int)) := by omega
      have hq := Lib.hid (show Quo s n (m + 1) (acc ++ [bA s m]) from fun M ts' => by rw [hj.out M ts', hd.out, ans_q_plain M n _ _ _ _ _ n39.out n92.out (by omega)])
      clear h32 h126
      go_wp2_with fail
      refine (writeByte_c w.heap.size w.heap.size acc (bA s m) _ hBl2.out (by omega) (by have := hK2.out.size; simpa using this)).mono ?_
      rintro e w4 ⟨rfl, hBl4, hb4⟩
      have hS4 := Lib.hid (hS2.out.on hb4 hcK hvK.out)
      have hK4 := Lib.hid (hK2.out.on hb4 (Nat.le_refl _))
      have hBl5 := Lib.hid hBl4
      clear hBl4 hb4
      have c1 := hS4.out.c1
      have f1 := hS4.out.free 1
      go_wp2
      go_roundg (s.size - (m + 1))
      case measure => omega
      case rel => exact ⟨m + 1, acc ++ [bA s m], rfl, by omega, by omega, by simp; omega, hq, Lib.hid (hS4.out.move (m + 1) (by omega)), Lib.hid (hK4.out.set 1 _), Lib.hid (hBl5.out.kp ((Kp.refl c _).set 1 _) hcK)⟩
    · have hlt2 : ¬ ((m : Int) < s.size) := by omega
      go_wp2
      go_quiet (fail)
      go_wp2
      exact ⟨rfl, hK.out.drew _, .inr ⟨n, 31, rfl, fun M ts' => by rw [hj.out M ts', drop_end (k := m) (by omega)]; rfl⟩⟩
end Go.Proofs.Ytdcggedggngpoaa.lx
