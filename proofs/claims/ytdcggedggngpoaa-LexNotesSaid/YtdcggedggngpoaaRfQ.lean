/- The reference: quoted. -/
import Derived.Test.YtdcggedggngpoaaByt
import Derived.Test.YtdcggedggngpoaaRfA
namespace Go.Proofs.Ytdcggedggngpoaa.lx
open Go.RowKit

def RQuoP (s : ByteArray) (n : Nat) (w : World) (e : Ending) (w' : World) : Prop :=
  Below w.heap.size w w' ∧ ((∃ (m : Nat) (acc : List UInt8), e = .returned (.tuple #[.string ⟨acc.toArray⟩, .int .i64 (m : Int), .int .i64 0]) ∧ n < m ∧ m ≤ s.size ∧ QuoOk s n m acc) ∨
    (∃ p k : Nat, e = .returned (.tuple #[.string ⟨#[]⟩, .int .i64 (p : Int), .int .i64 (k : Int)]) ∧ 0 < k ∧ k < 100 ∧ QuoBad s n p k))

set_option maxRecDepth 100000 in
set_option maxHeartbeats 4000000 in
theorem rquoted_c (s : ByteArray) (n : Nat) (hn : n < s.size) (hs : s.size ≤ 4096) (w : World) :
    Calls Try.prog 22 #[.string s, .int .i64 n] w (RQuoP s n w) := by
  have hgt := get_bA s
  have hE := Lib.hid (By.empty w.heap.size w (Nat.le_refl _))
  go_enter Try.func22, Try.ntmps22
  go_wp2
  go_loopg [7, 8] (s.size - (n + 1)) (fun k v i wr => ∃ (m : Nat) (acc : List UInt8) (g cap : Nat), k = s.size - m ∧ m ≤ s.size ∧ n < m ∧ v = .slice (some ⟨g, 0, none⟩) acc.length cap ∧ i = .int .i64 m ∧ acc.length ≤ m ∧ Hid (Quo s n m acc) ∧ Hid (By w.heap.size wr g cap acc) ∧ Hid (Below w.heap.size w wr))
  case atStart => exact ⟨n + 1, [], w.heap.size, 0, rfl, by omega, by omega, rfl, by go_num, by simp, Lib.hid (fun _ _ => rfl), hE, Lib.hid ((Below.refl _ w).alloc (Nat.le_refl _) _)⟩
  case round =>
    obtain ⟨m, acc, g, cap, hgk, hm, hnm, rfl, rfl, hal, hj, hY, hb⟩ := hrel
    have hsz := Lib.hid hb.out.size
    by_cases hlt : m < s.size
    · have hlt2 : (m : Int) < s.size := by omega
      have hd := Lib.hid (drop_bA hlt)
      have kt := two_c s m 39 39 (by omega) (by omega)
      cases ht : twoB s m 39 39 <;> rw [ht] at kt
      · by_cases h39 : (bA s m).toNat = 39
        · obtain ⟨a1, a2⟩ := ieq_yes (a := (bA s m).toNat) 39 (by omega)
          have e39 : bA s m = 39 := UInt8.toNat_inj.1 (by rw [h39]; rfl)
          have hq := Lib.hid (show QuoOk s n (m + 1) acc from fun M ts' => by
            rw [hj.out M ts', hd.out, e39, ans_q_end]
            intro b r hbr e
            subst e
            by_cases h3 : m + 1 < s.size
            · rw [drop_bA h3] at hbr
              unfold twoB at ht
              rw [(List.cons.inj hbr).1] at ht
              simp [h3, h39] at ht
            · rw [drop_end (k := m + 1) (by omega)] at hbr; cases hbr)
          have hcv := hY.out.conv
          clear ht h39 e39
          go_wp2_with (go_at_call 28; refine (kt _).mono ?_; rintro e w' ⟨rfl, rfl⟩)
          go_wp2
          go_ret3
          exact ⟨hb.out, .inl ⟨m + 1, acc, rfl, by omega, by omega, hq.out⟩⟩
        have n39 := Lib.hid (show bA s m ≠ 39 from fun e => h39 (by rw [e]; rfl))
        obtain ⟨a1, a2⟩ := ieq_no (a := (bA s m).toNat) 39 (by omega)
        clear h39 ht
        by_cases h92 : (bA s m).toNat = 92
        · obtain ⟨b1, b2⟩ := ieq_yes (a := (bA s m).toNat) 92 (by omega)
          have e92 := Lib.hid (show bA s m = 92 from UInt8.toNat_inj.1 (by rw [h92]; rfl))
          clear h92
          by_cases hend : m + 1 = s.size
          · have x1 : ((m : Int) + 1 == (s.size : Int)) = true := by simp; omega
            have hq := Lib.hid (show QuoBad s n n 31 from fun M ts' => by rw [hj.out M ts', drop1 hend, e92.out]; rfl)
            clear hend
            go_wp2_with (go_at_call 28; refine (kt _).mono ?_; rintro e w' ⟨rfl, rfl⟩)
            go_ret3
            exact ⟨hb.out, .inr ⟨n, 31, rfl, by omega, by omega, hq.out⟩⟩
          · have hlt3 : m + 1 < s.size := by omega
            have x1 : ((m : Int) + 1 == (s.size : Int)) = false := by simp; omega
            have hlt4 : (m : Int) + 1 < s.size := by omega
            clear hend
            have hstep := Lib.hid (show ∀ M ts', ans M (s.data.toList.drop (n + 1)) ts' (n + 1) (.quo n []) = if escOk (bA s (m + 1)) = true then ans M (s.data.toList.drop (m + 2)) ts' (m + 2) (.quo n (acc ++ [escV (bA s (m + 1))])) else .bad m 32 from fun M ts' => by
              rw [hj.out M ts', drop2 hlt3, e92.out, ans_q_esc])
            by_cases g110 : (bA s (m + 1)).toNat = 110
            · obtain ⟨p1, p2⟩ := ieq_yes (a := (bA s (m + 1)).toNat) 110 (by omega)
              have ev : bA s (m + 1) = 110 := UInt8.toNat_inj.1 (by rw [g110]; rfl)
              have hq := Lib.hid (show Quo s n (m + 2) (acc ++ [10]) from fun M ts' => by
                rw [hstep.out M ts', ev]; rfl)
              clear ev g110 hstep
              go_wp2_with (first | (go_at_call 28; refine (kt _).mono ?_; rintro e w' ⟨rfl, rfl⟩) | (at_builtin; refine wpList_push1 rfl _ _ rfl w.heap.size wr g cap acc (10) _ (rfl) rfl hY.out rfl (by omega) hsz.out ?_; intro g' cap' w3 hY3 hB3))
              have HY3 := Lib.hid hY3
              have HB3 := Lib.hid (hb.out.trans hB3)
              clear hY3 hB3
              go_wp2
              go_roundg (s.size - (m + 2))
              case measure => omega
              case rel => exact ⟨m + 2, acc ++ [10], g', cap', rfl, by omega, by omega, by simp, by go_num, by simp; omega, hq, HY3, HB3⟩
            obtain ⟨p110, q110⟩ := ieq_no (a := (bA s (m + 1)).toNat) 110 (by omega)
            by_cases g116 : (bA s (m + 1)).toNat = 116
            · obtain ⟨p1, p2⟩ := ieq_yes (a := (bA s (m + 1)).toNat) 116 (by omega)
              have ev : bA s (m + 1) = 116 := UInt8.toNat_inj.1 (by rw [g116]; rfl)
              have hq := Lib.hid (show Quo s n (m + 2) (acc ++ [9]) from fun M ts' => by
                rw [hstep.out M ts', ev]; rfl)
              clear ev g116 hstep
              go_wp2_with (first | (go_at_call 28; refine (kt _).mono ?_; rintro e w' ⟨rfl, rfl⟩) | (at_builtin; refine wpList_push1 rfl _ _ rfl w.heap.size wr g cap acc (9) _ (rfl) rfl hY.out rfl (by omega) hsz.out ?_; intro g' cap' w3 hY3 hB3))
              have HY3 := Lib.hid hY3
              have HB3 := Lib.hid (hb.out.trans hB3)
              clear hY3 hB3
              go_wp2
              go_roundg (s.size - (m + 2))
              case measure => omega
              case rel => exact ⟨m + 2, acc ++ [9], g', cap', rfl, by omega, by omega, by simp, by go_num, by simp; omega, hq, HY3, HB3⟩
            obtain ⟨p116, q116⟩ := ieq_no (a := (bA s (m + 1)).toNat) 116 (by omega)
            by_cases g92 : (bA s (m + 1)).toNat = 92
            · obtain ⟨p1, p2⟩ := ieq_yes (a := (bA s (m + 1)).toNat) 92 (by omega)
              have ev : bA s (m + 1) = 92 := UInt8.toNat_inj.1 (by rw [g92]; rfl)
              have hq := Lib.hid (show Quo s n (m + 2) (acc ++ [bA s (m + 1)]) from fun M ts' => by
                rw [hstep.out M ts', ev]; rfl)
              clear ev g92 hstep
              go_wp2_with (first | (go_at_call 28; refine (kt _).mono ?_; rintro e w' ⟨rfl, rfl⟩) | (at_builtin; refine wpList_push1 rfl _ _ rfl w.heap.size wr g cap acc (bA s (m + 1)) _ (rfl) rfl hY.out rfl (by omega) hsz.out ?_; intro g' cap' w3 hY3 hB3))
              have HY3 := Lib.hid hY3
              have HB3 := Lib.hid (hb.out.trans hB3)
              clear hY3 hB3
              go_wp2
              go_roundg (s.size - (m + 2))
              case measure => omega
              case rel => exact ⟨m + 2, acc ++ [bA s (m + 1)], g', cap', rfl, by omega, by omega, by simp, by go_num, by simp; omega, hq, HY3, HB3⟩
            obtain ⟨p92, q92⟩ := ieq_no (a := (bA s (m + 1)).toNat) 92 (by omega)
            by_cases g39 : (bA s (m + 1)).toNat = 39
            · obtain ⟨p1, p2⟩ := ieq_yes (a := (bA s (m + 1)).toNat) 39 (by omega)
              have ev : bA s (m + 1) = 39 := UInt8.toNat_inj.1 (by rw [g39]; rfl)
              have hq := Lib.hid (show Quo s n (m + 2) (acc ++ [bA s (m + 1)]) from fun M ts' => by
                rw [hstep.out M ts', ev]; rfl)
              clear ev g39 hstep
              go_wp2_with (first | (go_at_call 28; refine (kt _).mono ?_; rintro e w' ⟨rfl, rfl⟩) | (at_builtin; refine wpList_push1 rfl _ _ rfl w.heap.size wr g cap acc (bA s (m + 1)) _ (rfl) rfl hY.out rfl (by omega) hsz.out ?_; intro g' cap' w3 hY3 hB3))
              have HY3 := Lib.hid hY3
              have HB3 := Lib.hid (hb.out.trans hB3)
              clear hY3 hB3
              go_wp2
              go_roundg (s.size - (m + 2))
              case measure => omega
              case rel => exact ⟨m + 2, acc ++ [bA s (m + 1)], g', cap', rfl, by omega, by omega, by simp, by go_num, by simp; omega, hq, HY3, HB3⟩
            obtain ⟨p39, q39⟩ := ieq_no (a := (bA s (m + 1)).toNat) 39 (by omega)
            have hno : escOk (bA s (m + 1)) = false := by
              unfold escOk
              rw [show (110 : UInt8) = UInt8.ofNat 110 from rfl, show (116 : UInt8) = UInt8.ofNat 116 from rfl, show (92 : UInt8) = UInt8.ofNat 92 from rfl, show (39 : UInt8) = UInt8.ofNat 39 from rfl,
                u8_eq _ _ (by omega), u8_eq _ _ (by omega), u8_eq _ _ (by omega), u8_eq _ _ (by omega)]
              simp [g110, g116, g92, g39]
            have hq := Lib.hid (show QuoBad s n m 32 from fun M ts' => by rw [hstep.out M ts', if_neg (by rw [hno]; decide)])
            clear hno hstep g110 g116 g92 g39
            go_wp2_with (go_at_call 28; refine (kt _).mono ?_; rintro e w' ⟨rfl, rfl⟩)
            go_ret3
            exact ⟨hb.out, .inr ⟨m, 32, rfl, by omega, by omega, hq.out⟩⟩
        have n92 := Lib.hid (show bA s m ≠ 92 from fun e => h92 (by rw [e]; rfl))
        obtain ⟨b1, b2⟩ := ieq_no (a := (bA s m).toNat) 92 (by omega)
        clear h92
        by_cases h32 : (bA s m).toNat < 32
        · have hq := Lib.hid (show QuoBad s n m 30 from fun M ts' => by rw [hj.out M ts', hd.out, ans_q_bad M n _ _ _ _ _ n39.out n92.out (.inl h32)])
          have t1 : (((bA s m).toNat : Nat) : Int) < 32 := by omega
          clear h32
          go_wp2_with (go_at_call 28; refine (kt _).mono ?_; rintro e w' ⟨rfl, rfl⟩)
          go_ret3
          exact ⟨hb.out, .inr ⟨m, 30, rfl, by omega, by omega, hq.out⟩⟩
        have t1 : ¬ ((((bA s m).toNat : Nat) : Int) < 32) := by omega
        by_cases h126 : 126 < (bA s m).toNat
        · have hq := Lib.hid (show QuoBad s n m 30 from fun M ts' => by rw [hj.out M ts', hd.out, ans_q_bad M n _ _ _ _ _ n39.out n92.out (.inr h126)])
          have t2 : (126 : Int) < (((bA s m).toNat : Nat) : Int) := by omega
          clear h126
          go_wp2_with (go_at_call 28; refine (kt _).mono ?_; rintro e w' ⟨rfl, rfl⟩)
          go_ret3
          exact ⟨hb.out, .inr ⟨m, 30, rfl, by omega, by omega, hq.out⟩⟩
        have t2 : ¬ ((126 : Int) < (((bA s m).toNat : Nat) : Int)) := by omega
        have hq := Lib.hid (show Quo s n (m + 1) (acc ++ [bA s m]) from fun M ts' => by rw [hj.out M ts', hd.out, ans_q_plain M n _ _ _ _ _ n39.out n92.out (by omega)])
        clear h32 h126
        go_wp2_with (first | (go_at_call 28; refine (kt _).mono ?_; rintro e w' ⟨rfl, rfl⟩) | (at_builtin; refine wpList_push1 rfl _ _ rfl w.heap.size wr g cap acc (bA s m) _ (rfl) rfl hY.out rfl (by omega) hsz.out ?_; intro g' cap' w3 hY3 hB3))
        have HY3 := Lib.hid hY3
        have HB3 := Lib.hid (hb.out.trans hB3)
        clear hY3 hB3
        go_wp2
        go_roundg (s.size - (m + 1))
        case measure => omega
        case rel => exact ⟨m + 1, acc ++ [bA s m], g', cap', rfl, by omega, by omega, by simp, by go_num, by simp; omega, hq, HY3, HB3⟩
      · have hlt3 : m + 1 < s.size := by unfold twoB at ht; simp at ht; exact ht.1.1
        have hq := Lib.hid (show Quo s n (m + 2) (acc ++ [39]) from fun M ts' => by
          unfold twoB at ht
          simp only [Bool.and_eq_true, decide_eq_true_eq, beq_iff_eq] at ht
          have e1 : bA s m = 39 := UInt8.toNat_inj.1 (by rw [ht.1.2]; rfl)
          have e2 : bA s (m + 1) = 39 := UInt8.toNat_inj.1 (by rw [ht.2]; rfl)
          rw [hj.out M ts', drop2 hlt3, e1, e2, ans_q_two])
        clear ht
        go_wp2_with (first | (go_at_call 28; refine (kt _).mono ?_; rintro e w' ⟨rfl, rfl⟩) | (at_builtin; refine wpList_push1 rfl _ _ rfl w.heap.size wr g cap acc (39) _ (rfl) rfl hY.out rfl (by omega) hsz.out ?_; intro g' cap' w3 hY3 hB3))
        have HY3 := Lib.hid hY3
        have HB3 := Lib.hid (hb.out.trans hB3)
        clear hY3 hB3
        go_wp2
        go_roundg (s.size - (m + 2))
        case measure => omega
        case rel => exact ⟨m + 2, acc ++ [39], g', cap', rfl, by omega, by omega, by simp, by go_num, by simp; omega, hq, HY3, HB3⟩
    · have hlt2 : ¬ ((m : Int) < s.size) := by omega
      have hq := Lib.hid (show QuoBad s n n 31 from fun M ts' => by rw [hj.out M ts', drop_end (k := m) (by omega)]; rfl)
      go_wp2
      go_ret3
      exact ⟨hb.out, .inr ⟨n, 31, rfl, by omega, by omega, hq.out⟩⟩
end Go.Proofs.Ytdcggedggngpoaa.lx
