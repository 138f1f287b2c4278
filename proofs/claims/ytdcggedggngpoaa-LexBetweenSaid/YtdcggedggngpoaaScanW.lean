/- The scanner's word: goes past a token without quotes. -/
import Derived.Test.YtdcggedggngpoaaScanO
import Derived.Deep.LoopGhost
namespace Go.Proofs.Ytdcggedggngpoaa.lx
open Go.RowKit

/-- what goes on with a word of class y, behind the place n -/
def wordL (s : ByteArray) (n y : Nat) : List UInt8 := (s.data.toList.drop (n + 1)).takeWhile fun b => joinB y (cl b)
theorem wordL_is {s : ByteArray} {n m y : Nat} (hn : n < m) (hm : m ≤ s.size) (h1 : ∀ j, n + 1 ≤ j → j < m → joinB y (cl (bA s j)) = true) (h2 : m < s.size → joinB y (cl (bA s m)) = false) :
    wordL s n y = (s.data.toList.drop (n + 1)).take (m - (n + 1)) ∧ (wordL s n y).length = m - (n + 1) := by
  have e : wordL s n y = (s.data.toList.drop (n + 1)).take (m - (n + 1)) := by
    have hsp := List.take_append_drop (m - (n + 1)) (s.data.toList.drop (n + 1))
    unfold wordL
    conv => lhs; rw [← hsp]
    rw [List.takeWhile_append_of_pos, List.drop_drop, show n + 1 + (m - (n + 1)) = m from by omega]
    · by_cases h : m < s.size
      · rw [drop_bA h, List.takeWhile_cons, if_neg (by rw [h2 h]; decide), List.append_nil]
      · rw [drop_end (k := m) (by omega), List.takeWhile_nil, List.append_nil]
    · intro b hb
      obtain ⟨i, hi, rfl⟩ := List.mem_iff_getElem.1 hb
      have hl := List.length_take_le (m - (n + 1)) (s.data.toList.drop (n + 1))
      rw [List.getElem_take, List.getElem_drop]
      have := h1 (n + 1 + i) (by omega) (by omega)
      unfold bA at this
      rwa [List.getD_eq_getElem?_getD, List.getElem?_eq_getElem (by simp; omega)] at this
  refine ⟨e, ?_⟩
  rw [e, List.length_take, List.length_drop]
  have : s.data.toList.length = s.size := by simp
  omega
theorem wordL_text {s : ByteArray} {n m y : Nat} (hn : n < m) (hm : m ≤ s.size) (h1 : ∀ j, n + 1 ≤ j → j < m → joinB y (cl (bA s j)) = true) (h2 : m < s.size → joinB y (cl (bA s m)) = false) :
    s.extract n m = ⟨(bA s n :: wordL s n y).toArray⟩ := by
  rw [(wordL_is hn hm h1 h2).1, Lib.extract_eq, drop_bA (by omega), show m - n = (m - (n + 1)) + 1 from by omega, List.take_succ_cons]

theorem word_end {B c n m y : Nat} {s : ByteArray} {v : Value} {ts : List Tok} {w wr : World} (hn : n < m) (hm : m ≤ s.size) (h1 : ∀ j, n + 1 ≤ j → j < m → joinB y (cl (bA s j)) = true) (h2 : m < s.size → joinB y (cl (bA s m)) = false)
    (hS : Sc B c s m v ts wr) (hK : Kp c w wr) (p q : Nat) :
    Ending.returned (.string (s.extract n m)) = .returned (.string ⟨(bA s n :: wordL s n y).toArray⟩) ∧ Sc B c s (n + 1 + (wordL s n y).length) v ts ((wr.drewN p).drewN q) ∧ Kp c w ((wr.drewN p).drewN q) := by
  rw [wordL_text hn hm h1 h2, (wordL_is hn hm h1 h2).2, show n + 1 + (m - (n + 1)) = m from by omega]
  exact ⟨rfl, (hS.drew p).drew q, (hK.drew p).drew q⟩

set_option maxHeartbeats 1000000 in
theorem word_c {B c n : Nat} {s : ByteArray} {v : Value} {ts : List Tok} {w : World} (h : Sc B c s n v ts w) (hn : n < s.size) (hs : s.size ≤ 4096) (y : Nat) :
    Calls Try.prog 39 #[.pointer (some ⟨c, 0, none⟩), .int .i64 y] w fun e w' => e = .returned (.string ⟨(bA s n :: wordL s n y).toArray⟩) ∧ Sc B c s (n + 1 + (wordL s n y).length) v ts w' ∧ Kp c w w' := by
  have c0 := h.c0
  have c1 := h.c1
  have f1 := h.free 1
  have hh := Lib.hid (h.move (n + 1) (e := (n : Int) + 1) (by omega))
  have hk0 := Lib.hid ((Kp.refl c w).set 1 (.int .i64 ((n : Int) + 1)))
  clear h
  have hgt := get_bA s
  go_enter Try.func39, Try.ntmps39
  go_wp2
  clear c0 c1 f1
  go_loopg [] (s.size - (n + 1)) (fun k wr => ∃ m : Nat, k = s.size - m ∧ m ≤ s.size ∧ n < m ∧ Hid (∀ j, n + 1 ≤ j → j < m → joinB y (cl (bA s j)) = true) ∧ Hid (Sc B c s m v ts wr) ∧ Hid (Kp c w wr))
  case atStart => exact ⟨n + 1, rfl, by omega, by omega, Lib.hid (fun j h1 h2 => absurd h2 (by omega)), hh, hk0⟩
  case round =>
    obtain ⟨m, hgk, hm, hnm, hj, hS, hK⟩ := hrel
    have c0 := hS.out.c0
    have c1 := hS.out.c1
    have f1 := hS.out.free 1
    have hmm : (m : Int) ≤ s.size := by omega
    have hn0 : (n : Int) ≤ m := by omega
    by_cases hlt : m < s.size
    · have hlt2 : (m : Int) < s.size := by omega
      have kc := class_c (bA s m).toNat (bA_le s _)
      have kj := joins_c y (cls (bA s m).toNat)
      cases hj2 : joinB y (cl (bA s m))
      all_goals
        have Hj := Lib.hid hj2
        unfold cl at hj2
        rw [hj2] at kj
        clear hj2
      · go_wp2
        go_quiet ((first | (go_at_call 33; first | exact still0 kc | exact still kc) | (go_at_call 48; first | exact still0 kj | exact still kj)))
        go_wp2
        go_quiet (fail)
        go_wp2
        go_ret
        exact word_end hnm hm hj.out (fun _ => Hj.out) hS.out hK.out _ _
      · have hj' := Lib.hid (show ∀ j, n + 1 ≤ j → j < m + 1 → joinB y (cl (bA s j)) = true from fun j h1 h2 => by
          by_cases e : j = m
          · rw [e]; exact Hj.out
          · exact hj.out j h1 (by omega))
        go_wp2
        go_quiet ((first | (go_at_call 33; first | exact still0 kc | exact still kc) | (go_at_call 48; first | exact still0 kj | exact still kj)))
        go_wp2
        go_roundg (s.size - (m + 1))
        case measure => omega
        case rel => exact ⟨m + 1, rfl, by omega, by omega, hj', Lib.hid ((hS.out.drew _).move (m + 1) (by omega)), Lib.hid ((hK.out.drew _).set 1 _)⟩
    · have hlt2 : ¬ ((m : Int) < s.size) := by omega
      go_wp2
      go_quiet (fail)
      go_wp2
      go_quiet (fail)
      go_wp2
      go_ret
      exact word_end hnm hm hj.out (fun h => absurd h hlt) hS.out hK.out _ _
end Go.Proofs.Ytdcggedggngpoaa.lx
