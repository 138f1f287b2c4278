/- Contracts of the reference's functions: minus, sum, fit, Add, Sub, Neg, Abs. -/
import Derived.Test.YtpfkcllincfpkaaRefB
import Derived.Test.YtpfkcllincfpkaaNumMath
import Derived.Deep.RegionWith
import Derived.Deep.RegionHeld3
namespace Go.Proofs.Ytpfkcllincfpkaa.dg
open Go.RowKit

/-- the integer that a wide one is -/
def wv (s : Bool) (n : Nat) : Int := if s then -(n : Int) else n

theorem minus_c (w : World) (s : Bool) (g cap n : Nat) (h : Sl w g cap (digs n)) :
    Calls Try.prog 48 #[.agg #[.bool s, .slice (some ⟨g, 0, none⟩) (digs n).length cap]] w fun e w' => Wide w w' e (!s) n := by
  generalize hl : digs n = l at *
  have HL := Lib.hid hl
  clear hl
  go_enter Try.func48, Try.ntmps48
  go_wp2
  refine bodyPost_ret (v := .agg #[.bool (!s), .slice (some ⟨g, 0, none⟩) l.length cap]) (by simp [results, Try.results48, go_sem]) rfl ?_
  refine ⟨g, cap, by rw [HL.out], by rw [HL.out]; exact (h.alloc _).alloc _, by go_grown⟩

def sumS (s : Bool) (m : Nat) (t : Bool) (n : Nat) : Bool := if s = t then s else if n ≤ m then s else t
def sumN (s : Bool) (m : Nat) (t : Bool) (n : Nat) : Nat := if s = t then m + n else if n ≤ m then m - n else n - m
theorem sum_wv (s : Bool) (m : Nat) (t : Bool) (n : Nat) : wv (sumS s m t n) (sumN s m t n) = wv s m + wv t n := by
  unfold sumS sumN wv
  by_cases c : n ≤ m
  all_goals cases s <;> cases t <;> simp <;> (try split) <;> (try simp) <;> (try omega)

/-- a new wide one: its digits lie in new memory -/
def WideF (w w' : World) (e : Ending) (s : Bool) (n : Nat) : Prop :=
  ∃ g cap, e = .returned (.agg #[.bool s, .slice (some ⟨g, 0, none⟩) (digs n).length cap]) ∧ SlB w.heap.size w' g cap (digs n) ∧ Below w.heap.size w w'
theorem WideF.wide {w w' : World} {e : Ending} {s : Bool} {n : Nat} (h : WideF w w' e s n) : Wide w w' e s n := by
  obtain ⟨g, cap, h1, h2, h3⟩ := h; exact ⟨g, cap, h1, h2.mono (Nat.zero_le _), h3⟩

theorem sum_end {w W wr : World} {g cap n : Nat} {s : Bool} (hb0 : Below w.heap.size w W ∧ w.heap.size + 1 + 1 < W.heap.size) (hb : Below W.heap.size W wr) (hown : SlB W.heap.size wr g cap (digs n)) {v u : Value} :
    WideF w ((wr.setCell ⟨w.heap.size + 1 + 1, 0, none⟩ v).setCell ⟨w.heap.size + 1 + 1, 1, none⟩ u) (.returned (.agg #[.bool s, .slice (some ⟨g, 0, none⟩) (digs n).length cap])) s n := by
  refine ⟨g, cap, rfl, ?_, ?_⟩
  · exact SlB.mono (ownsRow_setCell_below (ownsRow_setCell_below hown hb0.2 _) hb0.2 _) hb0.1.size
  · exact ((hb0.1.trans (hb.mono (by omega))).setCell (by simp; omega) _).setCell (by simp; omega) _

theorem sum_f (w : World) (s t : Bool) (g cap g' cap' m n : Nat) (h : Sl w g cap (digs m)) (h' : Sl w g' cap' (digs n)) (hb1 : (digs m).length ≤ 100000) (hb2 : (digs n).length ≤ 100000) :
    Calls Try.prog 44 #[.agg #[.bool s, .slice (some ⟨g, 0, none⟩) (digs m).length cap], .agg #[.bool t, .slice (some ⟨g', 0, none⟩) (digs n).length cap']] w fun e w' => WideF w w' e (sumS s m t n) (sumN s m t n) := by
  by_cases hst : s = t
  · have e1 : sumS s m t n = s := if_pos hst
    have e2 : sumN s m t n = m + n := if_pos hst
    rw [e1, e2]
    clear e1 e2
    subst hst
    go_enter Try.func44, Try.ntmps44
    go_wp2_with fail
    go_region_held3 (fun w' => w'.cell? ⟨w.heap.size, 0, none⟩ = some (.bool s) ∧ w'.cell? ⟨w.heap.size, 1, none⟩ = some (.slice (some ⟨g, 0, none⟩) (digs m).length cap) ∧ w'.cell? ⟨w.heap.size + 1, 1, none⟩ = some (.slice (some ⟨g', 0, none⟩) (digs n).length cap'))
      (first | (refine ⟨?_, ?_, ?_⟩ <;> go_cell) | (refine ⟨?_, ?_, ?_⟩ <;> (rw [hb.cell (by go_size)]; go_cell)))
      (first | (go_at_call 57; refine (plus_c _ g cap g' cap' m n (SlB.stay h (by go_grown)) (SlB.stay h' (by go_grown)) hb1 hb2).mono ?_; rintro e w' ⟨g3, cap3, rfl, hown, hb⟩; have c0 : w'.cell? ⟨w.heap.size + 1 + 1, 0, none⟩ = some (.bool false) := (by rw [hb.cell (by go_size)]; go_cell); have c1 : w'.cell? ⟨w.heap.size + 1 + 1, 1, none⟩ = some (.slice none 0 0) := (by rw [hb.cell (by go_size)]; go_cell); have f0 : w'.frozen? ⟨w.heap.size + 1 + 1, 0, none⟩ = false := (by rw [hb.frozen (by go_size)]; go_cell); have f1 : w'.frozen? ⟨w.heap.size + 1 + 1, 1, none⟩ = false := (by rw [hb.frozen (by go_size)]; go_cell)))
    go_wp2
    refine bodyPost_ret (v := .agg #[.bool s, .slice (some ⟨g3, 0, none⟩) (digs (m + n)).length cap3]) (by simp [results, Try.results44, go_sem, c0, c1]) rfl ?_
    exact sum_end ⟨by go_grown, by go_size⟩ hb hown
  · have hst' : (s == t) = false := by simp [hst]
    by_cases hle : n ≤ m
    · have e1 : sumS s m t n = s := by unfold sumS; rw [if_neg hst, if_pos hle]
      have e2 : sumN s m t n = m - n := by unfold sumN; rw [if_neg hst, if_pos hle]
      have e3 : 0 ≤ ord m n := by unfold ord; rw [if_neg (by omega)]; split <;> omega
      rw [e1, e2]
      clear e1 e2 hst
      go_enter Try.func44, Try.ntmps44
      go_wp2_with (go_at_call 56; refine (order_c _ g cap g' cap' m n (SlB.stay h (by go_grown)) (SlB.stay h' (by go_grown))).mono ?_; rintro e w' ⟨rfl, k, rfl⟩)
      go_region_held3 (fun w' => w'.cell? ⟨w.heap.size, 0, none⟩ = some (.bool s) ∧ w'.cell? ⟨w.heap.size, 1, none⟩ = some (.slice (some ⟨g, 0, none⟩) (digs m).length cap) ∧ w'.cell? ⟨w.heap.size + 1, 1, none⟩ = some (.slice (some ⟨g', 0, none⟩) (digs n).length cap'))
        (first | (refine ⟨?_, ?_, ?_⟩ <;> go_cell) | (refine ⟨?_, ?_, ?_⟩ <;> (rw [hb.cell (by go_size)]; go_cell)))
        (first | (go_at_call 58; refine (less_c _ g cap g' cap' m n (SlB.stay h (by first | (go_grown; done) | (refine below_drewN ?_ _; go_grown))) (SlB.stay h' (by first | (go_grown; done) | (refine below_drewN ?_ _; go_grown))) hb1 (by omega)).mono ?_; rintro e w' ⟨g3, cap3, rfl, hown, hb⟩; have c0 : w'.cell? ⟨w.heap.size + 1 + 1, 0, none⟩ = some (.bool false) := (by rw [hb.cell (by go_size)]; go_cell) ; have c1 : w'.cell? ⟨w.heap.size + 1 + 1, 1, none⟩ = some (.slice none 0 0) := (by rw [hb.cell (by go_size)]; go_cell) ; have f0 : w'.frozen? ⟨w.heap.size + 1 + 1, 0, none⟩ = false := (by rw [hb.frozen (by go_size)]; go_cell) ; have f1 : w'.frozen? ⟨w.heap.size + 1 + 1, 1, none⟩ = false := (by rw [hb.frozen (by go_size)]; go_cell)))
      go_wp2
      refine bodyPost_ret (v := .agg #[.bool s, .slice (some ⟨g3, 0, none⟩) (digs (m - n)).length cap3]) (by simp [results, Try.results44, go_sem, c0, c1]) rfl ?_
      exact sum_end ⟨by first | (go_grown; done) | (refine below_drewN ?_ _; go_grown), by go_size⟩ hb hown
    · have e1 : sumS s m t n = t := by unfold sumS; rw [if_neg hst, if_neg hle]
      have e2 : sumN s m t n = n - m := by unfold sumN; rw [if_neg hst, if_neg hle]
      have e3 : ord m n < 0 := by unfold ord; rw [if_pos (by omega)]; omega
      rw [e1, e2]
      clear e1 e2 hst
      go_enter Try.func44, Try.ntmps44
      go_wp2_with (go_at_call 56; refine (order_c _ g cap g' cap' m n (SlB.stay h (by go_grown)) (SlB.stay h' (by go_grown))).mono ?_; rintro e w' ⟨rfl, k, rfl⟩)
      go_region_held3 (fun w' => w'.cell? ⟨w.heap.size + 1, 0, none⟩ = some (.bool t) ∧ w'.cell? ⟨w.heap.size + 1, 1, none⟩ = some (.slice (some ⟨g', 0, none⟩) (digs n).length cap') ∧ w'.cell? ⟨w.heap.size, 1, none⟩ = some (.slice (some ⟨g, 0, none⟩) (digs m).length cap))
        (first | (refine ⟨?_, ?_, ?_⟩ <;> go_cell) | (refine ⟨?_, ?_, ?_⟩ <;> (rw [hb.cell (by go_size)]; go_cell)))
        (first | (go_at_call 58; refine (less_c _ g' cap' g cap n m (SlB.stay h' (by first | (go_grown; done) | (refine below_drewN ?_ _; go_grown))) (SlB.stay h (by first | (go_grown; done) | (refine below_drewN ?_ _; go_grown))) hb2 (by omega)).mono ?_; rintro e w' ⟨g3, cap3, rfl, hown, hb⟩; have c0 : w'.cell? ⟨w.heap.size + 1 + 1, 0, none⟩ = some (.bool false) := (by rw [hb.cell (by go_size)]; go_cell) ; have c1 : w'.cell? ⟨w.heap.size + 1 + 1, 1, none⟩ = some (.slice none 0 0) := (by rw [hb.cell (by go_size)]; go_cell) ; have f0 : w'.frozen? ⟨w.heap.size + 1 + 1, 0, none⟩ = false := (by rw [hb.frozen (by go_size)]; go_cell) ; have f1 : w'.frozen? ⟨w.heap.size + 1 + 1, 1, none⟩ = false := (by rw [hb.frozen (by go_size)]; go_cell)))
      go_wp2
      refine bodyPost_ret (v := .agg #[.bool t, .slice (some ⟨g3, 0, none⟩) (digs (n - m)).length cap3]) (by simp [results, Try.results44, go_sem, c0, c1]) rfl ?_
      exact sum_end ⟨by first | (go_grown; done) | (refine below_drewN ?_ _; go_grown), by go_size⟩ hb hown

theorem sum_c (w : World) (s t : Bool) (g cap g' cap' m n : Nat) (h : Sl w g cap (digs m)) (h' : Sl w g' cap' (digs n)) (hb1 : (digs m).length ≤ 100000) (hb2 : (digs n).length ≤ 100000) :
    Calls Try.prog 44 #[.agg #[.bool s, .slice (some ⟨g, 0, none⟩) (digs m).length cap], .agg #[.bool t, .slice (some ⟨g', 0, none⟩) (digs n).length cap']] w fun e w' => Wide w w' e (sumS s m t n) (sumN s m t n) :=
  (sum_f w s t g cap g' cap' m n h h' hb1 hb2).mono fun _ _ h => h.wide

end Go.Proofs.Ytpfkcllincfpkaa.dg
