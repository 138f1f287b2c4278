/- OpsTable, OpsSides, OpsKnown: their walks. -/
import Derived.Test.YtnbbcegfcpcndaaDoorSameO
namespace Go.Proofs.YtnbbcegfcpcndaaDoor.op
open Go.RowKit

/-- both tables lie where the program's text lays them -/
def Both (w : World) : Prop := Tb 0 30 rowsI w ∧ Tb 1 33 rowsP w
theorem Both.kept {w w' : World} (h : Both w) (hb : Below w.heap.size w w') : Both w' := ⟨h.1.kept hb, h.2.kept hb⟩
/-- both programs answer alike -/
theorem lI (n : ByteArray) (w : World) (hT : Tb 0 30 rowsI w) {p l r : Int} {b : Bool} (h : progI n.data.toList = (p, l, r, b)) :
    Calls Tryd.prog 6 #[.string n] w fun e w' => e = .returned (.tuple #[.int .i64 p, .int .i64 l, .int .i64 r, .bool b]) ∧ Below w.heap.size w w' := by
  have := infix_c n w hT
  rw [h] at this
  exact this
theorem rI (n : ByteArray) (w : World) {p l r : Int} {b : Bool} (h : progI n.data.toList = (p, l, r, b)) :
    Calls Tryd.prog 7 #[.string n] w fun e w' => e = .returned (.tuple #[.int .i64 p, .int .i64 l, .int .i64 r, .bool b]) ∧ Below w.heap.size w w' := by
  have := refI_c n w
  rw [sameI, h] at this
  exact this
theorem lP (n : ByteArray) (w : World) (hT : Tb 1 33 rowsP w) {p l : Int} {b : Bool} (h : progP n.data.toList = (p, l, b)) :
    Calls Tryd.prog 8 #[.string n] w fun e w' => e = .returned (.tuple #[.int .i64 p, .int .i64 l, .bool b]) ∧ Below w.heap.size w w' := by
  have := prefix_c n w hT
  rw [h] at this
  exact this
theorem rP (n : ByteArray) (w : World) {p l : Int} {b : Bool} (h : progP n.data.toList = (p, l, b)) :
    Calls Tryd.prog 9 #[.string n] w fun e w' => e = .returned (.tuple #[.int .i64 p, .int .i64 l, .bool b]) ∧ Below w.heap.size w w' := by
  have := refP_c n w
  rw [sameP, h] at this
  exact this

set_option maxHeartbeats 1000000 in
theorem table_w (s : ByteArray) (w : World) (hz : s.size ≤ 9223372036854775807) (hb : Both w) :
    Calls Tryd.prog 3 #[.string s] w fun e w' => e = .returned (.bool true) ∧ Below w.heap.size w w' := by
  by_cases hbig : s.size > 4096
  · clear hb
    go_enter Tryd.func3, Tryd.ntmps3
    go_wp2
    go_ret
    exact ⟨rfl, Below.refl _ _⟩
  have hbig2 : s.size ≤ 4096 := by omega
  obtain ⟨p, l, r, b, hI⟩ : ∃ p l r b, progI s.data.toList = (p, l, r, b) := ⟨_, _, _, _, rfl⟩
  obtain ⟨q, m, c, hP⟩ : ∃ p l b, progP s.data.toList = (p, l, b) := ⟨_, _, _, rfl⟩
  have k1 := lI s w hb.1 hI
  have k2 := fun w => rI s w hI
  have k3 := fun w h => lP s w h hP
  have k4 := fun w => rP s w hP
  have Hb := Lib.hid hb
  clear hb hI hP
  have e1 : (p == p) = true := by simp
  have e2 : (l == l) = true := by simp
  have e3 : (r == r) = true := by simp
  have e4 : (b == b) = true := by simp
  have e5 : (q == q) = true := by simp
  have e6 : (m == m) = true := by simp
  have e7 : (c == c) = true := by simp
  go_enter Tryd.func3, Tryd.ntmps3
  go_wp2_with fail
  refine k1.mono ?_
  rintro e w1 ⟨rfl, h1⟩
  have H1 := Lib.hid h1
  clear h1 k1
  go_wp2_with fail
  refine (k2 _).mono ?_
  rintro e w2 ⟨rfl, h2⟩
  have H2 := Lib.hid (H1.out.trans (h2.mono H1.out.size))
  clear h2 k2
  go_wp2_with fail
  refine (k3 _ (Hb.out.kept H2.out).2).mono ?_
  rintro e w3 ⟨rfl, h3⟩
  have H3 := Lib.hid (H2.out.trans (h3.mono H2.out.size))
  clear h3 k3
  go_wp2_with fail
  refine (k4 _).mono ?_
  rintro e w4 ⟨rfl, h4⟩
  have H4 := Lib.hid (H3.out.trans (h4.mono H3.out.size))
  clear h4 k4
  go_wp2
  go_ret
  exact ⟨rfl, H4.out⟩

set_option maxHeartbeats 1000000 in
theorem sides_w (s : ByteArray) (w : World) (hz : s.size ≤ 9223372036854775807) (hb : Tb 0 30 rowsI w) :
    Calls Tryd.prog 4 #[.string s] w fun e w' => e = .returned (.bool true) ∧ Below w.heap.size w w' := by
  by_cases hbig : s.size > 4096
  · clear hb
    go_enter Tryd.func4, Tryd.ntmps4
    go_wp2
    go_ret
    exact ⟨rfl, Below.refl _ _⟩
  have hbig2 : s.size ≤ 4096 := by omega
  have hs := sides s.data.toList
  obtain ⟨p, l, r, b, hI⟩ : ∃ p l r b, progI s.data.toList = (p, l, r, b) := ⟨_, _, _, _, rfl⟩
  have k1 := lI s w hb hI
  have k2 := fun w => rI s w hI
  rw [hI] at hs
  clear hb hI
  rcases hs with hs | ⟨rfl, h1, h2, h3, h4, h5, h6, h7⟩
  · cases hs
    go_enter Tryd.func4, Tryd.ntmps4
    go_wp2_with fail
    refine k1.mono ?_
    rintro e w1 ⟨rfl, h1⟩
    have H1 := Lib.hid h1
    clear h1 k1
    go_wp2_with fail
    refine (k2 _).mono ?_
    rintro e w2 ⟨rfl, h2⟩
    have H2 := Lib.hid (H1.out.trans (h2.mono H1.out.size))
    clear h2 k2
    go_wp2
    go_ret
    exact ⟨rfl, H2.out⟩
  · simp only at h1 h2 h3 h4 h5 h6 h7
    have i1 : IntKind.i64.wrap (p - 1) = p - 1 := IntWalk.i64_in _ (by omega)
    have i2 : IntKind.i64.wrap (l + r) = l + r := IntWalk.i64_in _ (by omega)
    have i3 : IntKind.i64.wrap (2 * p) = 2 * p := IntWalk.i64_in _ (by omega)
    have h5' : l ≥ p - 1 := h5
    have h6' : r ≥ p - 1 := h6
    go_enter Tryd.func4, Tryd.ntmps4
    go_wp2_with fail
    refine k1.mono ?_
    rintro e w1 ⟨rfl, h1⟩
    have H1 := Lib.hid h1
    clear h1 k1
    go_wp2_with fail
    refine (k2 _).mono ?_
    rintro e w2 ⟨rfl, h2⟩
    have H2 := Lib.hid (H1.out.trans (h2.mono H1.out.size))
    clear h2 k2
    go_wp2
    go_ret
    exact ⟨rfl, H2.out⟩
end Go.Proofs.YtnbbcegfcpcndaaDoor.op
