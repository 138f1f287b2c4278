/- The reference's Infix and Prefix. -/
import Derived.Test.YtnbbcegfcpcndaaDoorWd
namespace Go.Proofs.YtnbbcegfcpcndaaDoor.op
open Go.RowKit

theorem res4 {fn : Func} {a b c d : Tmp} (h : fn.results = #[.tmp a, .tmp b, .tmp c, .tmp d]) (s : Array Value) (P : Program) (w : World) :
    (results fn s).run P w = .ok (.tuple #[s.getD a undef, s.getD b undef, s.getD c undef, s.getD d undef]) w := by simp only [results, h]; simp
def tupI (a : Int × Int × Int × Bool) : Value := .tuple #[.int .i64 a.1, .int .i64 a.2.1, .int .i64 a.2.2.1, .bool a.2.2.2]
def tupP (a : Int × Int × Bool) : Value := .tuple #[.int .i64 a.1, .int .i64 a.2.1, .bool a.2.2]

/-- the document's answer, test by test -/
def refI (n : List UInt8) : Int × Int × Int × Bool :=
  if inB n [58, 45] then (1200, 1199, 1199, true) else
  if inB n [59] then (1100, 1099, 1100, true) else
  if inB n [45, 62] then (1050, 1049, 1050, true) else
  if inB n [44] then (1000, 999, 1000, true) else
  if inB n [35, 60, 61, 62] then (760, 759, 759, true) else
  if inB n [61, 32, 92, 61, 32, 61, 61, 32, 92, 61, 61, 32, 64, 60, 32, 64, 62, 32, 64, 61, 60, 32, 64, 62, 61, 32, 105, 115, 32, 61, 58, 61, 32, 61, 92, 61, 32, 60, 32, 62, 32, 61, 60, 32, 62, 61, 32, 61, 46, 46, 32, 35, 61, 32, 35, 92, 61, 32, 35, 60, 32, 35, 62, 32, 35, 61, 60, 32, 35, 62, 61, 32, 105, 110] then (700, 699, 699, true) else
  if inB n [92, 47] then (550, 550, 549, true) else
  if inB n [46, 46] then (450, 449, 449, true) else
  if inB n [43, 32, 45] then (500, 500, 499, true) else
  if inB n [42, 32, 47, 47, 32, 114, 101, 109, 32, 109, 111, 100, 32, 100, 105, 118] then (400, 400, 399, true) else
  if inB n [94] then (200, 199, 200, true) else
  (0, 0, 0, false)
set_option maxRecDepth 100000 in
set_option maxHeartbeats 4000000 in
theorem refI_c (n : ByteArray) (w : World) :
    Calls Tryd.prog 7 #[.string n] w fun e w' => e = .returned (tupI (refI n.data.toList)) ∧ Below w.heap.size w w' := by
  unfold refI
  generalize h0 : inB n.data.toList [58, 45] = b0
  generalize h1 : inB n.data.toList [59] = b1
  generalize h2 : inB n.data.toList [45, 62] = b2
  generalize h3 : inB n.data.toList [44] = b3
  generalize h4 : inB n.data.toList [35, 60, 61, 62] = b4
  generalize h5 : inB n.data.toList [61, 32, 92, 61, 32, 61, 61, 32, 92, 61, 61, 32, 64, 60, 32, 64, 62, 32, 64, 61, 60, 32, 64, 62, 61, 32, 105, 115, 32, 61, 58, 61, 32, 61, 92, 61, 32, 60, 32, 62, 32, 61, 60, 32, 62, 61, 32, 61, 46, 46, 32, 35, 61, 32, 35, 92, 61, 32, 35, 60, 32, 35, 62, 32, 35, 61, 60, 32, 35, 62, 61, 32, 105, 110] = b5
  generalize h6 : inB n.data.toList [92, 47] = b6
  generalize h7 : inB n.data.toList [46, 46] = b7
  generalize h8 : inB n.data.toList [43, 32, 45] = b8
  generalize h9 : inB n.data.toList [42, 32, 47, 47, 32, 114, 101, 109, 32, 109, 111, 100, 32, 100, 105, 118] = b9
  generalize h10 : inB n.data.toList [94] = b10
  go_enter Tryd.func7, Tryd.ntmps7
  go_wp2_with fail
  refine (in_c _ _ _ (by decide)).mono ?_
  rintro e w1 ⟨rfl, hb0⟩
  rw [show inB n.data.toList _ = b0 from h0]
  have H0 := Lib.hid ((Below.refl w.heap.size w).trans (hb0.mono (Below.refl w.heap.size w).size))
  clear hb0 h0
  cases b0
  case true =>
    go_wp2
    (try simp only [Exit.inBlock, Exit.then]); refine bodyPost_ret (res4 rfl _ _ _) rfl ?_
    exact ⟨rfl, H0.out⟩
  go_wp2_with fail
  refine (in_c _ _ _ (by decide)).mono ?_
  rintro e w2 ⟨rfl, hb1⟩
  rw [show inB n.data.toList _ = b1 from h1]
  have H1 := Lib.hid ((H0.out).trans (hb1.mono (H0.out).size))
  clear hb1 h1
  cases b1
  case true =>
    go_wp2
    (try simp only [Exit.inBlock, Exit.then]); refine bodyPost_ret (res4 rfl _ _ _) rfl ?_
    exact ⟨rfl, H1.out⟩
  go_wp2_with fail
  refine (in_c _ _ _ (by decide)).mono ?_
  rintro e w3 ⟨rfl, hb2⟩
  rw [show inB n.data.toList _ = b2 from h2]
  have H2 := Lib.hid ((H1.out).trans (hb2.mono (H1.out).size))
  clear hb2 h2
  cases b2
  case true =>
    go_wp2
    (try simp only [Exit.inBlock, Exit.then]); refine bodyPost_ret (res4 rfl _ _ _) rfl ?_
    exact ⟨rfl, H2.out⟩
  go_wp2_with fail
  refine (in_c _ _ _ (by decide)).mono ?_
  rintro e w4 ⟨rfl, hb3⟩
  rw [show inB n.data.toList _ = b3 from h3]
  have H3 := Lib.hid ((H2.out).trans (hb3.mono (H2.out).size))
  clear hb3 h3
  cases b3
  case true =>
    go_wp2
    (try simp only [Exit.inBlock, Exit.then]); refine bodyPost_ret (res4 rfl _ _ _) rfl ?_
    exact ⟨rfl, H3.out⟩
  go_wp2_with fail
  refine (in_c _ _ _ (by decide)).mono ?_
  rintro e w5 ⟨rfl, hb4⟩
  rw [show inB n.data.toList _ = b4 from h4]
  have H4 := Lib.hid ((H3.out).trans (hb4.mono (H3.out).size))
  clear hb4 h4
  cases b4
  case true =>
    go_wp2
    (try simp only [Exit.inBlock, Exit.then]); refine bodyPost_ret (res4 rfl _ _ _) rfl ?_
    exact ⟨rfl, H4.out⟩
  go_wp2_with fail
  refine (in_c _ _ _ (by decide)).mono ?_
  rintro e w6 ⟨rfl, hb5⟩
  rw [show inB n.data.toList _ = b5 from h5]
  have H5 := Lib.hid ((H4.out).trans (hb5.mono (H4.out).size))
  clear hb5 h5
  cases b5
  case true =>
    go_wp2
    (try simp only [Exit.inBlock, Exit.then]); refine bodyPost_ret (res4 rfl _ _ _) rfl ?_
    exact ⟨rfl, H5.out⟩
  go_wp2_with fail
  refine (in_c _ _ _ (by decide)).mono ?_
  rintro e w7 ⟨rfl, hb6⟩
  rw [show inB n.data.toList _ = b6 from h6]
  have H6 := Lib.hid ((H5.out).trans (hb6.mono (H5.out).size))
  clear hb6 h6
  cases b6
  case true =>
    go_wp2
    (try simp only [Exit.inBlock, Exit.then]); refine bodyPost_ret (res4 rfl _ _ _) rfl ?_
    exact ⟨rfl, H6.out⟩
  go_wp2_with fail
  refine (in_c _ _ _ (by decide)).mono ?_
  rintro e w8 ⟨rfl, hb7⟩
  rw [show inB n.data.toList _ = b7 from h7]
  have H7 := Lib.hid ((H6.out).trans (hb7.mono (H6.out).size))
  clear hb7 h7
  cases b7
  case true =>
    go_wp2
    (try simp only [Exit.inBlock, Exit.then]); refine bodyPost_ret (res4 rfl _ _ _) rfl ?_
    exact ⟨rfl, H7.out⟩
  go_wp2_with fail
  refine (in_c _ _ _ (by decide)).mono ?_
  rintro e w9 ⟨rfl, hb8⟩
  rw [show inB n.data.toList _ = b8 from h8]
  have H8 := Lib.hid ((H7.out).trans (hb8.mono (H7.out).size))
  clear hb8 h8
  cases b8
  case true =>
    go_wp2
    (try simp only [Exit.inBlock, Exit.then]); refine bodyPost_ret (res4 rfl _ _ _) rfl ?_
    exact ⟨rfl, H8.out⟩
  go_wp2_with fail
  refine (in_c _ _ _ (by decide)).mono ?_
  rintro e w10 ⟨rfl, hb9⟩
  rw [show inB n.data.toList _ = b9 from h9]
  have H9 := Lib.hid ((H8.out).trans (hb9.mono (H8.out).size))
  clear hb9 h9
  cases b9
  case true =>
    go_wp2
    (try simp only [Exit.inBlock, Exit.then]); refine bodyPost_ret (res4 rfl _ _ _) rfl ?_
    exact ⟨rfl, H9.out⟩
  go_wp2_with fail
  refine (in_c _ _ _ (by decide)).mono ?_
  rintro e w11 ⟨rfl, hb10⟩
  rw [show inB n.data.toList _ = b10 from h10]
  have H10 := Lib.hid ((H9.out).trans (hb10.mono (H9.out).size))
  clear hb10 h10
  cases b10
  case true =>
    go_wp2
    (try simp only [Exit.inBlock, Exit.then]); refine bodyPost_ret (res4 rfl _ _ _) rfl ?_
    exact ⟨rfl, H10.out⟩
  go_wp2
  (try simp only [Exit.inBlock, Exit.then]); refine bodyPost_ret (res4 rfl _ _ _) rfl ?_
  exact ⟨rfl, H10.out⟩

/-- the document's answer, test by test -/
def refP (n : List UInt8) : Int × Int × Bool :=
  if inB n [58, 45] then (1200, 1199, true) else
  if inB n [92, 43] then (900, 900, true) else
  if inB n [43, 32, 45] then (200, 200, true) else
  (0, 0, false)
set_option maxRecDepth 100000 in
set_option maxHeartbeats 4000000 in
theorem refP_c (n : ByteArray) (w : World) :
    Calls Tryd.prog 9 #[.string n] w fun e w' => e = .returned (tupP (refP n.data.toList)) ∧ Below w.heap.size w w' := by
  unfold refP
  generalize h0 : inB n.data.toList [58, 45] = b0
  generalize h1 : inB n.data.toList [92, 43] = b1
  generalize h2 : inB n.data.toList [43, 32, 45] = b2
  go_enter Tryd.func9, Tryd.ntmps9
  go_wp2_with fail
  refine (in_c _ _ _ (by decide)).mono ?_
  rintro e w1 ⟨rfl, hb0⟩
  rw [show inB n.data.toList _ = b0 from h0]
  have H0 := Lib.hid ((Below.refl w.heap.size w).trans (hb0.mono (Below.refl w.heap.size w).size))
  clear hb0 h0
  cases b0
  case true =>
    go_wp2
    go_ret3
    exact ⟨rfl, H0.out⟩
  go_wp2_with fail
  refine (in_c _ _ _ (by decide)).mono ?_
  rintro e w2 ⟨rfl, hb1⟩
  rw [show inB n.data.toList _ = b1 from h1]
  have H1 := Lib.hid ((H0.out).trans (hb1.mono (H0.out).size))
  clear hb1 h1
  cases b1
  case true =>
    go_wp2
    go_ret3
    exact ⟨rfl, H1.out⟩
  go_wp2_with fail
  refine (in_c _ _ _ (by decide)).mono ?_
  rintro e w3 ⟨rfl, hb2⟩
  rw [show inB n.data.toList _ = b2 from h2]
  have H2 := Lib.hid ((H1.out).trans (hb2.mono (H1.out).size))
  clear hb2 h2
  cases b2
  case true =>
    go_wp2
    go_ret3
    exact ⟨rfl, H2.out⟩
  go_wp2
  go_ret3
  exact ⟨rfl, H2.out⟩

end Go.Proofs.YtnbbcegfcpcndaaDoor.op
