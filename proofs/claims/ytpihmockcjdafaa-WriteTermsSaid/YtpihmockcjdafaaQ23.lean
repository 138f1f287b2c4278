/- The program's writer: the names of variables, atoms, lists, terms.; The program's writer: rows, lists, terms.; The program's writer: term, Named, Write.; The program's Named, Write. -/
import Derived.Test.YtpihmockcjdafaaQ22
import Derived.Test.YtpihmockcjdafaaQ5
import Derived.Deep.RegionHeld3
set_option linter.unusedVariables false
set_option linter.unusedSimpArgs false
section
/- The program's writer: the names of variables, atoms, lists, terms. -/
namespace Go.Proofs.Ytpihmockcjdafaa.wr
open Go.RowKit
open Go.Proofs.Ytpihmockcjdafaa.rd
open Go.Proofs.Ytpihmockcjdafaa.op (bs strC)
open Go.Proofs.Ytpihmockcjdafaa.tx (text)
open Go.Proofs.Ytpihmockcjdafaa.lx (quoteS cell_at isOne toks Qn GM quote_c varX txT txR)
open Go.Proofs.Ytpihmockcjdafaa.nm (Fit)
set_option maxRecDepth 20000

/-- names that lie at nv, ahead of block b -/
structure Nr (b : Nat) (w : World) (nm : List (List UInt8)) (p : Option Addr) (cap : Nat) : Prop where
  le : nm.length ≤ cap
  max : cap ≤ maxLen
  el : ∀ i, i < nm.length → ∃ g o, p = some ⟨g, o, none⟩ ∧ g < b ∧ w.cell? ⟨g, o + i, none⟩ = some (.string (bs (nm.getD i [])))
theorem Nr.stay {b : Nat} {w w' : World} {nm : List (List UInt8)} {p : Option Addr} {cap : Nat} (h : Nr b w nm p cap) (hb : Below b w w') : Nr b w' nm p cap :=
  ⟨h.le, h.max, fun i hi => by
    obtain ⟨g, o, h1, h2, h3⟩ := h.el i hi
    exact ⟨g, o, h1, h2, by unfold World.cell?; rw [hb.block g h2]; exact h3⟩⟩
theorem Nr.up {b b' : Nat} {w : World} {nm : List (List UInt8)} {p : Option Addr} {cap : Nat} (h : Nr b w nm p cap) (hb : b ≤ b') : Nr b' w nm p cap :=
  ⟨h.le, h.max, fun i hi => by
    obtain ⟨g, o, h1, h2, h3⟩ := h.el i hi
    exact ⟨g, o, h1, Nat.lt_of_lt_of_le h2 hb, h3⟩⟩
theorem isE (x : List UInt8) : (bs x).toList.isEmpty = x.isEmpty := by rw [ByteArray.toList_eq]; rfl
set_option maxHeartbeats 2000000 in
theorem variable_c {r : Nat} {l : List UInt8} {p : Option Addr} {cap : Nat} {nm : List (List UInt8)} {n : Int} {w : World} (hW : Wb r (.slice p nm.length cap) l w) (hN : Nr r w nm p cap) (h0 : 0 ≤ n) (hf : Fit n) :
    Calls Try.prog 40 #[.pointer (some ⟨r, 0, none⟩), .int .i64 n] w fun e w' => e = .returned (.string (bs (varX nm n))) ∧ Below w.heap.size w w' := by
  obtain ⟨q, v, hu⟩ := hW
  obtain ⟨_, _, c2, _⟩ := Wu.reads hu.head
  have hm := hN.max
  have hle := hN.le
  have kp := tx.print_c n hf w
  rw [show tx.str (text n) = bs (text n) from rfl] at kp
  have hap : (⟨#[95]⟩ : ByteArray) ++ bs (text n) = bs (95 :: text n) := by unfold bs; apply ByteArray.ext; simp
  have hzs : (bs (text n)).size ≤ 20 := (tx.text_len hf).1
  have hX : Hid (varX nm n = if n.toNat < nm.length ∧ nm.getD n.toNat [] ≠ [] ∧ nm.getD n.toNat [] ≠ [95] then nm.getD n.toNat [] else 95 :: text n) := Lib.hid rfl
  unfold maxLen at hm
  generalize varX nm n = X at *
  clear hu hf
  by_cases hlt : n < nm.length
  · have hnat : n.toNat < nm.length := by omega
    obtain ⟨g, o, rfl, hg, d0⟩ := hN.el n.toNat hnat
    rw [show o + n.toNat = o + n.toNat from rfl] at d0
    have hni : ((n.toNat : Nat) : Int) = n := by omega
    by_cases he : nm.getD n.toNat [] = [] ∨ nm.getD n.toNat [] = [95]
    · obtain rfl : X = 95 :: text n := by rw [hX.out, if_neg (fun h => he.elim h.2.1 h.2.2)]
      clear hX hN
      generalize bs (text n) = z at *
      rcases he with he | he
      all_goals
        rw [he] at d0
        (first | rw [show bs [] = ⟨#[]⟩ from rfl] at d0 | rw [show bs [95] = ⟨#[95]⟩ from rfl] at d0)
        clear he
        go_enter Try.func40, Try.ntmps40
        go_wp2_with fail
        refine kp.mono ?_
        rintro e w1 ⟨rfl, hb⟩
        have HB := Lib.hid hb
        clear hb kp
        go_wp2
        go_ret
        exact ⟨rfl, HB.out⟩
    · have he1 : nm.getD n.toNat [] ≠ [] := fun h => he (.inl h)
      have he2 : nm.getD n.toNat [] ≠ [95] := fun h => he (.inr h)
      obtain rfl : X = nm.getD n.toNat [] := by rw [hX.out, if_pos ⟨hnat, he1, he2⟩]
      have z1 : (bs (nm.getD n.toNat [])).toList.isEmpty = false := by rw [isE]; simpa using he1
      have z2 : ¬ (bs (nm.getD n.toNat [])).toList = [] := by rw [ByteArray.toList_eq]; exact he1
      have z3 : ((bs (nm.getD n.toNat [])).toList == [95]) = false := by rw [ByteArray.toList_eq]; exact beq_eq_false_iff_ne.2 he2
      clear hX hN kp hap hzs he he1 he2
      generalize bs (nm.getD n.toNat []) = z at *
      go_enter Try.func40, Try.ntmps40
      go_wp2
      go_ret
      exact ⟨rfl, Below.refl _ _⟩
  · obtain rfl : X = 95 :: text n := by rw [hX.out, if_neg (by omega)]
    clear hX hN
    generalize bs (text n) = z at *
    go_enter Try.func40, Try.ntmps40
    go_wp2_with fail
    refine kp.mono ?_
    rintro e w1 ⟨rfl, hb⟩
    have HB := Lib.hid hb
    clear hb kp
    go_wp2
    go_ret
    exact ⟨rfl, HB.out⟩
theorem isL (x : List UInt8) : (bs x).toList = x := by rw [ByteArray.toList_eq]; rfl
set_option maxHeartbeats 2000000 in
theorem isAtom_w {u : U} {p : Option Addr} {cap : Nat} {w : World} (x : List UInt8) :
    Calls Try.prog 42 #[uV u (.slice p u.l.length cap), .string (bs x)] w fun e w' => e = .returned (.bool (decide (u.k = 3 ∧ u.s = x))) ∧ Below w.heap.size w w' := by
  have hbb := Lib.hid ((Below.refl w.heap.size w).alloc (Nat.le_refl _) (.cells #[.int .i64 u.k, .int .i64 u.n, .string (bs u.s), .slice p u.l.length cap] 24))
  unfold uV
  have hs := isL u.s
  have hx := isL x
  have hD : Hid (decide (u.k = 3 ∧ u.s = x) = (decide (u.k = 3) && decide (u.s = x))) := Lib.hid (by simp)
  generalize decide (u.k = 3 ∧ u.s = x) = D at *
  by_cases h3 : u.k = 3
  · obtain rfl : D = decide (u.s = x) := by rw [hD.out, decide_eq_true h3]; rfl
    clear hD
    generalize u.k = kk at *
    subst h3
    generalize bs u.s = z at *
    generalize bs x = y at *
    by_cases he : u.s = x
    · have e1 : (z.toList == y.toList) = true := by rw [hs, hx]; simpa using he
      have hd : decide (u.s = x) = true := decide_eq_true he
      rw [hd]
      clear hs hx he hd
      go_enter Try.func42, Try.ntmps42
      go_wp2
      go_ret
      exact ⟨rfl, hbb.out⟩
    · have e1 : (z.toList == y.toList) = false := by rw [hs, hx]; exact beq_eq_false_iff_ne.2 he
      have hd : decide (u.s = x) = false := decide_eq_false he
      rw [hd]
      clear hs hx he hd
      go_enter Try.func42, Try.ntmps42
      go_wp2
      go_ret
      exact ⟨rfl, hbb.out⟩
  · obtain rfl : D = false := by rw [hD.out, decide_eq_false h3]; rfl
    have e3 : (u.k == 3) = false := beq_eq_false_iff_ne.2 h3
    clear hD hs hx h3
    go_enter Try.func42, Try.ntmps42
    go_wp2
    go_ret
    exact ⟨rfl, hbb.out⟩
set_option maxHeartbeats 2000000 in
theorem isCell_w {u : U} {p : Option Addr} {cap : Nat} {w : World} (hm : u.l.length ≤ maxLen) :
    Calls Try.prog 43 #[uV u (.slice p u.l.length cap)] w fun e w' => e = .returned (.bool (decide (cellU u))) ∧ Below w.heap.size w w' := by
  have hbb := Lib.hid ((Below.refl w.heap.size w).alloc (Nat.le_refl _) (.cells #[.int .i64 u.k, .int .i64 u.n, .string (bs u.s), .slice p u.l.length cap] 24))
  unfold maxLen at hm
  unfold uV
  have hs := isL u.s
  have hD : Hid (decide (cellU u) = (decide (u.k = 4) && (decide (u.s = [46]) && decide (u.l.length = 2)))) := Lib.hid (by rw [Bool.eq_iff_iff, decide_eq_true_iff]; simp [cellU])
  generalize decide (cellU u) = D at *
  generalize u.l.length = ll at *
  by_cases h4 : u.k = 4
  · rw [decide_eq_true h4, Bool.true_and] at hD
    generalize u.k = kk at *
    subst h4
    generalize bs u.s = z at *
    by_cases he : u.s = [46]
    · have e1 : (z.toList == [46]) = true := by rw [hs, he]; rfl
      rw [decide_eq_true he, Bool.true_and] at hD
      clear hs he
      by_cases h2 : ll = 2
      · subst h2
        obtain rfl : D = true := hD.out
        clear hD
        go_enter Try.func43, Try.ntmps43
        go_wp2
        go_ret
        exact ⟨rfl, hbb.out⟩
      · obtain rfl : D = false := by rw [hD.out, decide_eq_false h2]
        have e2 : ((ll : Int) == 2) = false := beq_eq_false_iff_ne.2 (by omega)
        clear hD h2
        go_enter Try.func43, Try.ntmps43
        go_wp2
        go_ret
        exact ⟨rfl, hbb.out⟩
    · have e1 : (z.toList == [46]) = false := by rw [hs]; exact beq_eq_false_iff_ne.2 he
      obtain rfl : D = false := by rw [hD.out, decide_eq_false he]; rfl
      clear hs he hD
      go_enter Try.func43, Try.ntmps43
      go_wp2
      go_ret
      exact ⟨rfl, hbb.out⟩
  · obtain rfl : D = false := by rw [hD.out, decide_eq_false h4]; rfl
    have e4 : (u.k == 4) = false := beq_eq_false_iff_ne.2 h4
    clear hD hs h4
    go_enter Try.func43, Try.ntmps43
    go_wp2
    go_ret
    exact ⟨rfl, hbb.out⟩
end Go.Proofs.Ytpihmockcjdafaa.wr
end
section
/- The program's writer: rows, lists, terms. -/
namespace Go.Proofs.Ytpihmockcjdafaa.wr
open Go.RowKit
open Go.Proofs.Ytpihmockcjdafaa.rd
open Go.Proofs.Ytpihmockcjdafaa.op (bs strC)
open Go.Proofs.Ytpihmockcjdafaa.tx (text)
open Go.Proofs.Ytpihmockcjdafaa.lx (quoteS cell_at isOne toks Qn GM quote_c varX txT txR)
open Go.Proofs.Ytpihmockcjdafaa.nm (Fit)
set_option maxRecDepth 20000

/-- behind a call of the writer's: so many bytes more, nothing else turned -/
def WQ (r : Nat) (nv : Value) (l : List UInt8) (w : World) (e : Ending) (w' : World) : Prop := e = .returned (.tuple #[]) ∧ Wb r nv l w' ∧ Fw r w w'
/-- what a writer leans on -/
structure We (r : Nat) (p : Option Addr) (cap : Nat) (nm : List (List UInt8)) (l : List UInt8) (w : World) : Prop where
  gm : GM w
  lo : 0 < r
  nr : Nr r w nm p cap
  wb : Wb r (.slice p nm.length cap) l w
theorem We.lt {r : Nat} {p : Option Addr} {cap : Nat} {nm : List (List UInt8)} {l : List UInt8} {w : World} (h : We r p cap nm l w) : r < w.heap.size := h.wb.lt
theorem We.stay {r : Nat} {p : Option Addr} {cap : Nat} {nm : List (List UInt8)} {l : List UInt8} {w w' : World} (h : We r p cap nm l w) (hb : Below w.heap.size w w') : We r p cap nm l w' :=
  ⟨h.gm.below hb (by have := h.lt; have := h.lo; omega), h.lo, h.nr.stay (hb.mono (by have := h.lt; omega)), h.wb.stay hb⟩
theorem We.next {r : Nat} {p : Option Addr} {cap : Nat} {nm : List (List UInt8)} {l m : List UInt8} {w w' : World} (h : We r p cap nm l w) (hw : Wb r (.slice p nm.length cap) m w') (hF : Fw r w w') : We r p cap nm m w' :=
  have hb := hF.below (Nat.le_of_lt h.lt)
  ⟨h.gm.below hb h.lo, h.lo, h.nr.stay hb, hw⟩
theorem We.set {r : Nat} {p : Option Addr} {cap : Nat} {nm : List (List UInt8)} {l : List UInt8} {w : World} (h : We r p cap nm l w) {q : Addr} {cs : Array Value} {t : TypeId} {fr : Nat × Nat} (hp : w.heap[q.block]? = some (.cells cs t fr)) (hr : r < q.block) (ht : 5 ≠ t) (u : Value) : We r p cap nm l (w.setCell q u) := by
  have hb : Below r w (w.setCell q u) := (Below.refl r w).setCell (by omega) _
  exact ⟨h.gm.below hb h.lo, h.lo, h.nr.stay hb, h.wb.set hp (by omega) ht u⟩
/-- term writes a term's text -/
abbrev TmW (u : U) : Prop := ∀ (r : Nat) (p : Option Addr) (cap : Nat) (nm : List (List UInt8)) (l : List UInt8) (a : Value) (w : World), We r p cap nm l w → okU u → qnU u → Ru r w u a → l.length + (txT nm (er u)).length ≤ 100000000 →
  Calls Try.prog 22 #[.pointer (some ⟨r, 0, none⟩), uV u a] w (WQ r (.slice p nm.length cap) (l ++ txT nm (er u)) w)
theorem rowX_at {nm : List (List UInt8)} {h : List UInt8} {l : List U} {i : Nat} (hi : i < l.length) : rowX nm h (l.drop i) = h ++ (txT nm (er (l.getD i dfU)) ++ rowX nm [44] (l.drop (i + 1))) := by
  rw [drop_cons hi, rowX]
set_option maxHeartbeats 4000000 in
theorem row_w {l : List U} (ih : ∀ i, i < l.length → TmW (l.getD i dfU)) {r : Nat} {p q : Option Addr} {cap cq : Nat} {nm : List (List UInt8)} {x h : List UInt8} {w : World} (hE : We r p cap nm x w) (hh : h.length ≤ 1) (ho : okUL l) (hq : qnUL l) (hP : Pu r w l q cq) (hx : x.length + (rowX nm h l).length ≤ 100000000) :
    Calls Try.prog 45 #[.pointer (some ⟨r, 0, none⟩), .string (bs h), .slice q l.length cq] w (WQ r (.slice p nm.length cap) (x ++ rowX nm h l) w) := by
  have hm := hP.max
  have hle := hP.le
  unfold maxLen at hm
  have HE := Lib.hid hE
  have HP := Lib.hid hP
  have IH := Lib.hid ih
  have HO := Lib.hid ho
  have HQ := Lib.hid hq
  clear hE hP ih ho hq
  go_enter Try.func45, Try.ntmps45
  go_wp2
  go_loopg [1, 10] l.length (fun k v1 v10 wr => ∃ (i : Nat) (h' x' : List UInt8), k = l.length - i ∧ i ≤ l.length ∧ v1 = .string (bs h') ∧ v10 = .int .i64 i ∧ h'.length ≤ 1 ∧ Hid (We r p cap nm x' wr) ∧ Hid (Fw r w wr) ∧ Hid (x' ++ rowX nm h' (l.drop i) = x ++ rowX nm h l))
  case atStart => exact ⟨0, h, x, by omega, by omega, rfl, rfl, hh, HE, Lib.hid (Fw.refl _ _), Lib.hid rfl⟩
  case round =>
    obtain ⟨i, h', x', hgk, hi, rfl, rfl, hh', HW, HF, HX⟩ := hrel
    by_cases hlt : i < l.length
    · have hlt2 : (i : Int) < l.length := by omega
      have i4 : (0 : Int) ≤ (i : Int) := by omega
      have hww := HF.out.below (Nat.le_of_lt HE.out.lt)
      obtain ⟨g, o, a, hpe, hgl, d0, d1, d2, d3, hR⟩ := (HP.out.stay hww).el i hlt
      subst hpe
      obtain ⟨p', cap', rfl, _, _⟩ := hR.parts
      have hxx := HX.out
      rw [rowX_at hlt] at hxx
      have hlen := congrArg List.length hxx
      simp only [List.length_append] at hlen
      have ih0 := IH.out i hlt
      have ho0 := okUL_at HO.out i hlt
      have hq0 := qnUL_at HQ.out i hlt
      generalize l.getD i dfU = y at *
      have hb3 := (Below.refl wr.heap.size wr).alloc (Nat.le_refl _) (.cells #[.int .i64 y.k, .int .i64 y.n, .string (bs y.s), .slice p' y.l.length cap'] 24)
      have hbx := heap_alloc_new wr (.cells #[.int .i64 y.k, .int .i64 y.n, .string (bs y.s), .slice p' y.l.length cap'] 24)
      have HW1 := Lib.hid (HW.out.stay hb3)
      have kw := wString_c h' HW1.out.wb (by omega)
      have HL : Hid ((x' ++ h').length + (txT nm (er y)).length ≤ 100000000) := Lib.hid (by rw [List.length_append]; omega)
      have HF1 := Lib.hid (HF.out.trans (Fw.of hb3))
      have HBX := Lib.hid hbx
      have HR := Lib.hid (hR.stay (hb3.mono (Nat.le_of_lt HW.out.lt)))
      have hrl := HW.out.lt
      have HXX := Lib.hid hxx
      have HI := Lib.hid ih0
      clear hR hww hb3 hbx hxx HX ih0 IH HP HO HQ HE
      go_wp2_with fail
      refine kw.mono ?_
      rintro e w2 ⟨⟨v, rfl⟩, hw2, hF2⟩
      have HW2 := Lib.hid (HW1.out.next hw2 hF2)
      have hbx2 := hF2.keep HBX.out (by omega) (by decide)
      obtain ⟨x0, x1, x2, x3, _⟩ := cells4 hbx2
      have HF2 := Lib.hid (HF1.out.trans hF2)
      have kx := HI.out r p cap nm (x' ++ h') _ w2 HW2.out ho0 hq0 (HR.out.stay (hF2.below (Nat.le_of_lt HW1.out.lt))) HL.out
      unfold uV at kx
      clear hw2 hF2 hbx2 kw HW1 HF1 HR HBX
      go_wp2_with fail
      refine kx.mono ?_
      rintro e w3 ⟨rfl, hw3, hF3⟩
      have HW3 := Lib.hid (HW2.out.next hw3 hF3)
      have HF3 := Lib.hid (HF2.out.trans hF3)
      have HX3 : Hid (x' ++ h' ++ txT nm (er y) ++ rowX nm [44] (l.drop (i + 1)) = x ++ rowX nm h l) := Lib.hid (by rw [← HXX.out]; simp only [List.append_assoc])
      clear hw3 hF3 kx HW2 HF2 HXX x0 x1 x2 x3
      go_wp2
      go_roundg (l.length - (i + 1))
      case measure => omega
      case rel => exact ⟨i + 1, [44], x' ++ h' ++ txT nm (er y), rfl, by omega, rfl, by go_num, by simp, HW3, HF3, HX3⟩
    · have hlt2 : ¬ ((i : Int) < l.length) := by omega
      have hxx := HX.out
      rw [List.drop_eq_nil_of_le (by omega), rowX, List.append_nil] at hxx
      have HXX := Lib.hid hxx
      clear hxx HX
      go_wp2
      go_end0
      exact ⟨rfl, by rw [← HXX.out]; exact HW.out.wb, HF.out⟩
theorem ru_len {b : Nat} {w : World} {u : U} {a : Value} (h : Ru b w u a) : u.l.length ≤ maxLen := by
  obtain ⟨p, c, _, h1, h2, _⟩ := h.opened; omega
theorem box4 {w : World} {B : Nat} {a0 a1 a2 a3 : Value} {t : TypeId} (h : w.heap[B]? = some (.cells #[a0, a1, a2, a3] t (0, 0))) (b0 b1 b2 b3 : Value) :
    ((((w.setCell ⟨B, 0, none⟩ b0).setCell ⟨B, 1, none⟩ b1).setCell ⟨B, 2, none⟩ b2).setCell ⟨B, 3, none⟩ b3).heap[B]? = some (.cells #[b0, b1, b2, b3] t (0, 0)) ∧
    (∀ k, k ≠ B → ((((w.setCell ⟨B, 0, none⟩ b0).setCell ⟨B, 1, none⟩ b1).setCell ⟨B, 2, none⟩ b2).setCell ⟨B, 3, none⟩ b3).heap[k]? = w.heap[k]?) ∧
    Below B w ((((w.setCell ⟨B, 0, none⟩ b0).setCell ⟨B, 1, none⟩ b1).setCell ⟨B, 2, none⟩ b2).setCell ⟨B, 3, none⟩ b3) := by
  have p1 := heap_set_at (j := 0) (v := b0) h
  have p2 := heap_set_at (j := 1) (v := b1) p1
  have p3 := heap_set_at (j := 2) (v := b2) p2
  have p4 := heap_set_at (j := 3) (v := b3) p3
  refine ⟨p4, fun k hk => ?_, ((((Below.refl B w).setCell (p := ⟨B, 0, none⟩) (Nat.le_refl _) _).setCell (p := ⟨B, 1, none⟩) (Nat.le_refl _) _).setCell (p := ⟨B, 2, none⟩) (Nat.le_refl _) _).setCell (p := ⟨B, 3, none⟩) (Nat.le_refl _) _⟩
  rw [Below.heap_setCell _ _ _ _ (by exact hk), Below.heap_setCell _ _ _ _ (by exact hk), Below.heap_setCell _ _ _ _ (by exact hk), Below.heap_setCell _ _ _ _ (by exact hk)]
theorem We.box {r : Nat} {p : Option Addr} {cap : Nat} {nm : List (List UInt8)} {l : List UInt8} {w w' : World} (h : We r p cap nm l w) {B : Nat} {cs : Array Value} {t : TypeId} {fr : Nat × Nat} (hB : w.heap[B]? = some (.cells cs t fr)) (hr : r < B) (ht : 5 ≠ t) (hk : ∀ k, k ≠ B → w'.heap[k]? = w.heap[k]?) (hb : Below B w w') : We r p cap nm l w' := by
  have hb' : Below r w w' := hb.mono (by omega)
  obtain ⟨q, v, hu⟩ := h.wb
  exact ⟨h.gm.below hb' h.lo, h.lo, h.nr.stay hb', q, v, hu.kept (hk r (by omega)) fun k cs' fr' hc => by rw [hk k (fun e => by subst e; rw [hB] at hc; cases hc; exact ht rfl)]; exact hc⟩
/-- the text from an element on: `[` or `,` ahead of it -/
def hX (nm : List (List UInt8)) (first : Bool) (u : U) : List UInt8 := if first = true then txT nm (er u) else txR nm (er u)
def hS (first : Bool) : List UInt8 := if first = true then [91] else [44]
theorem hX_cell {nm : List (List UInt8)} {first : Bool} {u : U} (h : cellU u) : hX nm first u = hS first ++ (txT nm (er (fstU u)) ++ txR nm (er (sndU u))) := by
  unfold hX hS
  cases first
  · rw [if_neg (by decide), if_neg (by decide), er_cellR h]; rfl
  · rw [if_pos rfl, if_pos rfl, er_cellT h]; rfl
theorem snd_lt {u : U} (h : cellU u) : szU (sndU u) < szU u ∧ szU (fstU u) < szU u := by
  rw [szU_eq u, if_pos h.1, two_of h.2.2]
  simp only [szUL]
  have := szU_pos (fstU u)
  have := szU_pos (sndU u)
  omega
theorem cell_parts {u : U} (h : cellU u) (ho : okU u) (hq : qnU u) : okU (fstU u) ∧ okU (sndU u) ∧ qnU (fstU u) ∧ qnU (sndU u) := by
  have hol : okUL u.l := by
    have := h.1
    rw [okU_iff] at ho; rcases ho with ⟨h, _⟩ | h | ⟨h, _⟩ | ⟨_, _, _, h⟩ <;> first | omega | exact h
  have h2 := h.2.2
  exact ⟨okUL_at hol 0 (by omega), okUL_at hol 1 (by omega), qnUL_at hq.sp.2 0 (by omega), qnUL_at hq.sp.2 1 (by omega)⟩
def Vs (f : Bool) (v u : U) : Prop := (f = true → v = u) ∧ szU v ≤ szU u ∧ (f = false → szU v < szU u)
theorem drew1 (w : World) : Below w.heap.size w w.drew := ⟨rfl, rfl, rfl, Nat.le_refl _, fun _ _ => rfl⟩
set_option maxHeartbeats 4000000 in
theorem list_w {u : U} (hc : cellU u) (ih : ∀ v, szU v < szU u → TmW v) {r : Nat} {p : Option Addr} {cap : Nat} {nm : List (List UInt8)} {x : List UInt8} {a : Value} {w : World} (hE : We r p cap nm x w) (ho : okU u) (hq : qnU u) (hR : Ru r w u a) (hx : x.length + (txT nm (er u)).length ≤ 100000000) :
    Calls Try.prog 44 #[.pointer (some ⟨r, 0, none⟩), uV u a] w (WQ r (.slice p nm.length cap) (x ++ txT nm (er u)) w) := by
  obtain ⟨pu, cu, rfl, _, _⟩ := hR.parts
  have hbb := (Below.refl w.heap.size w).alloc (Nat.le_refl _) (.cells #[.int .i64 u.k, .int .i64 u.n, .string (bs u.s), .slice pu u.l.length cu] 24)
  have hbx := Lib.hid (heap_alloc_new w (.cells #[.int .i64 u.k, .int .i64 u.n, .string (bs u.s), .slice pu u.l.length cu] 24))
  have HE0 := Lib.hid (hE.stay hbb)
  have HF0 := Lib.hid (Fw.of (r := r) hbb)
  have HR0 := Lib.hid (hR.stay (hbb.mono (Nat.le_of_lt hE.lt)))
  have hrl := hE.lt
  have HC := Lib.hid hc
  have HO := Lib.hid ho
  have HQ := Lib.hid hq
  have IH := Lib.hid ih
  unfold uV
  clear hbb hE hR hc ho hq ih
  go_enter Try.func44, Try.ntmps44
  go_wp2
  generalize (w.alloc (.cells #[.int .i64 u.k, .int .i64 u.n, .string (bs u.s), .slice pu u.l.length cu] 24)) = W0 at *
  go_loopg [4] (szU u) (fun k v4 wr => ∃ (f : Bool) (v : U) (pv : Option Addr) (cv : Nat) (x' : List UInt8), k = szU v ∧ v4 = .string (bs (hS f)) ∧ Hid (Vs f v u) ∧ okU v ∧ qnU v ∧ Hid (We r p cap nm x' wr) ∧ Hid (Fw r w wr) ∧
    Hid (Ru r wr v (.slice pv v.l.length cv)) ∧ Hid (wr.heap[w.heap.size]? = some (.cells #[.int .i64 v.k, .int .i64 v.n, .string (bs v.s), .slice pv v.l.length cv] 24 (0, 0))) ∧ Hid (x' ++ hX nm f v = x ++ txT nm (er u)))
  case atStart => exact ⟨true, u, pu, cu, x, rfl, rfl, Lib.hid ⟨fun _ => rfl, Nat.le_refl _, fun h => nomatch h⟩, HO.out, HQ.out, HE0, HF0, HR0, hbx, Lib.hid rfl⟩
  case round =>
    obtain ⟨f, v, pv, cv, x', rfl, rfl, HV, hov, hqv, HW, HF, HR, HB, HX⟩ := hrel
    obtain ⟨x0, x1, x2, x3, _⟩ := cells4 HB.out
    have hlm := ru_len HR.out
    have kc := isCell_w (u := v) (p := pv) (cap := cv) (w := wr) hlm
    have hBlt := lt_of HB.out
    unfold maxLen at hlm
    unfold uV at kc
    by_cases hcv : cellU v
    · rw [decide_eq_true hcv] at kc
      obtain ⟨o1, o2, q1, q2⟩ := cell_parts hcv hov hqv
      have hsl := snd_lt hcv
      obtain ⟨pv', cv', e9, _, hP⟩ := HR.out.parts
      injection e9 with e91 _ e93
      subst e91 e93
      have h2 := hcv.2.2
      have hxx := HX.out
      rw [hX_cell hcv] at hxx
      have hlen := congrArg List.length hxx
      simp only [List.length_append] at hlen
      have hrow : ∀ w2, We r p cap nm x' w2 → Pu r w2 v.l pv cv → Calls Try.prog 45 #[.pointer (some ⟨r, 0, none⟩), .string (bs (hS f)), .slice pv 1 cv] w2 (WQ r (.slice p nm.length cap) (x' ++ (hS f ++ txT nm (er (fstU v)))) w2) := fun w2 h1 h3 => by
        have ht : v.l.take 1 = [fstU v] := by rw [two_of h2]; rfl
        have h4 := h3.take 1
        rw [ht] at h4
        have hrx : rowX nm (hS f) [fstU v] = hS f ++ txT nm (er (fstU v)) := by rw [rowX, rowX, List.append_nil]
        have := row_w (l := [fstU v]) (fun i hi => by
          have : i = 0 := by simpa using hi
          subst this
          have hV := HV.out.2.1
          exact IH.out (fstU v) (by omega)) h1 (h := hS f) (by unfold hS; split <;> simp) (by rw [okUL, okUL]; exact ⟨o1, trivial⟩) (by rw [qnUL, qnUL]; exact ⟨q1, trivial⟩) h4 (by rw [hrx, List.length_append]; omega)
        rw [hrx] at this
        exact this
      have HXX := Lib.hid hxx
      obtain ⟨g, o, a2, hpe, hgl, d0, d1, d2, d3, hR2⟩ := hP.el 1 (by omega)
      subst hpe
      obtain ⟨p', cap', rfl, _, _⟩ := hR2.parts
      rw [show v.l.getD 1 dfU = sndU v from rfl] at d0 d1 d2 d3 hR2
      have HD := Lib.hid (And.intro d0 (And.intro d1 (And.intro d2 d3)))
      have HR2 := Lib.hid hR2
      have HP := Lib.hid hP
      have HH := Lib.hid hrow
      have hcap2 : (1 : Nat) ≤ cv := by have := hP.le; omega
      have H2 := Lib.hid h2
      rw [h2] at kc
      rw [h2] at x3
      clear d0 d1 d2 d3 hR2 hP hxx hrow HX h2
      go_wp2_with fail
      refine kc.mono ?_
      rintro e w1 ⟨rfl, hb1⟩
      have hbr := hb1.mono (Nat.le_of_lt HW.out.lt)
      have kr := HH.out w1 (HW.out.stay hb1) (HP.out.stay hbr)
      have hB1 := (hb1.block w.heap.size hBlt).trans HB.out
      rw [H2.out] at hB1
      obtain ⟨y0, y1, y2, y3, _⟩ := cells4 hB1
      have HB1 := Lib.hid hB1
      have HW1 := Lib.hid (HW.out.stay hb1)
      have HF1 := Lib.hid (HF.out.trans (Fw.of hb1))
      have HR21 := Lib.hid (HR2.out.stay hbr)
      have HD1 := Lib.hid hbr
      clear hb1 hbr hB1 kc x0 x1 x2 x3 HB HW HF HP HH
      go_wp2_with fail
      refine kr.mono ?_
      rintro e w2 ⟨rfl, hw2, hF2⟩
      have hbr2 := hF2.below (Nat.le_of_lt HW1.out.lt)
      have hB2 := hF2.keep HB1.out (by omega) (by decide)
      have hB2lt := lt_of hB2
      obtain ⟨z0, z1, z2, z3, zf⟩ := cells4 hB2
      have HB2 := Lib.hid hB2
      have HW2 := Lib.hid (HW1.out.next hw2 hF2)
      have HF2 := Lib.hid (HF1.out.trans hF2)
      have HR22 := Lib.hid (HR21.out.stay hbr2)
      have hbr3 := HD1.out.trans hbr2
      obtain ⟨d0, d1, d2, d3⟩ := HD.out
      have xc : ∀ j : Nat, w2.cell? ⟨g, j, none⟩ = wr.cell? ⟨g, j, none⟩ := fun j => by unfold World.cell?; rw [hbr3.block g hgl]
      rw [← xc] at d0 d1 d2 d3
      have hgB : g ≠ w.heap.size := by omega
      clear hw2 hF2 hbr2 hB2 hbr3 xc kr y0 y1 y2 y3 HB1 HW1 HF1 HR21 HD1 HD
      obtain ⟨b1, b2, b3⟩ := box4 HB2.out (.int .i64 (sndU v).k) (.int .i64 (sndU v).n) (.string (bs (sndU v).s)) (.slice p' (sndU v).l.length cap')
      have HBX := Lib.hid b1
      have HW3 := Lib.hid (HW2.out.box HB2.out hrl (by decide) b2 b3)
      have HF3 : Hid (Fw r w _) := Lib.hid ⟨b3.os.trans HF2.out.os, b3.tape.trans HF2.out.tape, b3.output.trans HF2.out.output, Nat.le_trans HF2.out.size b3.size, fun k hk hr hn => (b2 k (by omega)).trans (HF2.out.block k hk hr hn)⟩
      have HR3 := Lib.hid (HR22.out.stay (b3.mono (by omega)))
      have HX3 : Hid ((x' ++ (hS f ++ txT nm (er (fstU v)))) ++ hX nm false (sndU v) = x ++ txT nm (er u)) := Lib.hid (by rw [← HXX.out]; unfold hX; simp [List.append_assoc])
      have HV3 : Hid (Vs false (sndU v) u) := Lib.hid ⟨fun h => (nomatch h), by have := HV.out.2.1; omega, fun _ => by have := HV.out.2.1; omega⟩
      clear b1 b2 b3 HB2 HW2 HF2 HR2 HR22 HXX HV
      go_wp2_with fail
      go_region
      all_goals
        go_wp2
        go_roundg (szU (sndU v))
        case measure => omega
        case rel => exact ⟨false, sndU v, p', cap', _, rfl, rfl, HV3, o2, q2, Lib.hid (HW3.out.stay (drew1 _)), Lib.hid (HF3.out.trans (Fw.of (drew1 _))), Lib.hid (HR3.out.stay ((drew1 _).mono (Nat.le_of_lt HW3.out.lt))), HBX, HX3⟩
    · rw [decide_eq_false hcv] at kc
      obtain rfl : f = false := by
        cases f
        · rfl
        · rw [HV.out.1 rfl] at hcv; exact absurd HC.out hcv
      have hxx := HX.out
      unfold hX at hxx
      rw [if_neg (by decide), er_end hcv] at hxx
      have hvu := HV.out.2.2 rfl
      clear HX HC
      go_wp2_with fail
      refine kc.mono ?_
      rintro e w1 ⟨rfl, hb1⟩
      have hB1 := (hb1.block w.heap.size hBlt).trans HB.out
      obtain ⟨y0, y1, y2, y3, _⟩ := cells4 hB1
      have HB1 := Lib.hid hB1
      have HW1 := Lib.hid (HW.out.stay hb1)
      have HF1 := Lib.hid (HF.out.trans (Fw.of hb1))
      have HR1 := Lib.hid (HR.out.stay (hb1.mono (Nat.le_of_lt HW.out.lt)))
      have ka := isAtom_w (u := v) (p := pv) (cap := cv) (w := w1) [91, 93]
      have kt := IH.out v hvu
      unfold uV at ka kt
      clear hb1 hB1 kc x0 x1 x2 x3 HB HW HF HR
      go_wp2_with fail
      refine ka.mono ?_
      by_cases hn : nilU v
      · rw [if_pos hn] at hxx
        have HXX := Lib.hid hxx
        rw [show decide (v.k = 3 ∧ v.s = [91, 93]) = true from decide_eq_true hn]
        rintro e w2 ⟨rfl, hb2⟩
        have HW2 := Lib.hid (HW1.out.stay hb2)
        have HF2 := Lib.hid (HF1.out.trans (Fw.of hb2))
        have hlen := congrArg List.length hxx
        simp only [List.length_append, List.length_singleton] at hlen
        have kw := wString_c [93] HW2.out.wb (by simp; omega)
        rw [show bs [93] = ⟨#[93]⟩ from rfl] at kw
        clear hb2 ka hxx hlen HW1 HF1
        go_wp2_with fail
        refine kw.mono ?_
        rintro e w3 ⟨⟨v', rfl⟩, hw3, hF3⟩
        have HW3 := Lib.hid hw3
        have HF3 := Lib.hid (HF2.out.trans hF3)
        clear hw3 hF3 kw
        go_wp2
        go_end0
        exact ⟨rfl, by rw [← HXX.out]; exact HW3.out, HF3.out⟩
      · rw [if_neg hn] at hxx
        have HXX := Lib.hid hxx
        rw [show decide (v.k = 3 ∧ v.s = [91, 93]) = false from decide_eq_false hn]
        rintro e w2 ⟨rfl, hb2⟩
        have hB2 := (hb2.block w.heap.size (lt_of HB1.out)).trans HB1.out
        have HB2 := Lib.hid hB2
        have HW2 := Lib.hid (HW1.out.stay hb2)
        have HF2 := Lib.hid (HF1.out.trans (Fw.of hb2))
        have HR2 := Lib.hid (HR1.out.stay (hb2.mono (Nat.le_of_lt HW1.out.lt)))
        have hlen := congrArg List.length hxx
        simp only [List.length_append, List.length_cons, List.length_nil] at hlen
        have HL := Lib.hid hlen
        have kw := wString_c [124] HW2.out.wb (by simp; omega)
        rw [show bs [124] = ⟨#[124]⟩ from rfl] at kw
        clear hb2 hB2 ka hxx hlen HW1 HF1 HB1 HR1 y0 y1 y2 y3
        go_wp2_with fail
        refine kw.mono ?_
        rintro e w3 ⟨⟨v', rfl⟩, hw3, hF3⟩
        have hB3 := hF3.keep HB2.out (by omega) (by decide)
        obtain ⟨z0, z1, z2, z3, _⟩ := cells4 hB3
        have HW3 := Lib.hid (HW2.out.next hw3 hF3)
        have HF3 := Lib.hid (HF2.out.trans hF3)
        have k3 := kt r p cap nm _ _ w3 HW3.out hov hqv (HR2.out.stay (hF3.below (Nat.le_of_lt HW2.out.lt))) (by have := HL.out; simp only [List.length_append, List.length_cons, List.length_nil]; omega)
        clear hw3 hF3 kw kt HW2 HF2 HB2 HR2 hB3
        go_wp2_with fail
        refine k3.mono ?_
        rintro e w4 ⟨rfl, hw4, hF4⟩
        have HF4 := Lib.hid (HF3.out.trans hF4)
        have kw := wString_c [93] hw4 (by have := HL.out; simp only [List.length_append, List.length_cons, List.length_nil]; omega)
        rw [show bs [93] = ⟨#[93]⟩ from rfl] at kw
        clear hw4 hF4 k3 HF3 HW3 z0 z1 z2 z3
        go_wp2_with fail
        refine kw.mono ?_
        rintro e w5 ⟨⟨v', rfl⟩, hw5, hF5⟩
        have HW5 := Lib.hid hw5
        have HF5 := Lib.hid (HF4.out.trans hF5)
        have HX5 : Hid (x' ++ [124] ++ txT nm (er v) ++ [93] = x ++ txT nm (er u)) := Lib.hid (by rw [← HXX.out]; simp [List.append_assoc])
        clear hw5 hF5 kw
        go_wp2
        go_end0
        exact ⟨rfl, by rw [← HX5.out]; exact HW5.out, HF5.out⟩
end Go.Proofs.Ytpihmockcjdafaa.wr
end
section
/- The program's writer: term, Named, Write. -/
namespace Go.Proofs.Ytpihmockcjdafaa.wr
open Go.RowKit
open Go.Proofs.Ytpihmockcjdafaa.rd
open Go.Proofs.Ytpihmockcjdafaa.op (bs strC)
open Go.Proofs.Ytpihmockcjdafaa.tx (text)
open Go.Proofs.Ytpihmockcjdafaa.lx (quoteS cell_at isOne toks Qn GM quote_c varX txT txR)
open Go.Proofs.Ytpihmockcjdafaa.nm (Fit)
set_option maxRecDepth 20000

theorem drewN1 (w : World) (n : Nat) : Below w.heap.size w (w.drewN n) := ⟨rfl, rfl, rfl, Nat.le_refl _, fun _ _ => rfl⟩
theorem box_cells {w : World} {B : Nat} {a0 a1 a2 a3 : Value} {t : TypeId} (h : w.heap[B]? = some (.cells #[a0, a1, a2, a3] t (0, 0))) : w.cell? ⟨B, 0, none⟩ = some a0 ∧ w.cell? ⟨B, 1, none⟩ = some a1 ∧ w.cell? ⟨B, 2, none⟩ = some a2 ∧ w.cell? ⟨B, 3, none⟩ = some a3 := by
  obtain ⟨x0, x1, x2, x3, _⟩ := cells4 h; exact ⟨x0, x1, x2, x3⟩
theorem part_sz {u : U} (h4 : u.k = 4) {i : Nat} (hi : i < u.l.length) : szU (u.l.getD i dfU) < szU u := by
  rw [szU_eq u, if_pos h4]
  have key : ∀ (l : List U) (i : Nat), i < l.length → szU (l.getD i dfU) ≤ szUL l := by
    intro l
    induction l with
    | nil => intro i hi; exact absurd hi (Nat.not_lt_zero _)
    | cons x l ih =>
      intro i hi
      rw [szUL]
      cases i with
      | zero => simp
      | succ i => have := ih i (by simpa using hi); simp only [List.getD_cons_succ]; omega
  have := key u.l i hi
  omega

set_option maxHeartbeats 4000000 in
theorem term_var {u : U} (h1 : u.k = 1) : TmW u := by
  intro r p cap nm l a w hE ho hq hR hx
  have h0 : 0 ≤ u.n := by rw [okU_iff] at ho; omega
  rw [er_var h1] at hx ⊢
  obtain ⟨pu, cu, rfl, hf, hPu⟩ := hR.parts
  have hbb := (Below.refl w.heap.size w).alloc (Nat.le_refl _) (.cells #[.int .i64 u.k, .int .i64 u.n, .string (bs u.s), .slice pu u.l.length cu] 24)
  have hbx := heap_alloc_new w (.cells #[.int .i64 u.k, .int .i64 u.n, .string (bs u.s), .slice pu u.l.length cu] 24)
  obtain ⟨x0, x1, x2, x3, _⟩ := cells4 hbx
  have HBX := Lib.hid hbx
  have HE0 := Lib.hid (hE.stay hbb)
  have HF0 := Lib.hid (Fw.of (r := r) hbb)
  have hrl := hE.lt
  have kv := fun (W : World) (h : We r p cap nm l W) => variable_c h.wb h.nr h0 hf
  have kw := fun (W : World) (h : We r p cap nm l W) => wString_c (varX nm u.n) h.wb hx
  unfold uV
  generalize varX nm u.n = X at *
  generalize u.n = nn at *
  generalize bs u.s = ss at *
  generalize u.k = kk at *
  subst h1
  clear hbb hE hR ho hq hbx hx hPu hf
  go_enter Try.func22, Try.ntmps22
  go_wp2_with fail
  go_region_held3 (fun w' => w'.cell? ⟨w.heap.size, 0, none⟩ = some (.int .i64 1) ∧ w'.cell? ⟨w.heap.size, 1, none⟩ = some (.int .i64 nn) ∧ w'.cell? ⟨w.heap.size, 2, none⟩ = some (.string ss) ∧ w'.cell? ⟨w.heap.size, 3, none⟩ = some (.slice pu u.l.length cu)) (first | exact q1 | go_keep)
    (first
      | (go_at_call 40; (refine (kv _ (HE0.out.stay (drewN1 _ _))).mono ?_); rintro en w2 ⟨rfl, hb⟩; have HE2 := Lib.hid ((HE0.out.stay (drewN1 _ _)).stay hb); have HF2 := Lib.hid (HF0.out.trans (Fw.of ((drewN1 _ _).trans hb))); have HX2 := Lib.hid ((hb.block w.heap.size (lt_of HBX.out)).trans HBX.out); have q1 := box_cells HX2.out; clear hb)
      | (go_at_call 39; (refine (kw _ HE2.out).mono ?_); rintro en w3 ⟨⟨v', rfl⟩, hw3, hF3⟩; have HE3 := Lib.hid (HE2.out.next hw3 hF3); have HF3 := Lib.hid (HF2.out.trans hF3); have HX3 := Lib.hid (hF3.keep HX2.out (by omega) (by decide)); have q1 := box_cells HX3.out; clear hw3 hF3))
  all_goals
    go_wp2
    go_end0
    exact ⟨rfl, HE3.out.wb, HF3.out⟩

set_option maxHeartbeats 4000000 in
theorem term_int {u : U} (h1 : u.k = 2) : TmW u := by
  intro r p cap nm l a w hE ho hq hR hx
  rw [er_int h1] at hx ⊢
  obtain ⟨pu, cu, rfl, hf, hPu⟩ := hR.parts
  have hbb := (Below.refl w.heap.size w).alloc (Nat.le_refl _) (.cells #[.int .i64 u.k, .int .i64 u.n, .string (bs u.s), .slice pu u.l.length cu] 24)
  have hbx := heap_alloc_new w (.cells #[.int .i64 u.k, .int .i64 u.n, .string (bs u.s), .slice pu u.l.length cu] 24)
  obtain ⟨x0, x1, x2, x3, _⟩ := cells4 hbx
  have HBX := Lib.hid hbx
  have HE0 := Lib.hid (hE.stay hbb)
  have HF0 := Lib.hid (Fw.of (r := r) hbb)
  have hrl := hE.lt
  have kv := fun (W : World) (_ : We r p cap nm l W) => tx.print_c u.n hf W
  rw [show tx.str (text u.n) = bs (text u.n) from rfl] at kv
  have kw := fun (W : World) (h : We r p cap nm l W) => wString_c (text u.n) h.wb hx
  unfold uV
  generalize text u.n = X at *
  generalize u.n = nn at *
  generalize bs u.s = ss at *
  generalize u.k = kk at *
  subst h1
  clear hbb hE hR ho hq hbx hx hPu hf
  go_enter Try.func22, Try.ntmps22
  go_wp2_with fail
  go_region_held3 (fun w' => w'.cell? ⟨w.heap.size, 0, none⟩ = some (.int .i64 2) ∧ w'.cell? ⟨w.heap.size, 1, none⟩ = some (.int .i64 nn) ∧ w'.cell? ⟨w.heap.size, 2, none⟩ = some (.string ss) ∧ w'.cell? ⟨w.heap.size, 3, none⟩ = some (.slice pu u.l.length cu)) (first | exact q1 | go_keep)
    (first
      | (go_at_call 41; (refine (kv _ (HE0.out.stay (drewN1 _ _))).mono ?_); rintro en w2 ⟨rfl, hb⟩; have HE2 := Lib.hid ((HE0.out.stay (drewN1 _ _)).stay hb); have HF2 := Lib.hid (HF0.out.trans (Fw.of ((drewN1 _ _).trans hb))); have HX2 := Lib.hid ((hb.block w.heap.size (lt_of HBX.out)).trans HBX.out); have q1 := box_cells HX2.out; clear hb)
      | (go_at_call 39; (refine (kw _ HE2.out).mono ?_); rintro en w3 ⟨⟨v', rfl⟩, hw3, hF3⟩; have HE3 := Lib.hid (HE2.out.next hw3 hF3); have HF3 := Lib.hid (HF2.out.trans hF3); have HX3 := Lib.hid (hF3.keep HX2.out (by omega) (by decide)); have q1 := box_cells HX3.out; clear hw3 hF3))
  all_goals
    go_wp2
    go_end0
    exact ⟨rfl, HE3.out.wb, HF3.out⟩

set_option maxHeartbeats 4000000 in
theorem term_atom {u : U} (h1 : u.k = 3) : TmW u := by
  intro r p cap nm l a w hE ho hq hR hx
  rw [er_atom h1] at hx ⊢
  obtain ⟨pu, cu, rfl, hf, hPu⟩ := hR.parts
  have hbb := (Below.refl w.heap.size w).alloc (Nat.le_refl _) (.cells #[.int .i64 u.k, .int .i64 u.n, .string (bs u.s), .slice pu u.l.length cu] 24)
  have hbx := heap_alloc_new w (.cells #[.int .i64 u.k, .int .i64 u.n, .string (bs u.s), .slice pu u.l.length cu] 24)
  obtain ⟨x0, x1, x2, x3, _⟩ := cells4 hbx
  have HBX := Lib.hid hbx
  have HE0 := Lib.hid (hE.stay hbb)
  have HF0 := Lib.hid (Fw.of (r := r) hbb)
  have hrl := hE.lt
  have kA := fun (W : World) => isAtom_w (u := u) (p := pu) (cap := cu) (w := W) [91, 93]
  have kB := fun (W : World) => isAtom_w (u := u) (p := pu) (cap := cu) (w := W) [123, 125]
  have kq := fun (W : World) (h : We r p cap nm l W) => quote_c (bs u.s) W h.gm hq.sp.1
  rw [show (bs u.s).data.toList = u.s from rfl] at kq
  unfold uV at kA kB ⊢
  have dA : decide (u.k = 3 ∧ u.s = [91, 93]) = decide (u.s = [91, 93]) := by simp [h1]
  have dB : decide (u.k = 3 ∧ u.s = [123, 125]) = decide (u.s = [123, 125]) := by simp [h1]
  rw [dA] at kA
  rw [dB] at kB
  clear dA dB
  by_cases hA : u.s = [91, 93]
  · rw [if_pos (.inl hA)] at hx ⊢
    rw [decide_eq_true hA] at kA
    have kw := fun (W : World) (h : We r p cap nm l W) => wString_c u.s h.wb hx
    generalize u.s = S at *
    generalize bs S = ss at *
    generalize u.n = nn at *
    generalize u.k = kk at *
    subst h1
    clear hbb hE hR ho hq hbx hx hPu hf kB kq hA
    go_enter Try.func22, Try.ntmps22
    go_wp2_with fail
    refine (kA _).mono ?_
    rintro e w1 ⟨rfl, hb⟩
    have HE1 := Lib.hid (HE0.out.stay hb)
    have HF1 := Lib.hid (HF0.out.trans (Fw.of hb))
    have HX1 := Lib.hid ((hb.block w.heap.size (lt_of HBX.out)).trans HBX.out)
    obtain ⟨x0, x1, x2, x3⟩ := box_cells HX1.out
    clear hb
    go_wp2_with fail
    go_region_held3 (fun w' => w'.cell? ⟨w.heap.size, 0, none⟩ = some (.int .i64 3) ∧ w'.cell? ⟨w.heap.size, 1, none⟩ = some (.int .i64 nn) ∧ w'.cell? ⟨w.heap.size, 2, none⟩ = some (.string ss) ∧ w'.cell? ⟨w.heap.size, 3, none⟩ = some (.slice pu u.l.length cu)) (first | exact q1 | go_keep)
      ((go_at_call 39; (refine (kw _ (HE1.out.stay (drew1 _))).mono ?_); rintro en w3 ⟨⟨v', rfl⟩, hw3, hF3⟩; have HE3 := Lib.hid ((HE1.out.stay (drew1 _)).next hw3 hF3); have HF3 := Lib.hid ((HF1.out.trans (Fw.of (drew1 _))).trans hF3); have HX3 := Lib.hid (hF3.keep (by exact HX1.out) (by omega) (by decide)); have q1 := box_cells HX3.out; clear hw3 hF3))
    all_goals
      go_wp2
      go_end0
      exact ⟨rfl, HE3.out.wb, HF3.out⟩
  rw [decide_eq_false hA] at kA
  by_cases hB : u.s = [123, 125]
  · rw [if_pos (.inr hB)] at hx ⊢
    rw [decide_eq_true hB] at kB
    have kw := fun (W : World) (h : We r p cap nm l W) => wString_c u.s h.wb hx
    generalize u.s = S at *
    generalize bs S = ss at *
    generalize u.n = nn at *
    generalize u.k = kk at *
    subst h1
    clear hbb hE hR ho hq hbx hx hPu hf kq hA hB
    go_enter Try.func22, Try.ntmps22
    go_wp2_with fail
    refine (kA _).mono ?_
    rintro e w1 ⟨rfl, hb⟩
    have HE1 := Lib.hid (HE0.out.stay hb)
    have HF1 := Lib.hid (HF0.out.trans (Fw.of hb))
    have HX1 := Lib.hid ((hb.block w.heap.size (lt_of HBX.out)).trans HBX.out)
    obtain ⟨x0, x1, x2, x3⟩ := box_cells HX1.out
    clear hb
    go_wp2_with fail
    refine (kB _).mono ?_
    rintro e w2 ⟨rfl, hb⟩
    have HE2 := Lib.hid (HE1.out.stay hb)
    have HF2 := Lib.hid (HF1.out.trans (Fw.of hb))
    have HX2 := Lib.hid ((hb.block w.heap.size (lt_of HX1.out)).trans HX1.out)
    obtain ⟨x0, x1, x2, x3⟩ := box_cells HX2.out
    clear hb
    go_wp2_with fail
    go_region_held3 (fun w' => w'.cell? ⟨w.heap.size, 0, none⟩ = some (.int .i64 3) ∧ w'.cell? ⟨w.heap.size, 1, none⟩ = some (.int .i64 nn) ∧ w'.cell? ⟨w.heap.size, 2, none⟩ = some (.string ss) ∧ w'.cell? ⟨w.heap.size, 3, none⟩ = some (.slice pu u.l.length cu)) (first | exact q1 | go_keep)
      ((go_at_call 39; (refine (kw _ (HE2.out.stay (drew1 _))).mono ?_); rintro en w3 ⟨⟨v', rfl⟩, hw3, hF3⟩; have HE3 := Lib.hid ((HE2.out.stay (drew1 _)).next hw3 hF3); have HF3 := Lib.hid ((HF2.out.trans (Fw.of (drew1 _))).trans hF3); have HX3 := Lib.hid (hF3.keep (by exact HX2.out) (by omega) (by decide)); have q1 := box_cells HX3.out; clear hw3 hF3))
    all_goals
      go_wp2
      go_end0
      exact ⟨rfl, HE3.out.wb, HF3.out⟩
  · rw [if_neg (fun h => h.elim hA hB)] at hx ⊢
    rw [decide_eq_false hB] at kB
    have kw := fun (W : World) (h : We r p cap nm l W) => wString_c (quoteS u.s) h.wb hx
    rw [show ∀ x : List UInt8, bs x = ⟨x.toArray⟩ from fun _ => rfl] at kw
    generalize quoteS u.s = Q at *
    generalize u.s = S at *
    generalize bs S = ss at *
    generalize u.n = nn at *
    generalize u.k = kk at *
    subst h1
    clear hbb hE hR ho hq hbx hx hPu hf hA hB
    go_enter Try.func22, Try.ntmps22
    go_wp2_with fail
    refine (kA _).mono ?_
    rintro e w1 ⟨rfl, hb⟩
    have HE1 := Lib.hid (HE0.out.stay hb)
    have HF1 := Lib.hid (HF0.out.trans (Fw.of hb))
    have HX1 := Lib.hid ((hb.block w.heap.size (lt_of HBX.out)).trans HBX.out)
    obtain ⟨x0, x1, x2, x3⟩ := box_cells HX1.out
    clear hb
    go_wp2_with fail
    refine (kB _).mono ?_
    rintro e w2 ⟨rfl, hb⟩
    have HE2 := Lib.hid (HE1.out.stay hb)
    have HF2 := Lib.hid (HF1.out.trans (Fw.of hb))
    have HX2 := Lib.hid ((hb.block w.heap.size (lt_of HX1.out)).trans HX1.out)
    obtain ⟨x0, x1, x2, x3⟩ := box_cells HX2.out
    clear hb
    go_wp2_with fail
    go_region_held3 (fun w' => w'.cell? ⟨w.heap.size, 0, none⟩ = some (.int .i64 3) ∧ w'.cell? ⟨w.heap.size, 1, none⟩ = some (.int .i64 nn) ∧ w'.cell? ⟨w.heap.size, 2, none⟩ = some (.string ss) ∧ w'.cell? ⟨w.heap.size, 3, none⟩ = some (.slice pu u.l.length cu)) (first | exact q1 | go_keep)
      (first
        | (go_at_call 25; (refine (kq _ (HE2.out.stay (drewN1 _ _))).mono ?_); rintro en w2 ⟨rfl, hb⟩; have HE3 := Lib.hid ((HE2.out.stay (drewN1 _ _)).stay hb); have HF3 := Lib.hid (HF2.out.trans (Fw.of ((drewN1 _ _).trans hb))); have HX3 := Lib.hid ((hb.block w.heap.size (lt_of HX2.out)).trans HX2.out); have q1 := box_cells HX3.out; clear hb)
        | (go_at_call 39; (refine (kw _ HE3.out).mono ?_); rintro en w3 ⟨⟨v', rfl⟩, hw3, hF3⟩; have HE4 := Lib.hid (HE3.out.next hw3 hF3); have HF4 := Lib.hid (HF3.out.trans hF3); have HX4 := Lib.hid (hF3.keep HX3.out (by omega) (by decide)); have q1 := box_cells HX4.out; clear hw3 hF3))
    all_goals
      go_wp2
      go_end0
      exact ⟨rfl, HE4.out.wb, HF4.out⟩

set_option maxHeartbeats 4000000 in
theorem term_cmp {u : U} (h4 : u.k = 4) (ih : ∀ v, szU v < szU u → TmW v) : TmW u := by
  intro r p cap nm l a w hE ho hq hR hx
  have hol : okUL u.l ∧ u.l ≠ [] := by rw [okU_iff] at ho; rcases ho with ⟨h, _⟩ | h | ⟨h, _⟩ | ⟨_, _, h1, h⟩ <;> first | omega | exact ⟨h, h1⟩
  obtain ⟨pu, cu, rfl, hf, hPu⟩ := hR.parts
  have hbb := (Below.refl w.heap.size w).alloc (Nat.le_refl _) (.cells #[.int .i64 u.k, .int .i64 u.n, .string (bs u.s), .slice pu u.l.length cu] 24)
  have hbx := heap_alloc_new w (.cells #[.int .i64 u.k, .int .i64 u.n, .string (bs u.s), .slice pu u.l.length cu] 24)
  obtain ⟨x0, x1, x2, x3, _⟩ := cells4 hbx
  have HBX := Lib.hid hbx
  have HE0 := Lib.hid (hE.stay hbb)
  have HF0 := Lib.hid (Fw.of (r := r) hbb)
  have hrl := hE.lt
  have hlm := ru_len hR
  have kA := fun (W : World) => isAtom_w (u := u) (p := pu) (cap := cu) (w := W) [91, 93]
  have kB := fun (W : World) => isAtom_w (u := u) (p := pu) (cap := cu) (w := W) [123, 125]
  have kC := fun (W : World) => isCell_w (u := u) (p := pu) (cap := cu) (w := W) hlm
  unfold maxLen at hlm
  unfold uV at kA kB kC
  have dA : decide (u.k = 3 ∧ u.s = [91, 93]) = false := by simp [h4]
  have dB : decide (u.k = 3 ∧ u.s = [123, 125]) = false := by simp [h4]
  rw [dA] at kA
  rw [dB] at kB
  clear dA dB
  by_cases hC : cellU u
  · rw [decide_eq_true hC] at kC
    have kl := fun (W : World) (h : We r p cap nm l W) (h2 : Ru r W u (.slice pu u.l.length cu)) => list_w hC ih h ho hq h2 hx
    unfold uV at kl ⊢
    have HR := Lib.hid hR
    generalize bs u.s = ss at *
    generalize u.n = nn at *
    generalize u.k = kk at *
    subst h4
    clear hbb hE hR ho hq hbx hx hPu hf hC hol ih
    go_enter Try.func22, Try.ntmps22
    go_wp2_with fail
    refine (kA _).mono ?_
    rintro e w1 ⟨rfl, hb⟩
    have HE1 := Lib.hid (HE0.out.stay hb)
    have HF1 := Lib.hid (HF0.out.trans (Fw.of hb))
    have HX1 := Lib.hid ((hb.block w.heap.size (lt_of HBX.out)).trans HBX.out)
    obtain ⟨x0, x1, x2, x3⟩ := box_cells HX1.out
    clear hb
    go_wp2_with fail
    refine (kB _).mono ?_
    rintro e w2 ⟨rfl, hb⟩
    have HE2 := Lib.hid (HE1.out.stay hb)
    have HF2 := Lib.hid (HF1.out.trans (Fw.of hb))
    have HX2 := Lib.hid ((hb.block w.heap.size (lt_of HX1.out)).trans HX1.out)
    obtain ⟨x0, x1, x2, x3⟩ := box_cells HX2.out
    clear hb
    go_wp2_with fail
    refine (kC _).mono ?_
    rintro e w3 ⟨rfl, hb⟩
    have HE3 := Lib.hid (HE2.out.stay hb)
    have HF3 := Lib.hid (HF2.out.trans (Fw.of hb))
    have HX3 := Lib.hid ((hb.block w.heap.size (lt_of HX2.out)).trans HX2.out)
    obtain ⟨x0, x1, x2, x3⟩ := box_cells HX3.out
    clear hb
    have kl3 := kl w3 HE3.out (HR.out.stay (HF3.out.below (Nat.le_of_lt hrl)))
    clear kl kA kB kC
    go_wp2_with fail
    refine kl3.mono ?_
    rintro e w4 ⟨rfl, hw4, hF4⟩
    have HW4 := Lib.hid hw4
    have HF4 := Lib.hid (HF3.out.trans hF4)
    clear hw4 hF4 kl3
    go_wp2
    go_end0
    exact ⟨rfl, HW4.out, HF4.out⟩
  · rw [decide_eq_false hC] at kC
    rw [er_cmp h4 hC hol.2] at hx ⊢
    simp only [List.length_append, List.length_singleton] at hx
    have kq := fun (W : World) (h : We r p cap nm l W) => quote_c (bs u.s) W h.gm hq.sp.1
    rw [show (bs u.s).data.toList = u.s from rfl] at kq
    have kw := fun (W : World) (h : We r p cap nm l W) => wString_c (quoteS u.s) h.wb (by omega)
    rw [show ∀ x : List UInt8, bs x = ⟨x.toArray⟩ from fun _ => rfl] at kw
    have HQ : Hid (l.length + ((quoteS u.s).length + ((rowX nm [40] u.l).length + 1)) ≤ 100000000) := Lib.hid hx
    have HP := Lib.hid hPu
    have kr := fun (W : World) (h : We r p cap nm (l ++ quoteS u.s) W) (h2 : Pu r W u.l pu cu) => row_w (l := u.l) (fun i hi => ih _ (part_sz h4 hi)) h (h := [40]) (by simp) hol.1 hq.sp.2 h2 (by rw [List.length_append]; omega)
    rw [show bs [40] = ⟨#[40]⟩ from rfl] at kr
    have kz := fun (W : World) (h : We r p cap nm (l ++ quoteS u.s ++ rowX nm [40] u.l) W) => wString_c [41] h.wb (by simp only [List.length_append, List.length_singleton]; omega)
    rw [show bs [41] = ⟨#[41]⟩ from rfl] at kz
    have HZ : Hid (l ++ quoteS u.s ++ rowX nm [40] u.l ++ [41] = l ++ (quoteS u.s ++ (rowX nm [40] u.l ++ [41]))) := Lib.hid (by simp [List.append_assoc])
    unfold uV
    generalize l ++ (quoteS u.s ++ (rowX nm [40] u.l ++ [41])) = Z at *
    generalize rowX nm [40] u.l = Y at *
    generalize quoteS u.s = Q at *
    generalize bs u.s = ss at *
    generalize u.n = nn at *
    generalize u.k = kk at *
    subst h4
    clear hbb hE hR ho hq hbx hx hf hC hol ih hPu
    go_enter Try.func22, Try.ntmps22
    go_wp2_with fail
    refine (kA _).mono ?_
    rintro e w1 ⟨rfl, hb⟩
    have HE1 := Lib.hid (HE0.out.stay hb)
    have HF1 := Lib.hid (HF0.out.trans (Fw.of hb))
    have HX1 := Lib.hid ((hb.block w.heap.size (lt_of HBX.out)).trans HBX.out)
    obtain ⟨x0, x1, x2, x3⟩ := box_cells HX1.out
    clear hb
    go_wp2_with fail
    refine (kB _).mono ?_
    rintro e w2 ⟨rfl, hb⟩
    have HE2 := Lib.hid (HE1.out.stay hb)
    have HF2 := Lib.hid (HF1.out.trans (Fw.of hb))
    have HX2 := Lib.hid ((hb.block w.heap.size (lt_of HX1.out)).trans HX1.out)
    obtain ⟨x0, x1, x2, x3⟩ := box_cells HX2.out
    clear hb
    go_wp2_with fail
    refine (kC _).mono ?_
    rintro e w3 ⟨rfl, hb⟩
    have HE3 := Lib.hid (HE2.out.stay hb)
    have HF3 := Lib.hid (HF2.out.trans (Fw.of hb))
    have HX3 := Lib.hid ((hb.block w.heap.size (lt_of HX2.out)).trans HX2.out)
    obtain ⟨x0, x1, x2, x3⟩ := box_cells HX3.out
    clear hb
    clear kA kB kC
    go_wp2_with fail
    go_region_held3 (fun w' => w'.cell? ⟨w.heap.size, 0, none⟩ = some (.int .i64 4) ∧ w'.cell? ⟨w.heap.size, 1, none⟩ = some (.int .i64 nn) ∧ w'.cell? ⟨w.heap.size, 2, none⟩ = some (.string ss) ∧ w'.cell? ⟨w.heap.size, 3, none⟩ = some (.slice pu u.l.length cu)) (first | exact q1 | go_keep)
      (first
        | (go_at_call 25; (refine (kq _ (HE3.out.stay (drewN1 _ _))).mono ?_); rintro en w2 ⟨rfl, hb⟩; have HE4 := Lib.hid ((HE3.out.stay (drewN1 _ _)).stay hb); have HF4 := Lib.hid (HF3.out.trans (Fw.of ((drewN1 _ _).trans hb))); have HX4 := Lib.hid ((hb.block w.heap.size (lt_of HX3.out)).trans HX3.out); have q1 := box_cells HX4.out; clear hb)
        | (go_at_call 39; (refine (kw _ HE4.out).mono ?_); rintro en w3 ⟨⟨v', rfl⟩, hw3, hF3⟩; have HE5 := Lib.hid (HE4.out.next hw3 hF3); have HF5 := Lib.hid (HF4.out.trans hF3); have HX5 := Lib.hid (hF3.keep HX4.out (by omega) (by decide)); have q1 := box_cells HX5.out; clear hw3 hF3))
    all_goals
      obtain ⟨x0, x1, x2, x3⟩ := q1
      have kr3 := kr _ HE5.out (HP.out.stay (HF5.out.below (Nat.le_of_lt hrl)))
      clear kr kq kw
      go_wp2_with fail
      refine kr3.mono ?_
      rintro e w6 ⟨rfl, hw6, hF6⟩
      have HE6 := Lib.hid (HE5.out.next hw6 hF6)
      have HF6 := Lib.hid (HF5.out.trans hF6)
      have kz3 := kz _ HE6.out
      clear hw6 hF6 kr3 kz
      go_wp2_with fail
      refine kz3.mono ?_
      rintro e w7 ⟨⟨v7, rfl⟩, hw7, hF7⟩
      have HW7 := Lib.hid hw7
      have HF7 := Lib.hid (HF6.out.trans hF7)
      clear hw7 hF7 kz3
      go_wp2
      go_end0
      exact ⟨rfl, by rw [← HZ.out]; exact HW7.out, HF7.out⟩
theorem term_step (u : U) (ih : ∀ v, szU v < szU u → TmW v) : TmW u := by
  by_cases h1 : u.k = 1
  · exact term_var h1
  by_cases h2 : u.k = 2
  · exact term_int h2
  by_cases h3 : u.k = 3
  · exact term_atom h3
  by_cases h4 : u.k = 4
  · exact term_cmp h4 ih
  · intro r p cap nm l a w hE ho
    rw [okU_iff] at ho
    exfalso; omega
theorem term_w (u : U) : TmW u := by
  have key : ∀ n u, szU u ≤ n → TmW u := by
    intro n
    induction n with
    | zero => intro u h; exact term_step u fun v hv => by omega
    | succ n ih => intro u h; exact term_step u fun v hv => ih v (by omega)
  exact key _ u (Nat.le_refl _)
end Go.Proofs.Ytpihmockcjdafaa.wr
end
section
/- The program's Named, Write. -/
namespace Go.Proofs.Ytpihmockcjdafaa.wr
open Go.RowKit
open Go.Proofs.Ytpihmockcjdafaa.rd
open Go.Proofs.Ytpihmockcjdafaa.op (bs strC)
open Go.Proofs.Ytpihmockcjdafaa.lx (quoteS cell_at isOne toks Qn GM quote_c varX txT txR)
open Go.Proofs.Ytpihmockcjdafaa.nm (Fit)
set_option maxRecDepth 20000

/-- the text of a term, by names; empty, if it can't be written -/
noncomputable def wrX (nm : List (List UInt8)) (u : U) : List UInt8 := if goodU u then txT nm (er u) else []
theorem wrX_yes {nm : List (List UInt8)} {u : U} (h : goodU u) : wrX nm u = txT nm (er u) := by unfold wrX; rw [if_pos h]
theorem wrX_no {nm : List (List UInt8)} {u : U} (h : ¬ goodU u) : wrX nm u = [] := by unfold wrX; rw [if_neg h]
theorem fx_len {nm : List (List UInt8)} {u : U} (hN : NmOk nm) (hg : goodU u) (hq : qnU u) (hf : fxU u) : (txT nm (er u)).length ≤ 4200000 := by
  have := (tx_len hN u hg.1 hq hf).1
  have := hg.2
  omega
theorem wb_new (w : World) (nv : Value) : Wb w.heap.size nv [] (w.alloc (.cells #[.pointer none, .slice none 0 0, nv] 57)) :=
  ⟨.pointer none, .slice none 0 0, .inl rfl, heap_alloc_new w _, ⟨rfl, .inl ⟨rfl, rfl⟩⟩, by simp [Value.ownBlock]⟩
set_option maxHeartbeats 4000000 in
theorem named_c {u : U} {a : Value} {p : Option Addr} {cap : Nat} {nm : List (List UInt8)} {w : World} (hg : GM w) (ha : Ru w.heap.size w u a) (hq : qnU u) (hN : NmOk nm) (hn : Nr w.heap.size w nm p cap) :
    Calls Try.prog 15 #[uV u a, .slice p nm.length cap] w fun e w' => e = .returned (.string (bs (wrX nm u))) ∧ Below w.heap.size w w' := by
  obtain ⟨pu, cu, rfl, hf, hPu⟩ := ha.parts
  have hbb := (Below.refl w.heap.size w).alloc (Nat.le_refl _) (.cells #[.int .i64 u.k, .int .i64 u.n, .string (bs u.s), .slice pu u.l.length cu] 24)
  have hbx := Lib.hid (heap_alloc_new w (.cells #[.int .i64 u.k, .int .i64 u.n, .string (bs u.s), .slice pu u.l.length cu] 24))
  have kg := good_c (hg.below hbb (lx.heap_pos hg)) ((ha.stay hbb).up hbb.size) hq
  have HBB := Lib.hid hbb
  have HR := Lib.hid ha
  have Hg := Lib.hid hg
  have Hq := Lib.hid hq
  have Hn := Lib.hid hn
  have HN := Lib.hid hN
  have Hfx := Lib.hid ha.fx
  have hyes := Lib.hid (wrX_yes (nm := nm) (u := u))
  have hno := Lib.hid (wrX_no (nm := nm) (u := u))
  have ht := fun r p cap nm l a w => term_w u r p cap nm l a w
  have HT := Lib.hid ht
  unfold uV at kg ⊢
  clear hbb ha hg hq hn hN hf hPu ht
  by_cases hgd : goodU u
  · rw [decide_eq_true hgd] at kg
    have hlen := Lib.hid (fx_len HN.out hgd Hq.out Hfx.out)
    have hne := Lib.hid (tx_ne (nm := nm) u hgd.1 (fun n _ => varX_ne n))
    rw [hyes.out hgd]
    have Hok := Lib.hid hgd.1
    clear hyes hno hgd
    go_enter Try.func15, Try.ntmps15
    go_wp2_with fail
    refine kg.mono ?_
    rintro e w1 ⟨rfl, hb1⟩
    have hX1 := (hb1.block w.heap.size (lt_of hbx.out)).trans hbx.out
    have HB1 := Lib.hid (HBB.out.trans (hb1.mono HBB.out.size))
    have hz1 : w.heap.size < w1.heap.size := lt_of hX1
    have hX2 := (Lib.alloc_old w1 (.cells #[.pointer none, .slice none 0 0, .slice p nm.length cap] 57) _ hz1).trans hX1
    obtain ⟨y0, y1, y2, y3⟩ := box_cells hX1
    obtain ⟨x0, x1, x2, x3⟩ := box_cells hX2
    have hb2 := (Below.refl w1.heap.size w1).alloc (Nat.le_refl _) (.cells #[.pointer none, .slice none 0 0, .slice p nm.length cap] 57)
    have hbw := HB1.out.trans (hb2.mono HB1.out.size)
    have hg2 := Hg.out.below hbw (lx.heap_pos Hg.out)
    have kt := HT.out w1.heap.size p cap nm [] _ _ ⟨hg2, by have := lx.heap_pos Hg.out; omega, (Hn.out.stay hbw).up (by omega), wb_new w1 _⟩ Hok.out Hq.out ((HR.out.stay hbw).up (by omega)) (by have := hlen.out; simp; omega)
    rw [List.nil_append] at kt
    have HF2 := Lib.hid (Fw.of (r := w1.heap.size) hb2)
    have HBW := Lib.hid hbw
    unfold uV at kt
    clear hb1 kg hX1 hX2 HBB hbx hb2 hbw hg2 HT Hg Hq Hn HR Hfx HN
    go_wp2_with fail
    refine kt.mono ?_
    rintro e w3 ⟨rfl, hw3, hF3⟩
    have ks := wText_c hw3 hne.out
    have hb3 := (HBW.out.trans ((hF3.below (by simp)).mono (by omega)))
    have HB3 := Lib.hid hb3
    have hsz3 : w1.heap.size < w3.heap.size := hw3.lt
    clear hw3 hF3 kt hb3 x0 x1 x2 x3 y0 y1 y2 y3
    go_wp2_with fail
    refine ks.mono ?_
    rintro e w4 ⟨rfl, hF4⟩
    have HB4 := Lib.hid (HB3.out.trans ((hF4.below (Nat.le_of_lt hsz3)).mono (by omega)))
    clear hF4 ks
    go_wp2
    go_ret
    exact ⟨rfl, HB4.out⟩
  · rw [decide_eq_false hgd] at kg
    rw [hno.out hgd]
    clear hyes hno hgd HT Hq Hn HN Hfx HR Hg
    go_enter Try.func15, Try.ntmps15
    go_wp2_with fail
    refine kg.mono ?_
    rintro e w1 ⟨rfl, hb1⟩
    have HB1 := Lib.hid (HBB.out.trans (hb1.mono HBB.out.size))
    clear hb1 kg
    go_wp2
    go_ret
    exact ⟨rfl, HB1.out⟩
theorem nm_nil : NmOk [] := fun x h => by simp at h
theorem nr_nil (w : World) : Nr w.heap.size w [] none 0 := ⟨Nat.le_refl _, Nat.zero_le _, fun _ hi => absurd hi (Nat.not_lt_zero _)⟩
/-- the program's Write -/
theorem write_c {u : U} {a : Value} {w : World} (hg : GM w) (ha : Ru w.heap.size w u a) (hq : qnU u) :
    Calls Try.prog 8 #[uV u a] w fun e w' => e = .returned (.string (bs (wrX [] u))) ∧ Below w.heap.size w w' := by
  obtain ⟨pu, cu, rfl, hf, hPu⟩ := ha.parts
  have hbb := (Below.refl w.heap.size w).alloc (Nat.le_refl _) (.cells #[.int .i64 u.k, .int .i64 u.n, .string (bs u.s), .slice pu u.l.length cu] 24)
  have kn := named_c (hg.below hbb (lx.heap_pos hg)) ((ha.stay hbb).up hbb.size) hq nm_nil (nr_nil _)
  have HBB := Lib.hid hbb
  unfold uV at kn ⊢
  rw [show ([] : List (List UInt8)).length = 0 from rfl] at kn
  generalize wrX [] u = X at *
  clear hbb ha hg hq hf hPu
  go_enter Try.func8, Try.ntmps8
  go_wp2_with fail
  refine kn.mono ?_
  rintro e w1 ⟨rfl, hb1⟩
  have HB1 := Lib.hid (HBB.out.trans (hb1.mono HBB.out.size))
  clear hb1 kn
  go_wp2
  go_ret
  exact ⟨rfl, HB1.out⟩
end Go.Proofs.Ytpihmockcjdafaa.wr
end
