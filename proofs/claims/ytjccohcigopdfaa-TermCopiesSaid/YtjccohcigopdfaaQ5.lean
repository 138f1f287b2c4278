/- The reference's reader: ends.; The reference's reader: row.; slices.Backward over a row of terms: what its closure yields, from the last one to the first.; A term in a cell of the function's own beside its result's cell: what a loop of the reader's carries.; What the rounds over a row of terms carry, where each puts one more ahead of the rest.; The program's reader: list. -/
import Derived.Test.YtjccohcigopdfaaQ4
import Derived.Test.YtjccohcigopdfaaQ3
import Derived.RangeFuncNested
import Derived.RangeFuncBound
import Derived.RangeFuncCalls
import Derived.RangeFuncLeaves
import Derived.Shelf.Abstract
import Derived.OwnWalkIn
import Derived.TacticsInMore
import Derived.LoopNIn
import Derived.LoopIn
set_option linter.unusedVariables false
set_option linter.unusedSimpArgs false
section
/- The reference's reader: ends. -/
namespace Go.Proofs.Ytjccohcigopdfaa.rr
open Go.RowKit
open Go.Proofs.Ytjccohcigopdfaa.rd
open Go.Proofs.Ytjccohcigopdfaa.op (bs strC Both Tb progI progP tupI tupP rI rP)
open Go.Proofs.Ytjccohcigopdfaa.lx (Tok Tk tcell tcells cell_at)
set_option maxRecDepth 20000

theorem str_beq (a m : List UInt8) : ((bs a).toList == m) = decide (a = m) := by
  rw [ByteArray.toList_eq]
  show (a == m) = _
  by_cases h : a = m <;> simp [h]
theorem mayB_mark {k : K} (h : k.kind = 5) (hm : k.text ∈ marks) : (!mayB k) = (k.text == [41] || k.text == [93] || k.text == [125] || k.text == [44] || k.text == [124]) := by
  unfold mayB
  rw [h, if_neg (by decide), if_pos rfl]
  unfold marks at hm
  simp only [List.mem_cons, List.not_mem_nil, or_false] at hm
  rcases hm with h | h | h | h | h | h | h | h <;> rw [h] <;> rfl
set_option maxHeartbeats 2000000 in
theorem ends_c {r b i p k : Nat} {S : List UInt8} {tk nv : Value} {L : List Tok} {nm : List (List UInt8)} {w : World} (h : Rr r b S tk L i nv nm p k w) (h4 : (nx ((ab L).drop i)).kind ≠ 4) :
    Calls Try.prog 105 #[.pointer (some ⟨r, 0, none⟩)] w fun en w' => en = .returned (.bool (!mayB (nx ((ab L).drop i)))) ∧ Below w.heap.size w w' := by
  have kn := next_c h
  have hk := tkAt_kind L S.length i
  have hx := tkAt_text L S.length i
  have hm5 : (tkAt L S.length i).kind = 5 → (tkAt L S.length i).text ∈ marks := fun e => h.mks _ (tk_mem (tk_lt (n := S.length) (by omega))) e
  have hkl : (tkAt L S.length i).kind ≤ 6 := by
    rcases Nat.lt_or_ge i L.length with h1 | h1
    · exact (h.good.kind _ (tk_mem h1)).2
    · simp [tkAt, List.getElem?_eq_none h1]
  generalize tkAt L S.length i = t at *
  generalize hK : nx ((ab L).drop i) = k0 at *
  clear h hK
  rw [← hk] at h4
  unfold tokV at kn
  have hcs : t.kind = 0 ∨ t.kind = 1 ∨ t.kind = 2 ∨ t.kind = 3 ∨ t.kind = 5 ∨ t.kind = 6 := by omega
  rcases hcs with e | e | e | e | e | e
  · have hq : (!mayB k0) = true := by unfold mayB; rw [← hk, e]; rfl
    rw [hq]
    rw [e] at kn
    clear hq hk hx hm5 hkl h4 e
    generalize bs t.text = z at *
    go_enter Try.func105, Try.ntmps105
    go_wp2_with fail
    refine kn.mono ?_
    rintro en w1 ⟨rfl, hb⟩
    have HB := Lib.hid hb
    clear hb kn
    go_wp2
    go_ret
    exact ⟨rfl, HB.out.trans ((Below.refl _ _).alloc HB.out.size _)⟩
  · obtain ⟨pi, l1, r1, ib, hI⟩ : ∃ p l r q, progI t.text = (p, l, r, q) := ⟨_, _, _, _, rfl⟩
    obtain ⟨pp, m1, pb, hP⟩ : ∃ p l q, progP t.text = (p, l, q) := ⟨_, _, _, rfl⟩
    have ki := fun w => rI (bs t.text) w (p := pi) (l := l1) (r := r1) (b := ib) hI
    have kp := fun w => rP (bs t.text) w (p := pp) (l := m1) (b := pb) hP
    have hq : (!mayB k0) = (ib && !pb) := by
      unfold mayB; rw [← hk, e, ← hx, if_neg (by decide), if_neg (by decide), if_pos rfl, hI, hP]
      cases ib <;> cases pb <;> rfl
    rw [hq]
    rw [e] at kn
    clear hq hk hx hm5 hkl h4 e hI hP
    generalize bs t.text = z at *
    go_enter Try.func105, Try.ntmps105
    go_wp2_with fail
    refine kn.mono ?_
    rintro en w1 ⟨rfl, hb⟩
    have HB := Lib.hid (hb.trans ((Below.refl _ _).alloc hb.size (.cells #[.int .i64 1, .string z, .int .i64 (t.frm : Nat), .int .i64 (t.to : Nat)] 73)))
    have hc := heap_alloc_new w1 (.cells #[.int .i64 1, .string z, .int .i64 (t.frm : Nat), .int .i64 (t.to : Nat)] 73)
    clear hb kn
    have HC := Lib.hid hc
    clear hc
    go_wp2_with fail
    refine (ki _).mono ?_
    rintro en w2 ⟨rfl, hb⟩
    have hc2 := (hb.block w1.heap.size (by simp)).trans HC.out
    obtain ⟨x0, x1, x2, x3, _⟩ := cells4 hc2
    have HB2 := Lib.hid (HB.out.trans (hb.mono HB.out.size))
    clear hb hc2 HB HC
    go_wp2_with fail
    refine (kp _).mono ?_
    rintro en w3 ⟨rfl, hb⟩
    have HB3 := Lib.hid (HB2.out.trans (hb.mono HB2.out.size))
    clear hb HB2
    cases ib
    all_goals
      go_wp2
      go_ret
      exact ⟨by trivial, HB3.out⟩
  · have hq : (!mayB k0) = false := by unfold mayB; rw [← hk, e]; rfl
    rw [hq]
    rw [e] at kn
    clear hq hk hx hm5 hkl h4 e
    generalize bs t.text = z at *
    go_enter Try.func105, Try.ntmps105
    go_wp2_with fail
    refine kn.mono ?_
    rintro en w1 ⟨rfl, hb⟩
    have HB := Lib.hid hb
    clear hb kn
    go_wp2
    go_ret
    exact ⟨rfl, HB.out.trans ((Below.refl _ _).alloc HB.out.size _)⟩
  · have hq : (!mayB k0) = false := by unfold mayB; rw [← hk, e]; rfl
    rw [hq]
    rw [e] at kn
    clear hq hk hx hm5 hkl h4 e
    generalize bs t.text = z at *
    go_enter Try.func105, Try.ntmps105
    go_wp2_with fail
    refine kn.mono ?_
    rintro en w1 ⟨rfl, hb⟩
    have HB := Lib.hid hb
    clear hb kn
    go_wp2
    go_ret
    exact ⟨rfl, HB.out.trans ((Below.refl _ _).alloc HB.out.size _)⟩
  · have hq := mayB_mark (k := k0) (by omega) (by rw [← hx]; exact hm5 e)
    rw [hq, ← hx]
    rw [e] at kn
    clear hq hk hx hkl h4
    have hm := hm5 e
    clear hm5 e
    have hb1 := str_beq t.text [41]
    have hb2 := str_beq t.text [93]
    have hb3 := str_beq t.text [125]
    have hb4 := str_beq t.text [44]
    have hb5 := str_beq t.text [124]
    unfold marks at hm
    simp only [List.mem_cons, List.not_mem_nil, or_false] at hm
    rcases hm with e | e | e | e | e | e | e | e
    all_goals
      rw [e] at hb1 hb2 hb3 hb4 hb5 kn ⊢
      clear e
      simp only [List.cons.injEq, and_true, decide_true] at hb1 hb2 hb3 hb4 hb5
      generalize bs _ = z at *
      go_enter Try.func105, Try.ntmps105
      go_wp2_with fail
      refine kn.mono ?_
      rintro en w1 ⟨rfl, hb⟩
      have HB := Lib.hid hb
      clear hb kn
      go_wp2
      go_ret
      exact ⟨rfl, HB.out.trans ((Below.refl _ _).alloc HB.out.size _)⟩
  · have hq : (!mayB k0) = true := by unfold mayB; rw [← hk, e]; rfl
    rw [hq]
    rw [e] at kn
    clear hq hk hx hm5 hkl h4 e
    generalize bs t.text = z at *
    go_enter Try.func105, Try.ntmps105
    go_wp2_with fail
    refine kn.mono ?_
    rintro en w1 ⟨rfl, hb⟩
    have HB := Lib.hid hb
    clear hb kn
    go_wp2
    go_ret
    exact ⟨rfl, HB.out.trans ((Below.refl _ _).alloc HB.out.size _)⟩
end Go.Proofs.Ytjccohcigopdfaa.rr
end
section
/- The reference's reader: row. -/
namespace Go.Proofs.Ytjccohcigopdfaa.rr
open Go.RowKit
open Go.Proofs.Ytjccohcigopdfaa.rd
open Go.Proofs.Ytjccohcigopdfaa.op (bs strC Both Tb)
open Go.Proofs.Ytjccohcigopdfaa.lx (Tok Tk tcell tcells cell_at)
set_option maxRecDepth 20000

theorem Agree.ok {α : Type} {L : List Tok} {x : Res α} {u : α} {i : Nat} {nm : List (List UInt8)} {k : Nat} (h : Agree L x u i nm k) (hk : k = 0) : x = .ok (u, ((ab L).drop i, nm)) := by
  unfold Agree at h
  rcases x with e | ⟨v, s⟩
  · omega
  · rw [h.1, h.2.2]
theorem Agree.bad {α : Type} {L : List Tok} {x : Res α} {u : α} {i : Nat} {nm : List (List UInt8)} {k : Nat} (h : Agree L x u i nm k) (hk : k ≠ 0) : x = .error k := by
  unfold Agree at h
  rcases x with e | ⟨v, s⟩
  · rw [h.1]
  · exact absurd h.2.1 hk
theorem agree_ok {α : Type} {L : List Tok} {x : Res α} {u : α} {i : Nat} {nm : List (List UInt8)} (h : x = .ok (u, ((ab L).drop i, nm))) : Agree L x u i nm 0 := by
  rw [h]; exact ⟨rfl, rfl, rfl⟩
theorem agree_bad {α : Type} {L : List Tok} {x : Res α} {u : α} {i : Nat} {nm : List (List UInt8)} {k : Nat} (h : x = .error k) (hk : k ≠ 0) : Agree L x u i nm k := by
  rw [h]; exact ⟨rfl, hk⟩
theorem wrap1 {n : Nat} (h : n ≤ 100000) : IntKind.i64.wrap ((n : Int) + 1) = ((n + 1 : Nat) : Int) := by rw [IntWalk.i64_in _ (by omega)]; omega
theorem wrap1' {n : Nat} (h : n ≤ 100000) : IntKind.i64.wrap ((n : Int) + 1) = (n : Int) + 1 := by rw [IntWalk.i64_in _ (by omega)]
theorem Rr.grown {r b i p k : Nat} {S : List UInt8} {tk nv : Value} {L : List Tok} {nm : List (List UInt8)} {w w4 : World} {o : Obj} {g : Nat} {cs : Array Value} (hR : Rr r b S tk L i nv nm p k w) (hg : w.heap[g]? = some (.cells cs 25 (0, 0))) (h : (w.alloc o).grownBy w4 (some g)) (hr : r < g) : Rr r b S tk L i nv nm p k w4 :=
  hR.kept ((h.block r (by have := hR.lt; simp; omega) (fun e => by cases e; omega)).trans (Lib.alloc_old w _ r hR.lt)) (grown_kt hg h (by decide)) (grown_kt hg h (by decide)) ((grown_below h (B := r) (by omega) (by have := hR.lt; omega)))

set_option maxHeartbeats 2000000 in
theorem row_c {r b i p deep : Nat} {S : List UInt8} {tk nv : Value} {L : List Tok} {nm : List (List UInt8)} {w : World} {x : W} (h : Rr r b S tk L i nv nm p 0 w) (hw : XOk r b S tk L (deep + 1) x) (hd : deep ≤ 1000) :
    Calls Try.prog 103 #[.pointer (some ⟨r, 0, none⟩), .int .i64 (deep : Nat)] w (SRQ r b S tk L i w (rowP x ((ab L).drop i, nm))) := by
  have kx := hw 999 i nv nm p w (by decide) (by decide) h
  have dw := wrap1 (n := deep) (by omega)
  have H := Lib.hid h
  have HW := Lib.hid hw
  have hX : ∀ k, x 999 ((ab L).drop i, nm) = .error k → rowP x ((ab L).drop i, nm) = .error k := fun k hk => by unfold rowP; rw [hk]
  have hX2 : ∀ t s', x 999 ((ab L).drop i, nm) = .ok (t, s') → rowP x ((ab L).drop i, nm) = rowGo x s'.1.length [t] s' := fun t s' hk => by unfold rowP; rw [hk]
  generalize rowP x ((ab L).drop i, nm) = X at *
  clear h hw
  have hll := H.out.good.len
  have HXa := Lib.hid hX
  have HXb := Lib.hid hX2
  clear hX hX2
  go_enter Try.func103, Try.ntmps103
  go_wp2_with fail
  refine kx.mono ?_
  rintro en w1 ⟨t, a, i1, nv1, nm1, p1, k1, rfl, hT, hi1, hR1, hF1, hA⟩
  obtain ⟨ap, an, ac, rfl⟩ := hT.shape
  have HRw := Lib.hid (Rw.one (D := fun k => w.heap.size ≤ k) hT hF1.size)
  have HR1 := Lib.hid (hR1.alloc (.cells (tv t (.slice ap an ac)).toArray 25))
  have HF1 := Lib.hid (hF1.alloc (.cells (tv t (.slice ap an ac)).toArray 25))
  have HX1 := Lib.hid (show (k1 = 0 ∧ X = rowGo x (L.length - i1) [t] ((ab L).drop i1, nm1)) ∨ (k1 ≠ 0 ∧ X = .error k1) from by
    by_cases hk : k1 = 0
    · left; refine ⟨hk, ?_⟩
      rw [HXb.out _ _ (hA.ok hk), List.length_drop, ab_len]
    · exact .inr ⟨hk, HXa.out _ (hA.bad hk)⟩)
  clear hT hR1 hF1 kx HXa HXb hA
  go_wp2_with fail
  go_loopg [5] (L.length - i1) (fun k v wr => ∃ (g cap : Nat) (l : List T) (j : Nat) (nv : Value) (nm : List (List UInt8)) (f p e : Nat), k = L.length - j ∧ v = .slice (some ⟨g, 0, none⟩) l.length cap ∧ i ≤ j ∧ l.length ≤ j + 1 ∧ L.length - j ≤ f ∧ l ≠ [] ∧
    Hid (Rw (fun k => w.heap.size ≤ k) wr g cap l) ∧ Hid (Rr r b S tk L j nv nm p e wr) ∧ Hid (Fr r b w wr) ∧ Hid ((e = 0 ∧ X = rowGo x f l ((ab L).drop j, nm)) ∨ (e ≠ 0 ∧ X = .error e)))
  case atStart => exact ⟨w1.heap.size, 1, [t], i1, nv1, nm1, L.length - i1, p1, k1, rfl, rfl, hi1, by simp, Nat.le_refl _, by simp, HRw, HR1, HF1, HX1⟩
  case round =>
    clear HRw HR1 HF1 HX1
    obtain ⟨g, cap, l, j, nv, nm, f, p, e, hgk, rfl, hij, hlj, hf, hl0, HRw, HR, HF, HX⟩ := hrel
    have hjl := HR.out.le
    have c5 : wr.cell? ⟨r, 5, none⟩ = some (.int .i64 (e : Nat)) := by rw [HR.out.cell]; rfl
    by_cases he : e = 0
    · subst he
      have HX := Lib.hid (show X = rowGo x f l ((ab L).drop j, nm) from by
        rcases HX.out with h | h
        · exact h.2
        · exact absurd rfl h.1)
      have km := mark_c HR.out [44]
      rw [show bs [44] = ⟨#[44]⟩ from rfl] at km
      rcases hq : isM (nx ((ab L).drop j)) [44] with _ | _
      · rw [hq] at km
        have hXe := Lib.hid (HX.out.trans (rowGo_no x f l _ hq))
        clear hq
        go_wp2_with fail
        refine km.mono ?_
        rintro en w2 ⟨rfl, hb⟩
        have HR2 := Lib.hid (HR.out.stay hb)
        have HF2 := Lib.hid (HF.out.trans (Fr.of_below hb))
        have HRw2 := Lib.hid (HRw.out.kept (Kt.below hb))
        clear hb km
        go_wp2
        go_ret
        exact ⟨l, g, cap, j, nv, nm, p, 0, rfl, HRw2.out, hij, hlj, hl0, HR2.out, HF2.out, agree_ok hXe.out⟩
      · rw [hq] at km
        have hjlt := isM_lt hq
        obtain ⟨f, rfl⟩ : ∃ f', f = f' + 1 := ⟨f - 1, by omega⟩
        have hXy : ∀ u s2, x 999 ((ab L).drop (j + 1), nm) = .ok (u, s2) → X = rowGo x f (l ++ [u]) s2 := fun u s2 hx => HX.out.trans (rowGo_yes x f l _ hq (by rw [tail_drop]; exact hx))
        have hXn : ∀ k, x 999 ((ab L).drop (j + 1), nm) = .error k → X = .error k := fun k hx => HX.out.trans (rowGo_err x f l _ hq (by rw [tail_drop]; exact hx))
        have HXy := Lib.hid hXy
        have HXn := Lib.hid hXn
        clear hq hXy hXn
        go_wp2_with fail
        refine km.mono ?_
        rintro en w2 ⟨rfl, hb⟩
        have hR2 := HR.out.stay hb
        have c2 : w2.cell? ⟨r, 2, none⟩ = some (.int .i64 (j : Nat)) := by rw [hR2.cell]; rfl
        have f2 := hR2.free 2
        have jw := wrap1' (n := j) (by omega)
        have HR2 := Lib.hid (hR2.step hjlt)
        have HF2 := Lib.hid ((HF.out.trans (Fr.of_below hb)).set (p := ⟨r, 2, none⟩) (.inl rfl) (.int .i64 ((j : Int) + 1)))
        have hk2 := Lib.hid (HRw.out.kept (Kt.below hb))
        have HRw2 := Lib.hid (hk2.out.kept (kt_set (p := ⟨r, 2, none⟩) (v := .int .i64 ((j : Int) + 1)) hR2.blk (by decide)))
        have ky := HW.out 999 (j + 1) nv nm p _ (by decide) (by decide) HR2.out
        clear hR2 hk2 hb km HR HF HRw
        go_wp2_with fail
        refine ky.mono ?_
        rintro en w3 ⟨u, a2, i2, nv2, nm2, p2, k2, rfl, hT, hi2, hR3, hF3, hA⟩
        obtain ⟨ap2, an2, ac2, rfl⟩ := hT.shape
        have HRw3 := Lib.hid (HRw2.out.kept (keep hF3 HR2.out (by decide) (by decide)))
        have hgs := HRw2.out.lt
        have hws := HF2.out.size
        have HT := Lib.hid (hT.imp (D' := fun k => w.heap.size ≤ k ∧ k ≠ g) fun k _ hk => ⟨by omega, by omega⟩)
        have HR3 := Lib.hid hR3
        have HF3 := Lib.hid (HF2.out.trans hF3)
        have HA := Lib.hid (show (k2 = 0 ∧ X = rowGo x f (l ++ [u]) ((ab L).drop i2, nm2)) ∨ (k2 ≠ 0 ∧ X = .error k2) from by
          by_cases hk : k2 = 0
          · exact .inl ⟨hk, HXy.out _ _ (hA.ok hk)⟩
          · exact .inr ⟨hk, HXn.out _ (hA.bad hk)⟩)
        have hws3 := HF3.out.size
        clear hT hR3 hF3 ky hA HXy HXn HR2 HF2 HRw2 c2 f2 hws hgs
        go_wp2_with (at_builtin; refine wpList_term rfl _ _ rfl (fun k => w.heap.size ≤ k) w3 g cap l u (.slice ap2 an2 ac2) rfl HRw3.out HT.out rfl (fun k hk => by omega) rfl (by omega) ?_; intro g4 cap4 w4 hRw4 hgr4; have HRw4 := Lib.hid hRw4; have hb4 := Lib.hid hgr4; clear hRw4 hgr4)
        obtain ⟨hg1, cs, hg2⟩ := HRw3.out.block
        have hrw := H.out.lt
        go_roundg (L.length - i2)
        case measure => have := HR3.out.le; omega
        case rel =>
          exact ⟨g4, cap4, l ++ [u], i2, nv2, nm2, f, p2, k2, rfl, by simp, by omega, by simp; omega, by omega, by simp, HRw4, Lib.hid (HR3.out.grown hg2 hb4.out (by omega)), Lib.hid (HF3.out.own (grown_below hb4.out hg1 (by omega)) (Nat.le_refl _)), HA⟩
    · have he2 : ((e : Int) == 0) = false := by rw [beq_eq_false_iff_ne]; omega
      have hXe := Lib.hid (show X = .error e from by
        rcases HX.out with h | h
        · exact absurd h.1 he
        · exact h.2)
      have He := Lib.hid he
      clear he
      go_wp2
      go_ret
      exact ⟨l, g, cap, j, nv, nm, p, e, rfl, HRw.out, hij, hlj, hl0, HR.out, HF.out, agree_bad hXe.out He.out⟩
end Go.Proofs.Ytjccohcigopdfaa.rr
end
section
/- slices.Backward over a row of terms: what its closure yields, from the last one to the first. -/
namespace Go.Proofs.Ytjccohcigopdfaa.rd
open Go.RowKit Go.Shelf
open Go.Proofs.Ytjccohcigopdfaa.op (bs)
open Go.Proofs.Ytjccohcigopdfaa.lx (cell_at)
set_option maxRecDepth 20000
attribute [local go_sem] Oper.semAt_some

/-- an element's place -/
abbrev Ix (N : Nat) := { i : Nat // i < N }
/-- the last k places, the last one first -/
def dn (N k : Nat) (h : k ≤ N) : List (Ix N) := (List.range k).attach.map fun j => ⟨N - 1 - j.1, by have := List.mem_range.1 j.2; omega⟩
theorem dn_len (N k : Nat) (h : k ≤ N) : (dn N k h).length = k := by simp [dn]
theorem dn_succ (N k : Nat) (h : k + 1 ≤ N) : dn N (k + 1) h = dn N k (by omega) ++ [⟨N - 1 - k, by omega⟩] := by
  apply List.ext_getElem
  · simp [dn]
  · intro i h1 h2
    rw [dn_len] at h1
    rcases Nat.lt_or_ge i k with h3 | h3
    · rw [List.getElem_append_left (by rw [dn_len]; exact h3)]; simp [dn]
    · obtain rfl : i = k := by omega
      rw [List.getElem_append_right (by rw [dn_len]; exact Nat.le_refl _)]; simp [dn]
/-- what is yielded at a place -/
def encT (l : List T) (az : List Value) (i : Nat) : Array Value := #[.int .i64 (i : Nat), .agg #[.int .i64 ((l.getD i (.leaf 0 0 [])).k : Nat), .int .i64 (l.getD i (.leaf 0 0 [])).n, .string (bs (l.getD i (.leaf 0 0 [])).s), az.getD i undef]]
/-- the cells of a row of terms -/
def RowC (W : World) (g : Nat) (l : List T) (az : List Value) : Prop := ∀ i, i < l.length → W.cell? ⟨g, i * 4, none⟩ = some (.int .i64 ((l.getD i (.leaf 0 0 [])).k : Nat)) ∧ W.cell? ⟨g, i * 4 + 1, none⟩ = some (.int .i64 (l.getD i (.leaf 0 0 [])).n) ∧
  W.cell? ⟨g, i * 4 + 2, none⟩ = some (.string (bs (l.getD i (.leaf 0 0 [])).s)) ∧ W.cell? ⟨g, i * 4 + 3, none⟩ = some (az.getD i undef)
/-- the row's block and the box of the slice lie as they lay -/
def Kb (g Bs : Nat) (A B : World) : Prop := B.heap[g]? = A.heap[g]? ∧ B.heap[Bs]? = A.heap[Bs]?
theorem Kb.refl (g Bs : Nat) (A : World) : Kb g Bs A A := ⟨rfl, rfl⟩
theorem Kb.trans {g Bs : Nat} {A B C : World} (h : Kb g Bs A B) (k : Kb g Bs B C) : Kb g Bs A C := ⟨k.1.trans h.1, k.2.trans h.2⟩
theorem RowC.kb {g Bs : Nat} {A B : World} {l : List T} {az : List Value} (h : RowC A g l az) (hb : Kb g Bs A B) : RowC B g l az := fun i hi => by
  have e : ∀ j, B.cell? ⟨g, j, none⟩ = A.cell? ⟨g, j, none⟩ := fun j => World.cell?_of_block hb.1
  rw [e, e, e, e]; exact h i hi
end Go.Proofs.Ytjccohcigopdfaa.rd
end
section
/- A term in a cell of the function's own beside its result's cell: what a loop of the reader's carries. -/
namespace Go.Proofs.Ytjccohcigopdfaa.rd
open Go.RowKit
open Go.Proofs.Ytjccohcigopdfaa.op (bs)
open Go.Proofs.Ytjccohcigopdfaa.lx (Tok cell_at)
set_option maxRecDepth 20000

end Go.Proofs.Ytjccohcigopdfaa.rd
end
section
/- What the rounds over a row of terms carry, where each puts one more ahead of the rest. -/
namespace Go.Proofs.Ytjccohcigopdfaa.rd
open Go.RowKit Go.Shelf
open Go.Proofs.Ytjccohcigopdfaa.op (bs)
open Go.Proofs.Ytjccohcigopdfaa.lx (Tok cell_at)
set_option maxRecDepth 20000

abbrev dfT : T := .leaf 0 0 []
/-- the rest, the terms at these places put ahead of it -/
def Rf (l : List T) (rt : T) (pre : List (Ix l.length)) : T := pre.foldl (fun r x => .cmp [46] [l.getD x.1 dfT, r]) rt
theorem Rf_snoc (l : List T) (rt : T) (pre : List (Ix l.length)) (x : Ix l.length) : Rf l rt (pre ++ [x]) = .cmp [46] [l.getD x.1 dfT, Rf l rt pre] := by simp [Rf]
theorem Rf_dn (l : List T) (rt : T) : ∀ k (h : k ≤ l.length), Rf l rt (dn l.length k h) = consAll (l.drop (l.length - k)) rt
  | 0, h => by rw [Nat.sub_zero, List.drop_length]; rfl
  | k + 1, h => by
    rw [dn_succ, Rf_snoc, Rf_dn l rt k (by omega)]
    have h1 : l.drop (l.length - (k + 1)) = l[l.length - 1 - k]'(by omega) :: l.drop (l.length - k) := by
      rw [show l.length - (k + 1) = l.length - 1 - k by omega, List.drop_eq_getElem_cons (by omega), show l.length - 1 - k + 1 = l.length - k by omega]
    rw [h1]
    simp only [consAll, List.foldr_cons]
    congr 2
    simp [show l.length - 1 - k < l.length by omega]
theorem Rf_all (l : List T) (rt : T) : Rf l rt (dn l.length l.length (Nat.le_refl _)) = consAll l rt := by rw [Rf_dn]; simp
section
variable {r b cb cd B0 B5 g Bs d e j : Nat} {tk nv : Value} {L : List Tok} {nm : List (List UInt8)} {l : List T} {az : List Value} {w W0 W W' : World} {t : T} {a : Value}
theorem keeps_below (hb : Below W.heap.size W W') : KeepsOthers W W' :=
  KeepsOthers.of_grownBy (row := none) ⟨hb.os, hb.tape, hb.output, hb.size, fun k hk _ => hb.block k hk⟩ (fun j o e => by cases e)
end
/-- the cells of a row of terms -/
theorem Rw.cellsC {D : Nat → Prop} {w : World} {g cap : Nat} {l : List T} (h : Rw D w g cap l) : ∃ az : List Value, RowC w g l az ∧ (∀ i, i < l.length → Rp (fun k => D k ∧ k ≠ g) w (l.getD i dfT) (az.getD i undef)) ∧ D g ∧ g < w.heap.size := by
  have hlt := h.lt
  obtain ⟨az, h1, h2, h3⟩ := h
  have hl := h3.len
  have hc := World.ownsRow.cells h1 (g := g) rfl
  refine ⟨az, fun i hi => ?_, fun i hi => ?_, h2, hlt⟩
  · have key : ∀ m u, m < 4 → (tv l[i] (az[i]'(by omega)))[m]? = some u → w.cell? ⟨g, i * 4 + m, none⟩ = some u := fun m u hm hu => by
      have h4 := tvs_get (l.zip az) i m (by simp; omega) hm
      rw [List.getElem_zip] at h4
      have := hc (i * 4 + m) u (by rw [h4]; exact hu)
      rwa [op.addr_add] at this
    have e1 : l.getD i dfT = l[i] := by simp [hi]
    have e2 : az.getD i undef = az[i]'(by omega) := by simp [show i < az.length by omega]
    rw [show (T.leaf 0 0 []) = dfT from rfl, e1, e2]
    exact ⟨key 0 _ (by omega) rfl, key 1 _ (by omega) rfl, key 2 _ (by omega) rfl, key 3 _ (by omega) rfl⟩
  · have := h3.get i hi (by omega)
    have e1 : l.getD i dfT = l[i] := by simp [hi]
    have e2 : az.getD i undef = az[i]'(by omega) := by simp [show i < az.length by omega]
    rw [e1, e2]; exact this
end Go.Proofs.Ytjccohcigopdfaa.rd
end
section
/- The program's reader: list. -/
namespace Go.Proofs.Ytjccohcigopdfaa.rd
open Go.RowKit Go.Shelf
open Go.Proofs.Ytjccohcigopdfaa.op (bs strC Both Tb)
open Go.Proofs.Ytjccohcigopdfaa.lx (cell_at)
set_option maxRecDepth 20000
attribute [local go_sem] Oper.semAt_some

/-- a function whose body holds a range over a function: its body may be walked as any other, but for the post -/
theorem calls_marks {P : Program} {f : FuncId} {fn : Func} {c : Code} {args : Array Value} {w : World} {R : Ending → World → Prop} (hf : P.funcs[f]? = some fn) (hb : fn.body = some c)
    (h : c.wp P (bodyPostM Fence.wide 3 P fn R) { tmps := args ++ Array.replicate (fn.ntmps - args.size) undef, defers := [] } w) : Calls P f args w R :=
  callsIn_wide.1 (callsIn_of_wp_marks hf hb trivial (wpIn_wide.2 h) rfl)
theorem postM {P : Program} {fn : Func} {R : Ending → World → Prop} {tmps : Array Value} {w : World} {e : Exit} (h : bodyPost P fn R e { tmps := tmps, defers := [] } w) : bodyPostM Fence.wide 3 P fn R e { tmps := tmps, defers := [] } w := by
  cases e with
  | normal => exact h.2
  | ret => exact h.2
  | panic c => exact h.2
  | outgrown => exact h
  | exit id => exact h
  | goto l => exact h
theorem Rw.keptD {D : Nat → Prop} {w w' : World} {g cap : Nat} {l : List T} (h : Rw D w g cap l) (hk : Kd D 25 w w') : Rw D w' g cap l := by
  obtain ⟨az, h1, h2, h3⟩ := h
  exact ⟨az, own_keptD h1 (fun g' e => by cases e; exact h2) hk, h2, h3.keptD fun k cs fr hd hk' => hk k cs fr hd.1 hk'⟩
theorem listP_eq (x : W) (L : List lx.Tok) (i : Nat) (nm : List (List UInt8)) : listP x ((ab L).drop i, nm) =
    if isM (nx ((ab L).drop i)) [93] = true then .ok (nilT, ((ab L).drop (i + 1), nm)) else
      match rowP x ((ab L).drop i, nm) with
      | .error k => .error k
      | .ok (l, s1) =>
        match (if isM (nx s1.1) [124] = true then x 999 (s1.1.tail, s1.2) else .ok (nilT, s1) : Res T) with
        | .error k => .error k
        | .ok (r, s2) => if isM (nx s2.1) [93] = true then .ok (consAll l r, (s2.1.tail, s2.2)) else .error 50 := by
  unfold listP
  simp only [tail_drop]
  split
  · rfl
  · rcases rowP x ((ab L).drop i, nm) with k | ⟨l, s1⟩
    · rfl
    · dsimp only
      rcases (if isM (nx s1.1) [124] = true then x 999 (s1.1.tail, s1.2) else .ok (nilT, s1) : Res T) with k | ⟨r, s2⟩
      · rfl
      · dsimp only
        unfold expectP
        cases isM (nx s2.1) [93] <;> rfl
end Go.Proofs.Ytjccohcigopdfaa.rd
end
