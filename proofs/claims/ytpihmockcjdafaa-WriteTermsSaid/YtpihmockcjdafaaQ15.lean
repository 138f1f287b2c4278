/- The reference's reader: row. -/
import Derived.Test.YtpihmockcjdafaaQ14
set_option linter.unusedVariables false
set_option linter.unusedSimpArgs false
section
/- The reference's reader: row. -/
namespace Go.Proofs.Ytpihmockcjdafaa.rr
open Go.RowKit
open Go.Proofs.Ytpihmockcjdafaa.rd
open Go.Proofs.Ytpihmockcjdafaa.op (bs strC Both Tb)
open Go.Proofs.Ytpihmockcjdafaa.lx (Tok Tk tcell tcells cell_at)
set_option maxRecDepth 20000

theorem Agree.ok {α : Type} {L : List Tok} {x : Res α} {u : α} {i : Nat} {nm : List (List UInt8)} {k : Nat} (h : Agree L x u i nm k) (hk : k = 0) : x = .ok (u, ((ab L).drop i, nm)) := by
  unfold Agree at h
  rcases x with e | ⟨v, s⟩
  · omega
  · rw [h.1, h.2.2]
theorem Agree.bad {α : Type} {L : List Tok} {x : Res α} {u : α} {i : Nat} {nm : List (List UInt8)} {k : Nat} (h : Agree L x u i nm k) (hk : k ≠ 0) : x = .error k := by
  unfold Agree at h
  rcases x with e | ⟨v, s⟩
  · rw [h.1]
  · exact absurd h.2.1 hk
theorem agree_ok {α : Type} {L : List Tok} {x : Res α} {u : α} {i : Nat} {nm : List (List UInt8)} (h : x = .ok (u, ((ab L).drop i, nm))) : Agree L x u i nm 0 := by
  rw [h]; exact ⟨rfl, rfl, rfl⟩
theorem agree_bad {α : Type} {L : List Tok} {x : Res α} {u : α} {i : Nat} {nm : List (List UInt8)} {k : Nat} (h : x = .error k) (hk : k ≠ 0) : Agree L x u i nm k := by
  rw [h]; exact ⟨rfl, hk⟩
theorem wrap1 {n : Nat} (h : n ≤ 100000) : IntKind.i64.wrap ((n : Int) + 1) = ((n + 1 : Nat) : Int) := by rw [IntWalk.i64_in _ (by omega)]; omega
theorem wrap1' {n : Nat} (h : n ≤ 100000) : IntKind.i64.wrap ((n : Int) + 1) = (n : Int) + 1 := by rw [IntWalk.i64_in _ (by omega)]
theorem Rr.grown {r b i p k : Nat} {S : List UInt8} {tk nv : Value} {L : List Tok} {nm : List (List UInt8)} {w w4 : World} {o : Obj} {g : Nat} {cs : Array Value} (hR : Rr r b S tk L i nv nm p k w) (hg : w.heap[g]? = some (.cells cs 24 (0, 0))) (h : (w.alloc o).grownBy w4 (some g)) (hr : r < g) : Rr r b S tk L i nv nm p k w4 :=
  hR.kept ((h.block r (by have := hR.lt; simp; omega) (fun e => by cases e; omega)).trans (Lib.alloc_old w _ r hR.lt)) (grown_kt hg h (by decide)) (grown_kt hg h (by decide)) ((grown_below h (B := r) (by omega) (by have := hR.lt; omega)))

set_option maxHeartbeats 2000000 in
theorem row_c {r b i p deep : Nat} {S : List UInt8} {tk nv : Value} {L : List Tok} {nm : List (List UInt8)} {w : World} {x : W} (h : Rr r b S tk L i nv nm p 0 w) (hw : XOk r b S tk L (deep + 1) x) (hd : deep ≤ 1000) :
    Calls Try.prog 73 #[.pointer (some ⟨r, 0, none⟩), .int .i64 (deep : Nat)] w (SRQ r b S tk L i w (rowP x ((ab L).drop i, nm))) := by
  have kx := hw 999 i nv nm p w (by decide) (by decide) h
  have dw := wrap1 (n := deep) (by omega)
  have H := Lib.hid h
  have HW := Lib.hid hw
  have hX : ∀ k, x 999 ((ab L).drop i, nm) = .error k → rowP x ((ab L).drop i, nm) = .error k := fun k hk => by unfold rowP; rw [hk]
  have hX2 : ∀ t s', x 999 ((ab L).drop i, nm) = .ok (t, s') → rowP x ((ab L).drop i, nm) = rowGo x s'.1.length [t] s' := fun t s' hk => by unfold rowP; rw [hk]
  generalize rowP x ((ab L).drop i, nm) = X at *
  clear h hw
  have hll := H.out.good.len
  have HXa := Lib.hid hX
  have HXb := Lib.hid hX2
  clear hX hX2
  go_enter Try.func73, Try.ntmps73
  go_wp2_with fail
  refine kx.mono ?_
  rintro en w1 ⟨t, a, i1, nv1, nm1, p1, k1, rfl, hT, hi1, hR1, hF1, hA⟩
  obtain ⟨ap, an, ac, rfl⟩ := hT.shape
  have HRw := Lib.hid (Rw.one (D := fun k => w.heap.size ≤ k) hT hF1.size)
  have HR1 := Lib.hid (hR1.alloc (.cells (tv t (.slice ap an ac)).toArray 24))
  have HF1 := Lib.hid (hF1.alloc (.cells (tv t (.slice ap an ac)).toArray 24))
  have HX1 := Lib.hid (show (k1 = 0 ∧ X = rowGo x (L.length - i1) [t] ((ab L).drop i1, nm1)) ∨ (k1 ≠ 0 ∧ X = .error k1) from by
    by_cases hk : k1 = 0
    · left; refine ⟨hk, ?_⟩
      rw [HXb.out _ _ (hA.ok hk), List.length_drop, ab_len]
    · exact .inr ⟨hk, HXa.out _ (hA.bad hk)⟩)
  clear hT hR1 hF1 kx HXa HXb hA
  go_wp2_with fail
  go_loopg [5] (L.length - i1) (fun k v wr => ∃ (g cap : Nat) (l : List T) (j : Nat) (nv : Value) (nm : List (List UInt8)) (f p e : Nat), k = L.length - j ∧ v = .slice (some ⟨g, 0, none⟩) l.length cap ∧ i ≤ j ∧ l.length ≤ j + 1 ∧ L.length - j ≤ f ∧ l ≠ [] ∧
    Hid (Rw (fun k => w.heap.size ≤ k) wr g cap l) ∧ Hid (Rr r b S tk L j nv nm p e wr) ∧ Hid (Fr r b w wr) ∧ Hid ((e = 0 ∧ X = rowGo x f l ((ab L).drop j, nm)) ∨ (e ≠ 0 ∧ X = .error e)))
  case atStart => exact ⟨w1.heap.size, 1, [t], i1, nv1, nm1, L.length - i1, p1, k1, rfl, rfl, hi1, by simp, Nat.le_refl _, by simp, HRw, HR1, HF1, HX1⟩
  case round =>
    clear HRw HR1 HF1 HX1
    obtain ⟨g, cap, l, j, nv, nm, f, p, e, hgk, rfl, hij, hlj, hf, hl0, HRw, HR, HF, HX⟩ := hrel
    have hjl := HR.out.le
    have c5 : wr.cell? ⟨r, 5, none⟩ = some (.int .i64 (e : Nat)) := by rw [HR.out.cell]; rfl
    by_cases he : e = 0
    · subst he
      have HX := Lib.hid (show X = rowGo x f l ((ab L).drop j, nm) from by
        rcases HX.out with h | h
        · exact h.2
        · exact absurd rfl h.1)
      have km := mark_c HR.out [44]
      rw [show bs [44] = ⟨#[44]⟩ from rfl] at km
      rcases hq : isM (nx ((ab L).drop j)) [44] with _ | _
      · rw [hq] at km
        have hXe := Lib.hid (HX.out.trans (rowGo_no x f l _ hq))
        clear hq
        go_wp2_with fail
        refine km.mono ?_
        rintro en w2 ⟨rfl, hb⟩
        have HR2 := Lib.hid (HR.out.stay hb)
        have HF2 := Lib.hid (HF.out.trans (Fr.of_below hb))
        have HRw2 := Lib.hid (HRw.out.kept (Kt.below hb))
        clear hb km
        go_wp2
        go_ret
        exact ⟨l, g, cap, j, nv, nm, p, 0, rfl, HRw2.out, hij, hlj, hl0, HR2.out, HF2.out, agree_ok hXe.out⟩
      · rw [hq] at km
        have hjlt := isM_lt hq
        obtain ⟨f, rfl⟩ : ∃ f', f = f' + 1 := ⟨f - 1, by omega⟩
        have hXy : ∀ u s2, x 999 ((ab L).drop (j + 1), nm) = .ok (u, s2) → X = rowGo x f (l ++ [u]) s2 := fun u s2 hx => HX.out.trans (rowGo_yes x f l _ hq (by rw [tail_drop]; exact hx))
        have hXn : ∀ k, x 999 ((ab L).drop (j + 1), nm) = .error k → X = .error k := fun k hx => HX.out.trans (rowGo_err x f l _ hq (by rw [tail_drop]; exact hx))
        have HXy := Lib.hid hXy
        have HXn := Lib.hid hXn
        clear hq hXy hXn
        go_wp2_with fail
        refine km.mono ?_
        rintro en w2 ⟨rfl, hb⟩
        have hR2 := HR.out.stay hb
        have c2 : w2.cell? ⟨r, 2, none⟩ = some (.int .i64 (j : Nat)) := by rw [hR2.cell]; rfl
        have f2 := hR2.free 2
        have jw := wrap1' (n := j) (by omega)
        have HR2 := Lib.hid (hR2.step hjlt)
        have HF2 := Lib.hid ((HF.out.trans (Fr.of_below hb)).set (p := ⟨r, 2, none⟩) (.inl rfl) (.int .i64 ((j : Int) + 1)))
        have hk2 := Lib.hid (HRw.out.kept (Kt.below hb))
        have HRw2 := Lib.hid (hk2.out.kept (kt_set (p := ⟨r, 2, none⟩) (v := .int .i64 ((j : Int) + 1)) hR2.blk (by decide)))
        have ky := HW.out 999 (j + 1) nv nm p _ (by decide) (by decide) HR2.out
        clear hR2 hk2 hb km HR HF HRw
        go_wp2_with fail
        refine ky.mono ?_
        rintro en w3 ⟨u, a2, i2, nv2, nm2, p2, k2, rfl, hT, hi2, hR3, hF3, hA⟩
        obtain ⟨ap2, an2, ac2, rfl⟩ := hT.shape
        have HRw3 := Lib.hid (HRw2.out.kept (keep hF3 HR2.out (by decide) (by decide)))
        have hgs := HRw2.out.lt
        have hws := HF2.out.size
        have HT := Lib.hid (hT.imp (D' := fun k => w.heap.size ≤ k ∧ k ≠ g) fun k _ hk => ⟨by omega, by omega⟩)
        have HR3 := Lib.hid hR3
        have HF3 := Lib.hid (HF2.out.trans hF3)
        have HA := Lib.hid (show (k2 = 0 ∧ X = rowGo x f (l ++ [u]) ((ab L).drop i2, nm2)) ∨ (k2 ≠ 0 ∧ X = .error k2) from by
          by_cases hk : k2 = 0
          · exact .inl ⟨hk, HXy.out _ _ (hA.ok hk)⟩
          · exact .inr ⟨hk, HXn.out _ (hA.bad hk)⟩)
        have hws3 := HF3.out.size
        clear hT hR3 hF3 ky hA HXy HXn HR2 HF2 HRw2 c2 f2 hws hgs
        go_wp2_with (at_builtin; refine wpList_term rfl _ _ rfl (fun k => w.heap.size ≤ k) w3 g cap l u (.slice ap2 an2 ac2) rfl HRw3.out HT.out rfl (fun k hk => by omega) rfl (by omega) ?_; intro g4 cap4 w4 hRw4 hgr4; have HRw4 := Lib.hid hRw4; have hb4 := Lib.hid hgr4; clear hRw4 hgr4)
        obtain ⟨hg1, cs, hg2⟩ := HRw3.out.block
        have hrw := H.out.lt
        go_roundg (L.length - i2)
        case measure => have := HR3.out.le; omega
        case rel =>
          exact ⟨g4, cap4, l ++ [u], i2, nv2, nm2, f, p2, k2, rfl, by simp, by omega, by simp; omega, by omega, by simp, HRw4, Lib.hid (HR3.out.grown hg2 hb4.out (by omega)), Lib.hid (HF3.out.own (grown_below hb4.out hg1 (by omega)) (Nat.le_refl _)), HA⟩
    · have he2 : ((e : Int) == 0) = false := by rw [beq_eq_false_iff_ne]; omega
      have hXe := Lib.hid (show X = .error e from by
        rcases HX.out with h | h
        · exact absurd h.1 he
        · exact h.2)
      have He := Lib.hid he
      clear he
      go_wp2
      go_ret
      exact ⟨l, g, cap, j, nv, nm, p, e, rfl, HRw.out, hij, hlj, hl0, HR.out, HF.out, agree_bad hXe.out He.out⟩
end Go.Proofs.Ytpihmockcjdafaa.rr
end
