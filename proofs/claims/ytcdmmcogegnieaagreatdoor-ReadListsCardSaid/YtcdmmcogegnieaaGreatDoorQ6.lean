/- The program's reader: variable.; The program's reader: bracketed, row.; The reference's reader in memory; what a call of it keeps.; The reference's reader: next, fail, wrong, mark, must. -/
import Derived.Test.YtcdmmcogegnieaaGreatDoorQ5
import Derived.Deep.AppendLies
set_option linter.unusedVariables false
section
/- The program's reader: variable. -/
namespace Go.Proofs.YtcdmmcogegnieaaGreatDoor.rd
open Go.RowKit
open Go.Proofs.YtcdmmcogegnieaaGreatDoor.op (bs strC Both Tb progI progP tupI lI lP)
open Go.Proofs.YtcdmmcogegnieaaGreatDoor.lx (Tok Tk tcell tcells cell_at ieq_yes ieq_no)
set_option maxRecDepth 20000

theorem push_keep {r b e i : Nat} {tk nv v' : Value} {L : List Tok} {nm : List (List UInt8)} {W W2 : World} {t : List UInt8} (h : Rd r b tk L e (i + 1) nv nm W) (hn : nm.length ≤ i) {o : Obj}
    (hgr : (W.alloc o).grownBy W2 nv.ownBlock) (hown : W2.ownsRow b 9 1 v' (nm ++ [t]).length (strC ((nm ++ [t]).map bs))) :
    Rd r b tk L e (i + 1) v' (nm ++ [t]) (W2.setCell ⟨r, 3, none⟩ v') ∧ Fr r b W (W2.setCell ⟨r, 3, none⟩ v') ∧ W2.cell? ⟨r, 3, none⟩ = some nv ∧ W2.frozen? ⟨r, 3, none⟩ = false := by
  have hnb : ∀ g, nv.ownBlock = some g → b ≤ g ∧ ∃ cs, W.heap[g]? = some (.cells cs 9 (0, 0)) := fun g hg => by
    rcases h.names.2 with ⟨h1, _⟩ | ⟨g', cap, cur, h1, h2, h3, _⟩
    · rw [h1] at hg; cases hg
    · rw [h1] at hg; cases hg; exact ⟨h2, cur, h3⟩
  have hal : ∀ k, k < W.heap.size → (W.alloc o).heap[k]? = W.heap[k]? := fun k hk => Lib.alloc_old W o k hk
  have hrlt := h.lt
  have hrb := h.rb
  have hF1 : Fr r b W W2 := ⟨hgr.os, hgr.tape, hgr.output, Nat.le_trans (by simp) hgr.size, fun k hk _ hs => (hgr.block k (by simp; omega) fun e => by
    obtain ⟨h1, cs, h2⟩ := hnb k e.symm
    rcases hs with hs | hs
    · omega
    · exact hs _ _ h2).trans (hal k hk)⟩
  have hr2 : W2.heap[r]? = some (.cells #[tk, .int .i64 (e : Nat), .int .i64 ((i + 1 : Nat) : Nat), nv] 70 (0, 0)) :=
    ((hgr.block r (by simp; omega) fun e => by have := (hnb r e.symm).1; omega).trans (hal r hrlt)).trans h.blk
  have hF := hF1.set (p := ⟨r, 3, none⟩) (.inl rfl) v'
  refine ⟨⟨?_, own_kept h.toks (hF.keep h (by decide) (by decide)), own_kept hown (kt_set hr2 (by decide)), h.le, by rw [List.length_append, List.length_singleton]; omega, both_low h.tb ((hF.below h).mono h.lo), h.lo, h.rb, Nat.le_trans h.bz hF.size, h.good, h.en⟩, hF, by rw [cell_at hr2]; rfl, by simp [World.frozen?, hr2]⟩
  rw [heap_set_at hr2]; rfl
theorem idxOf_le (nm : List (List UInt8)) (n : List UInt8) : nm.idxOf n ≤ nm.length := List.idxOf_le_length
theorem name_beq (n : List UInt8) : ((bs n).toList == [95]) = decide (n = [95]) := by
  rw [ByteArray.toList_eq]
  show (n == [95]) = _
  by_cases h : n = [95] <;> simp [h]
set_option maxHeartbeats 2000000 in
theorem variable_c {r b e i : Nat} {tk nv : Value} {L : List Tok} {nm : List (List UInt8)} {w : World} (h : Rd r b tk L e i nv nm w) (hk : (tokAt L e i).kind = 2) :
    Calls Tryz.prog 85 #[.pointer (some ⟨r, 0, none⟩)] w (TQ r b tk L e i w (.ok (varP ((ab L).drop i, nm)))) := by
  have hi : i < L.length := lt_of_kind (e := e) (by omega)
  have hnml := h.nml
  have hl := h.good.len
  obtain ⟨na, nc, rfl⟩ : ∃ a c, nv = .slice a nm.length c := by
    rcases h.names.2 with ⟨h1, h2⟩ | ⟨g', cap, cur, h1, _⟩
    · exact ⟨none, 0, by rw [h1, h2]⟩
    · exact ⟨_, _, h1⟩
  have hvp : varP ((ab L).drop i, nm) = (if nm.idxOf (tokAt L e i).text = nm.length ∨ (tokAt L e i).text = [95] then (.leaf 1 (nm.length : Nat) [], ((ab L).drop (i + 1), nm ++ [(tokAt L e i).text])) else (.leaf 1 (nm.idxOf (tokAt L e i).text : Nat) [], ((ab L).drop (i + 1), nm))) := by
    unfold varP
    simp only [tail_drop]
    rw [show (nx ((ab L).drop i)).text = (tokAt L e i).text from (nx_tok L e i).2]
  have hvi : idxV nm (tokAt L e i).text = if nm.idxOf (tokAt L e i).text = nm.length then -1 else ((nm.idxOf (tokAt L e i).text : Nat) : Int) := rfl
  have hle := idxOf_le nm (tokAt L e i).text
  have kx := fun w h => index_c (b := b) (nv := .slice na nm.length nc) (nm := nm) (w := w) h (tokAt L e i).text (by omega)
  have hnb := name_beq (tokAt L e i).text
  generalize hX : varP ((ab L).drop i, nm) = X at *
  have hf := field_x
  have H := Lib.hid h
  clear h hX
  generalize htx : (tokAt L e i).text = tx at *
  have hrb0 := heap_alloc_new w (.cells #[.int .i64 0, .int .i64 0, .string ⟨#[]⟩, .slice none 0 0] 25)
  generalize hj : nm.idxOf tx = j at *
  have Hvp := Lib.hid hvp
  have Hvi := Lib.hid hvi
  have Htx := Lib.hid htx
  clear hvp hvi hj htx
  generalize hvv : idxV nm tx = vi at *
  clear hvv
  have kxx := Lib.hid kx
  clear kx
  go_enter Tryz.func85, Tryz.ntmps85
  go_wp2_with fail
  refine (next_c (H.out.alloc _)).mono ?_
  rintro en w1 ⟨rfl, hb⟩
  have hR1 := (H.out.alloc (.cells #[.int .i64 0, .int .i64 0, .string ⟨#[]⟩, .slice none 0 0] 25)).stay hb
  have hrb := Lib.hid ((hb.block w.heap.size (by simp)).trans hrb0)
  have hB := Lib.hid (((Below.refl _ w).alloc (Nat.le_refl _) (.cells #[.int .i64 0, .int .i64 0, .string ⟨#[]⟩, .slice none 0 0] 25)).trans (hb.mono (by simp)))
  have c2 : w1.cell? ⟨r, 2, none⟩ = some (.int .i64 (i : Nat)) := by rw [hR1.cell]; rfl
  have f2 := hR1.free 2
  have HR := Lib.hid (hR1.step hi)
  have HR1 := Lib.hid hR1
  have hlt := H.out.lt
  have c3 : (w1.setCell ⟨r, 2, none⟩ (.int .i64 ((i : Int) + 1))).cell? ⟨r, 3, none⟩ = some (.slice na nm.length nc) := by rw [HR.out.cell]; rfl
  have i1 : IntKind.i64.wrap ((i : Int) + 1) = ((i + 1 : Nat) : Int) := by rw [IntWalk.i64_in _ (by omega)]; omega
  clear hb hR1 hrb0
  unfold tokV
  rw [Htx.out]
  have hrw := Lib.hid ((Below.heap_setCell w1 ⟨r, 2, none⟩ (.int .i64 ((i : Int) + 1)) w.heap.size (by show w.heap.size ≠ r; omega)).trans hrb.out)
  have HF := Lib.hid ((Fr.of_below (r := r) (b := b) hB.out).set (p := ⟨r, 2, none⟩) (.inl rfl) (.int .i64 ((i : Int) + 1)))
  go_wp2_with fail
  clear hrb hB c2 f2 HR1
  generalize World.setCell w1 ⟨r, 2, none⟩ _ = W at *
  refine (kxx.out _ HR.out.names).mono ?_
  rintro en w2 ⟨rfl, rfl⟩
  clear kxx
  generalize hBe : w.heap.size = B at *
  have HBe := Lib.hid hBe
  have n1 : ¬ r = B := by omega
  have n2 : ¬ B = r := by omega
  clear hBe
  by_cases hnew : j = nm.length ∨ tx = [95]
  · have hXe := Lib.hid (Hvp.out.trans (if_pos hnew))
    have ht : ((vi < 0 : Prop) ∧ True) ∨ (¬ (vi < 0) ∧ tx = [95]) := by
      rcases Nat.lt_or_ge j nm.length with h1 | h1
      · rcases hnew with h2 | h2
        · omega
        · right; rw [Hvi.out, if_neg (by omega)]; exact ⟨by omega, h2⟩
      · left; rw [Hvi.out, if_pos (by omega)]; exact ⟨by omega, trivial⟩
    clear hnew
    have HV := Lib.hid Hvi.out
    clear Hvi Hvp
    rcases ht with ⟨hv, _⟩ | ⟨hv, hx⟩
    · have hvn : decide (vi < 0) = true := by simpa using hv
      clear hnb
      go_wp2_with (at_builtin; refine wpList_name rfl _ _ rfl b w2 (.slice na nm.length nc) nm tx rfl HR.out.names rfl (by omega) HR.out.bz ?_; intro g3 cap3 w3 hown3 hgr3; obtain ⟨hRd, hFr, q3, qf⟩ := push_keep HR.out hnml hgr3 hown3; have HRd := Lib.hid hRd; have HFr := Lib.hid hFr; have hrb3 := hFr.keep HR.out (t := 25) (by decide) (by decide) _ _ _ hrw.out; obtain ⟨r0, r1, r2, r3, f0⟩ := cells4 hrb3; have Hrb3 := Lib.hid hrb3; clear hRd hFr hown3 hgr3 hrb3)
      (try simp only [Exit.inBlock, Exit.then])
      refine fin_term (D := fun _ => False) (t := .leaf 1 nm.length []) rfl rfl HRd.out (HF.out.trans HFr.out) Hrb3.out (Nat.le_of_eq HBe.out) (by rw [HBe.out]; omega) (by rw [Rp]) (fun _ h => h.elim) (by rw [hXe.out]) (by omega)
    · have hvn : decide (vi < 0) = false := by simpa using hv
      have hnb2 : ((bs tx).toList == [95]) = true := by rw [hnb]; simpa using hx
      clear hnb hx
      go_wp2_with (at_builtin; refine wpList_name rfl _ _ rfl b w2 (.slice na nm.length nc) nm tx rfl HR.out.names rfl (by omega) HR.out.bz ?_; intro g3 cap3 w3 hown3 hgr3; obtain ⟨hRd, hFr, q3, qf⟩ := push_keep HR.out hnml hgr3 hown3; have HRd := Lib.hid hRd; have HFr := Lib.hid hFr; have hrb3 := hFr.keep HR.out (t := 25) (by decide) (by decide) _ _ _ hrw.out; obtain ⟨r0, r1, r2, r3, f0⟩ := cells4 hrb3; have Hrb3 := Lib.hid hrb3; clear hRd hFr hown3 hgr3 hrb3)
      (try simp only [Exit.inBlock, Exit.then])
      refine fin_term (D := fun _ => False) (t := .leaf 1 nm.length []) rfl rfl HRd.out (HF.out.trans HFr.out) Hrb3.out (Nat.le_of_eq HBe.out) (by rw [HBe.out]; omega) (by rw [Rp]) (fun _ h => h.elim) (by rw [hXe.out]) (by omega)
  · have hXe := Lib.hid (Hvp.out.trans (if_neg hnew))
    have hvj : vi = (j : Int) := by rw [Hvi.out, if_neg fun h => hnew (.inl h)]
    have hnb2 : ((bs tx).toList == [95]) = false := by rw [hnb]; simpa using fun h => hnew (.inr h)
    clear hnb Hvi Hvp hnew
    subst hvj
    have hvn : decide ((j : Int) < 0) = false := by simp
    obtain ⟨r0, r1, r2, r3, f0⟩ := cells4 hrw.out
    go_wp2
    (try simp only [Exit.inBlock, Exit.then])
    refine fin_term (D := fun _ => False) (t := .leaf 1 j []) rfl rfl HR.out HF.out hrw.out (Nat.le_of_eq HBe.out) (by rw [HBe.out]; omega) (by rw [Rp]) (fun _ h => h.elim) (by rw [hXe.out]) (by omega)
end Go.Proofs.YtcdmmcogegnieaaGreatDoor.rd
end
section
/- The program's reader: bracketed, row. -/
namespace Go.Proofs.YtcdmmcogegnieaaGreatDoor.rd
open Go.RowKit
open Go.Proofs.YtcdmmcogegnieaaGreatDoor.op (bs strC Both Tb progI progP tupI lI lP)
open Go.Proofs.YtcdmmcogegnieaaGreatDoor.lx (Tok Tk tcell tcells cell_at ieq_yes ieq_no)
set_option maxRecDepth 20000

theorem term_info3 : (Tryz.prog.info? 25).map (fun i => (i.zero, i.size, i.bytes)) = some (some (.agg #[.int .i64 0, .int .i64 0, .string ⟨#[]⟩, .slice none 0 0]), 4, 56) := by kernel_rfl
/-- a row of terms that may grow: its block g, and terms that lie in others -/
def Rw (D : Nat → Prop) (w : World) (g cap : Nat) (l : List T) : Prop :=
  ∃ az : List Value, w.ownsRow 0 25 4 (.slice (some ⟨g, 0, none⟩) l.length cap) l.length (tvs (l.zip az)) ∧ D g ∧ Rps (fun k => D k ∧ k ≠ g) w l az
theorem Rw.kept {D : Nat → Prop} {w w' : World} {g cap : Nat} {l : List T} (h : Rw D w g cap l) (hk : Kt 25 w w') : Rw D w' g cap l := by
  obtain ⟨az, h1, h2, h3⟩ := h
  exact ⟨az, own_kept h1 hk, h2, h3.kept hk⟩
theorem Rw.lt {D : Nat → Prop} {w : World} {g cap : Nat} {l : List T} (h : Rw D w g cap l) : g < w.heap.size := by
  obtain ⟨az, h1, _⟩ := h
  exact ((World.ownsRow.lt h1) g rfl).2
theorem Rw.imp {D D' : Nat → Prop} {w : World} {g cap : Nat} {l : List T} (h : Rw D w g cap l) (hd : ∀ k, k < w.heap.size → D k → D' k) : Rw D' w g cap l := by
  have hg := h.lt
  obtain ⟨az, h1, h2, h3⟩ := h
  exact ⟨az, h1, hd g hg h2, h3.imp fun k hk hh => ⟨hd k hk hh.1, hh.2⟩⟩
theorem Rw.one {D : Nat → Prop} {w : World} {t : T} {a : Value} (h : Rp (fun k => D k) w t a) (hD : D w.heap.size) : Rw D (w.alloc (.cells (tv t a).toArray 25)) w.heap.size 1 [t] := by
  refine ⟨[a], ⟨rfl, .inr ⟨w.heap.size, 1, (tv t a).toArray, rfl, Nat.zero_le _, heap_alloc_new w _, Nat.le_refl _, by unfold maxLen; omega, rfl, ?_⟩⟩, hD, Rps.one ?_⟩
  · simp [tvs, tv]
  · exact Rp.kept (Kt.alloc (Kt.refl _ _) _) (h.imp fun k hk hd => ⟨hd, by omega⟩)
theorem Rw.two {D : Nat → Prop} {w : World} {t u : T} {a c : Value} (h : Rp D w t a) (h2 : Rp D w u c) (hD : D w.heap.size) : Rw D (w.alloc (.cells (tv t a ++ tv u c).toArray 25)) w.heap.size 2 [t, u] := by
  refine ⟨[a, c], ⟨rfl, .inr ⟨w.heap.size, 2, (tv t a ++ tv u c).toArray, rfl, Nat.zero_le _, heap_alloc_new w _, Nat.le_refl _, by unfold maxLen; omega, rfl, ?_⟩⟩, hD, Rps.two ?_ ?_⟩
  · simp [tvs, tv]
  · exact Rp.kept (Kt.alloc (Kt.refl _ _) _) (h.imp fun k hk hd => ⟨hd, by omega⟩)
  · exact Rp.kept (Kt.alloc (Kt.refl _ _) _) (h2.imp fun k hk hd => ⟨hd, by omega⟩)
theorem Rw.block {D : Nat → Prop} {w : World} {g cap : Nat} {l : List T} (h : Rw D w g cap l) : D g ∧ ∃ cs, w.heap[g]? = some (.cells cs 25 (0, 0)) := by
  obtain ⟨az, h1, h2, _⟩ := h
  rcases h1.2 with ⟨h3, _⟩ | ⟨g', cap', cur, h3, _, h4, _⟩
  · cases h3
  · cases h3; exact ⟨h2, cur, h4⟩
/-- behind an append to a row of terms all else lies as it lay -/
theorem grown_kt {w w4 : World} {o : Obj} {g : Nat} {cs : Array Value} {t u : TypeId} (hg : w.heap[g]? = some (.cells cs u (0, 0))) (h : (w.alloc o).grownBy w4 (some g)) (hn : t ≠ u) : Kt t w w4 := fun k ds fr hk => by
  rw [h.block k (by have := lt_of hk; simp; omega) (fun e => by cases e; rw [hg] at hk; cases hk; exact hn rfl), Lib.alloc_old w _ k (lt_of hk)]; exact hk
theorem grown_below {w w4 : World} {o : Obj} {g B : Nat} (h : (w.alloc o).grownBy w4 (some g)) (hB : B ≤ g) (hw : B ≤ w.heap.size) : Below B w w4 :=
  ⟨h.os, h.tape, h.output, Nat.le_trans (by simp) h.size, fun k hk => by rw [h.block k (by simp; omega) (fun e => by cases e; omega), Lib.alloc_old w _ k (by omega)]⟩
theorem Rd.grown {r b e i : Nat} {tk nv : Value} {L : List Tok} {nm : List (List UInt8)} {w w4 : World} {o : Obj} {g : Nat} {cs : Array Value} (hR : Rd r b tk L e i nv nm w) (hg : w.heap[g]? = some (.cells cs 25 (0, 0))) (h : (w.alloc o).grownBy w4 (some g)) (hr : r < g) : Rd r b tk L e i nv nm w4 :=
  hR.kept ((h.block r (by have := hR.lt; simp; omega) (fun e => by cases e; omega)).trans (Lib.alloc_old w _ r hR.lt)) (grown_kt hg h (by decide)) (grown_kt hg h (by decide)) ((grown_below h (B := r) (by omega) (by have := hR.lt; omega)))
/-- a row as the parts of a term -/
theorem Rw.cmp {D : Nat → Prop} {w : World} {g cap : Nat} {l : List T} (h : Rw D w g cap l) (s : List UInt8) : Rp D w (.cmp s l) (.slice (some ⟨g, 0, none⟩) l.length cap) := by
  obtain ⟨az, h1, h2, h3⟩ := h
  rw [Rp]
  exact ⟨az, h1, fun k hk => by cases hk; exact h2, h3.imp fun k _ hk => hk.1⟩
theorem zip_snoc {α β : Type} (l : List α) (m : List β) (a : α) (c : β) (h : m.length = l.length) : (l ++ [a]).zip (m ++ [c]) = l.zip m ++ [(a, c)] := by
  rw [List.zip_append h.symm]; rfl
/-- one term more -/
theorem wpList_term {ops : Array Oper} {rest : List Oper} {o : Oper} {A : Act} {Q : Exit → Act → World → Prop} (hgd : o.guard = none) (s x : Operand)
    (ho : o.op = .call { callee := .builtin .append, args := #[s, x], argTypes := #[23, 23] })
    (D : Nat → Prop) (w : World) (g cap : Nat) (l : List T) (t : T) (a : Value) (hs : A.eval s = .slice (some ⟨g, 0, none⟩) l.length cap) (hw : Rw D w g cap l) (hT : Rp (fun k => D k ∧ k ≠ g) w t a) (ha : a.oneCell' = true)
    (hD : ∀ k, w.heap.size ≤ k → D k) (hx : A.eval x = .slice (some ⟨w.heap.size, 0, none⟩) 1 1) (hlen : l.length ≤ 100000)
    (h : ∀ g' cap' w', Rw D w' g' cap' (l ++ [t]) → (w.alloc (.cells (tv t a).toArray 25)).grownBy w' (some g) →
      wpList Tryz.prog ops Q rest (A.put o.dst (.slice (some ⟨g', 0, none⟩) (l.length + 1) cap')) w') :
    wpList Tryz.prog ops Q (o :: rest) A (w.alloc (.cells (tv t a).toArray 25)) := by
  obtain ⟨i0, hi, hz0, hz1, hz2⟩ := info_parts term_info3
  have hb0 : (w.alloc (.cells (tv t a).toArray 25)).heap[w.heap.size]? = some (.cells (tv t a).toArray 25 (0, 0)) := heap_alloc_new w _
  obtain ⟨az, h1, h2, h3⟩ := hw
  have hg := ((World.ownsRow.lt h1) g rfl).2
  refine wpList_append_lies _ hgd s x 23 ho 0 25 i0 _ 4 56 Tryz.underlying23 hi hz0 hz1 hz2 rfl (by decide) (.slice (some ⟨g, 0, none⟩) l.length cap) l.length (tvs (l.zip az)) hs (World.ownsRow.alloc h1 _) ⟨w.heap.size, 0, none⟩ 1 1 (tv t a) hx rfl ?_ ?_ (by omega) ?_ ?_ (Nat.zero_le _) _ rfl ?_
  · intro j u hj
    rw [op.addr_add, cell_at hb0, ← Array.getElem?_toList]; exact hj
  · intro u hu; simp [tv] at hu; rcases hu with rfl | rfl | rfl | rfl <;> first | rfl | exact ha
  · unfold maxLen; omega
  · omega
  · intro g' cap' w' hown' hgr hat hlt
    refine h g' cap' w' ?_ hgr
    have e1 : tvs (l.zip az) ++ tv t a = tvs ((l ++ [t]).zip (az ++ [a])) := by rw [zip_snoc _ _ _ _ h3.len, tvs_append]; simp [tvs]
    rw [e1] at hown'
    have hkd : Kd (fun k => D k ∧ k ≠ g ∧ k < w.heap.size) 25 w w' := fun k cs fr hd hk => by
      rw [hgr.block k (by simp; omega) (fun e => hd.2.1 (by cases e; rfl)), Lib.alloc_old w _ k hd.2.2]; exact hk
    have hgg : g' = g ∨ g' = w.heap.size + 1 := by
      rcases hat with e | e
      · left; cases e; rfl
      · right; rw [e]; simp
    refine ⟨az ++ [a], by rw [List.length_append]; exact hown', ?_, ?_⟩
    · rcases hgg with rfl | rfl
      · exact h2
      · exact hD _ (by omega)
    · refine (Rps.append ((h3.imp (D' := fun k => D k ∧ k ≠ g ∧ k < w.heap.size) fun k hk hd => ⟨hd.1, hd.2, hk⟩).keptD hkd) (Rps.one ((hT.imp (D' := fun k => D k ∧ k ≠ g ∧ k < w.heap.size) fun k hk hd => ⟨hd.1, hd.2, hk⟩).keptD hkd))).imp fun k _ hd => ⟨hd.1, ?_⟩
      rcases hgg with rfl | rfl
      · exact hd.2.1
      · have := hd.2.2; omega
theorem Rp.shape {D : Nat → Prop} {w : World} {t : T} {a : Value} (h : Rp D w t a) : ∃ p n c, a = .slice p n c := by
  cases t with
  | leaf k n s => rw [Rp] at h; exact ⟨_, _, _, h⟩
  | cmp s l =>
    rw [Rp] at h
    obtain ⟨az, h1, _⟩ := h
    rcases h1.2 with ⟨h1, h2⟩ | ⟨g', cap, cur, h1, _⟩ <;> exact ⟨_, _, _, h1⟩
/-- what the functions that give rows give -/
def RQ (r b : Nat) (tk : Value) (L : List Tok) (e i : Nat) (w : World) (x : Res (List T)) (en : Ending) (w' : World) : Prop :=
  match x with
  | .ok (l, s) => ∃ g cap i' nv', en = .returned (.slice (some ⟨g, 0, none⟩) l.length cap) ∧ Rw (fun k => w.heap.size ≤ k) w' g cap l ∧ s.1 = (ab L).drop i' ∧ i ≤ i' ∧ Rd r b tk L e i' nv' s.2 w' ∧ Fr r b w w' ∧ l.length ≤ i' + 1 ∧ l ≠ []
  | .error k => ∃ p : Nat, en = Wr p k ∧ Below r w w'
theorem rowGo_no (x : W) (f : Nat) (l : List T) (s : St) (h : isM (nx s.1) [44] = false) : rowGo x f l s = .ok (l, s) := by
  cases f with
  | zero => rfl
  | succ f => rw [rowGo, h]; rfl
theorem rowGo_err (x : W) (f : Nat) (l : List T) (s : St) {k : Nat} (h : isM (nx s.1) [44] = true) (hx : x 999 (s.1.tail, s.2) = .error k) : rowGo x (f + 1) l s = .error k := by
  rw [rowGo, if_pos h, hx]
theorem rowGo_yes (x : W) (f : Nat) (l : List T) (s : St) {t : T} {s' : St} (h : isM (nx s.1) [44] = true) (hx : x 999 (s.1.tail, s.2) = .ok (t, s')) : rowGo x (f + 1) l s = rowGo x f (l ++ [t]) s' := by
  rw [rowGo, if_pos h, hx]
theorem isM_lt {L : List Tok} {i : Nat} {m : List UInt8} (h : isM (nx ((ab L).drop i)) m = true) : i < L.length := by
  rcases Nat.lt_or_ge i L.length with h1 | h1
  · exact h1
  · rw [nx_nil L i h1] at h; simp [isM, K0] at h

theorem size_alloc (w : World) (o : Obj) : (w.alloc o).heap.size = w.heap.size + 1 := by simp
set_option maxHeartbeats 2000000 in
theorem bracketed_c {r b e i cb cd d : Nat} {tk nv : Value} {L : List Tok} {nm : List (List UInt8)} {w : World} {x : W} (h : Rd r b tk L e i nv nm w) (hw : WOk r b cb cd d tk L e x) (hC : Cl r cb d cd w) (m : List UInt8) :
    Calls Tryz.prog 87 #[.pointer (some ⟨r, 0, none⟩), .string (bs m), clV cb cd] w (TQ r b tk L e i w (bracketP x m ((ab L).drop i, nm))) := by
  have kx := hw 1200 i nv nm (w.alloc (.cells #[.int .i64 0, .int .i64 0, .string ⟨#[]⟩, .slice none 0 0] 25)) (by decide) (by decide) (hC.stay ((Below.refl _ _).alloc (Nat.le_refl _) _)) (h.alloc _)
  have hrb0 := heap_alloc_new w (.cells #[.int .i64 0, .int .i64 0, .string ⟨#[]⟩, .slice none 0 0] 25)
  have Hrb0 := Lib.hid hrb0
  have H := Lib.hid h
  have hX : ∀ k, x 1200 ((ab L).drop i, nm) = .error k → bracketP x m ((ab L).drop i, nm) = .error k := fun k hk => by unfold bracketP; rw [hk]
  have hX2 : ∀ t s', x 1200 ((ab L).drop i, nm) = .ok (t, s') → bracketP x m ((ab L).drop i, nm) = if isM (nx s'.1) m = true then .ok (t, (s'.1.tail, s'.2)) else .error 50 := fun t s' hk => by
    unfold bracketP expectP; rw [hk]; dsimp only; cases isM (nx s'.1) m <;> rfl
  generalize bracketP x m ((ab L).drop i, nm) = X at *
  have ke := fun i nv nm w h => expect_c (r := r) (b := b) (e := e) (i := i) (tk := tk) (nv := nv) (L := L) (nm := nm) (w := w) h m
  clear hC hw h hrb0
  rcases hx : x 1200 ((ab L).drop i, nm) with k | ⟨t, s'⟩
  · rw [hx] at kx
    have HX := Lib.hid (hX k hx)
    clear hX hX2 hx ke
    generalize bs m = bm at *
    unfold clV
    go_enter Tryz.func87, Tryz.ntmps87
    go_wp2_with fail
    refine kx.mono ?_
    rintro en w1 ⟨p, rfl, hb⟩
    have HB := Lib.hid (((Below.refl _ w).alloc (by have := H.out.lt; omega) _).trans hb)
    clear hb kx
    unfold Wr
    go_wp2
    exact ⟨rfl, by rw [HX.out]; exact ⟨p, rfl, HB.out⟩⟩
  · rw [hx] at kx
    have HX := Lib.hid (hX2 t s' hx)
    clear hX hX2 hx
    have kee := Lib.hid ke
    clear ke
    generalize hbm : bs m = bm at *
    clear hbm
    unfold clV
    go_enter Tryz.func87, Tryz.ntmps87
    go_wp2_with fail
    refine kx.mono ?_
    rintro en w1 ⟨a, i1, nv1, rfl, hT, hs, hi1, hR1, hF1⟩
    obtain ⟨ap, an, ac, rfl⟩ := hT.shape
    have hF := Lib.hid ((Fr.of_below (r := r) (b := b) ((Below.refl w.heap.size w).alloc (Nat.le_refl _) (.cells #[.int .i64 0, .int .i64 0, .string ⟨#[]⟩, .slice none 0 0] 25))).trans hF1)
    have hrb1 := Lib.hid (hF1.keep (H.out.alloc _) (t := 25) (by decide) (by decide) _ _ _ Hrb0.out)
    have hz1 := hF1.size
    rw [size_alloc] at hz1
    have HT := Lib.hid hT
    have HR1 := Lib.hid hR1
    have Hs := Lib.hid hs
    clear hT hR1 hF1 hs kx Hrb0
    go_wp2_with fail
    refine (kee.out i1 nv1 s'.2 _ (HR1.out.alloc _)).mono ?_
    rw [← Hs.out]
    rintro en w2 (⟨hm, rfl, hR2, hF2⟩ | ⟨hm, p, rfl, hb⟩)
    · have hX3 := Lib.hid (HX.out.trans (if_pos hm))
      have hil := isM_lt (L := L) (i := i1) (by rw [← Hs.out]; exact hm)
      have hk2 := hF2.keep (HR1.out.alloc _) (t := 25) (by decide) (by decide)
      have hb1 := Lib.hid (hk2 _ _ _ ((Lib.alloc_old w1 (.cells #[.int .i64 (t.k : Nat), .int .i64 t.n, .string (bs t.s), .slice ap an ac] 25) w.heap.size (by omega)).trans hrb1.out))
      have hb2 := Lib.hid (hk2 _ _ _ (heap_alloc_new w1 _))
      have HT2 := Lib.hid ((HT.out.imp (D' := fun k => w.heap.size + 1 ≤ k ∧ k < w1.heap.size) fun k hk hd => ⟨by rw [size_alloc] at hd; exact hd, hk⟩).kept ((Kt.alloc (Kt.refl _ _) _).trans hk2))
      have HR2 := Lib.hid hR2
      have HF2 := Lib.hid (hF.out.trans ((Fr.of_below ((Below.refl _ _).alloc (Nat.le_refl _) _)).trans hF2))
      have hlt := H.out.lt
      obtain ⟨q0, q1, q2, q3, qf⟩ := cells4 hb1.out
      obtain ⟨u0, u1, u2, u3, _⟩ := cells4 hb2.out
      clear hk2 hF2 hR2 HT hm HX kee hrb1
      generalize hB1 : w.heap.size = B1 at *
      generalize hB2 : w1.heap.size = B2 at *
      have HB1 := Lib.hid hB1
      have n1 : ¬ B1 = B2 := by omega
      have n2 : ¬ B2 = B1 := by omega
      clear hB1 hB2
      go_wp2
      (try simp only [Exit.inBlock, Exit.then])
      refine fin_term rfl rfl HR2.out HF2.out hb1.out (Nat.le_of_eq HB1.out) (by rw [HB1.out]; omega) HT2.out (fun k hk => ⟨by rw [HB1.out]; omega, by omega⟩) (by rw [hX3.out, Hs.out, tail_drop]) (by omega)
    · have hX3 := Lib.hid (HX.out.trans (if_neg (by rw [hm]; decide)))
      have HB := Lib.hid ((hF.out.below H.out).trans (((Below.refl r w1).alloc (by have := HR1.out.lt; omega) _).trans hb))
      clear hb hm
      unfold Wr
      go_wp2
      exact ⟨rfl, by rw [hX3.out]; exact ⟨p, rfl, HB.out⟩⟩

theorem Cl.fr {r b e i cb cd d : Nat} {tk nv : Value} {L : List Tok} {nm : List (List UInt8)} {w w' : World} (h : Cl r cb d cd w) (hR : Rd r b tk L e i nv nm w) (hF : Fr r b w w') : Cl r cb d cd w' :=
  h.kept (hF.keep hR (by decide) (by decide)) (hF.keep hR (by decide) (by decide))
set_option maxHeartbeats 2000000 in
theorem row_c {r b e i cb cd d : Nat} {tk nv : Value} {L : List Tok} {nm : List (List UInt8)} {w : World} {x : W} (h : Rd r b tk L e i nv nm w) (hw : WOk r b cb cd d tk L e x) (hC : Cl r cb d cd w) :
    Calls Tryz.prog 94 #[.pointer (some ⟨r, 0, none⟩), clV cb cd] w (RQ r b tk L e i w (rowP x ((ab L).drop i, nm))) := by
  have kx := hw 999 i nv nm w (by decide) (by decide) hC h
  have H := Lib.hid h
  have HC := Lib.hid hC
  have HW := Lib.hid hw
  have hX : ∀ k, x 999 ((ab L).drop i, nm) = .error k → rowP x ((ab L).drop i, nm) = .error k := fun k hk => by unfold rowP; rw [hk]
  have hX2 : ∀ t s', x 999 ((ab L).drop i, nm) = .ok (t, s') → rowP x ((ab L).drop i, nm) = rowGo x s'.1.length [t] s' := fun t s' hk => by unfold rowP; rw [hk]
  generalize rowP x ((ab L).drop i, nm) = X at *
  clear h hw hC
  rcases hx : x 999 ((ab L).drop i, nm) with k | ⟨t, s'⟩
  · rw [hx] at kx
    have HX := Lib.hid (hX k hx)
    clear hX hX2 hx
    unfold clV
    go_enter Tryz.func94, Tryz.ntmps94
    go_wp2_with fail
    refine kx.mono ?_
    rintro en w1 ⟨p, rfl, hb⟩
    have HB := Lib.hid hb
    clear hb kx
    unfold Wr
    go_wp2
    exact ⟨rfl, by rw [HX.out]; exact ⟨p, rfl, HB.out⟩⟩
  · rw [hx] at kx
    have HX := Lib.hid (hX2 t s' hx)
    clear hX hX2 hx
    unfold clV
    have hll := H.out.good.len
    go_enter Tryz.func94, Tryz.ntmps94
    go_wp2_with fail
    refine kx.mono ?_
    rintro en w1 ⟨a, i1, nv1, rfl, hT, hs, hi1, hR1, hF1⟩
    obtain ⟨ap, an, ac, rfl⟩ := hT.shape
    have HRw := Lib.hid (Rw.one (D := fun k => w.heap.size ≤ k) hT hF1.size)
    have HR1 := Lib.hid (hR1.alloc (.cells (tv t (.slice ap an ac)).toArray 25))
    have HF1 := Lib.hid (hF1.alloc (.cells (tv t (.slice ap an ac)).toArray 25))
    have HC1 := Lib.hid ((HC.out.fr H.out hF1).stay ((Below.refl _ _).alloc (Nat.le_refl _) (.cells (tv t (.slice ap an ac)).toArray 25)))
    have HX1 := Lib.hid (show X = rowGo x s'.1.length [t] ((ab L).drop i1, s'.2) from by rw [HX.out, ← hs])
    have hfl : L.length - i1 ≤ s'.1.length := by rw [hs, List.length_drop, ab_len]; omega
    clear hT hR1 hF1 hs kx HX
    go_wp2_with fail
    go_loopg [5] (L.length - i1) (fun k v wr => ∃ (g cap : Nat) (l : List T) (j : Nat) (nv : Value) (nm : List (List UInt8)) (f : Nat), k = L.length - j ∧ v = .slice (some ⟨g, 0, none⟩) l.length cap ∧ i ≤ j ∧ l.length ≤ j + 1 ∧ L.length - j ≤ f ∧ l ≠ [] ∧
      Hid (Rw (fun k => w.heap.size ≤ k) wr g cap l) ∧ Hid (Rd r b tk L e j nv nm wr) ∧ Hid (Fr r b w wr) ∧ Hid (X = rowGo x f l ((ab L).drop j, nm)) ∧ Hid (Cl r cb d cd wr))
    case atStart => exact ⟨w1.heap.size, 1, [t], i1, nv1, s'.2, _, rfl, rfl, hi1, by simp, hfl, by simp, HRw, HR1, HF1, HX1, HC1⟩
    case round =>
      clear HRw HR1 HF1 HX1 HC1 hfl
      obtain ⟨g, cap, l, j, nv, nm, f, hgk, rfl, hij, hlj, hf, hl0, HRw, HR, HF, HX, HC⟩ := hrel
      have hjl := HR.out.le
      have kp := passes_c HR.out [44]
      rw [show bs [44] = ⟨#[44]⟩ from rfl] at kp
      rcases hq : isM (nx ((ab L).drop j)) [44] with _ | _
      · rw [hq] at kp
        have hXe := Lib.hid (HX.out.trans (rowGo_no x f l _ hq))
        clear hq
        go_wp2_with fail
        refine kp.mono ?_
        rintro en w2 ⟨rfl, hF2, hR2⟩
        have HR2 := Lib.hid hR2
        have HF2 := Lib.hid (HF.out.trans hF2)
        have HRw2 := Lib.hid (HRw.out.kept (hF2.keep HR.out (by decide) (by decide)))
        clear hR2 hF2 kp
        go_wp2
        go_ret
        rw [hXe.out]
        exact ⟨g, cap, j, nv, rfl, HRw2.out, rfl, hij, HR2.out, HF2.out, hlj, hl0⟩
      · rw [hq] at kp
        have hjlt := isM_lt hq
        obtain ⟨f, rfl⟩ : ∃ f', f = f' + 1 := ⟨f - 1, by omega⟩
        rcases hx : x 999 ((ab L).drop (j + 1), nm) with k | ⟨u, s2⟩
        · have hXe := Lib.hid (HX.out.trans (rowGo_err x f l _ hq (by rw [tail_drop]; exact hx)))
          clear hq
          go_wp2_with fail
          refine kp.mono ?_
          rintro en w2 ⟨rfl, hF2, hR2⟩
          have ky := HW.out 999 (j + 1) nv nm w2 (by decide) (by decide) (HC.out.fr HR.out hF2) hR2
          rw [hx] at ky
          have HF2 := Lib.hid (HF.out.trans hF2)
          clear hR2 hF2 kp hx
          go_wp2_with fail
          refine ky.mono ?_
          rintro en w3 ⟨p, rfl, hb⟩
          have HB := Lib.hid ((HF2.out.below H.out).trans hb)
          clear hb ky
          unfold Wr
          go_wp2
          exact ⟨rfl, by rw [hXe.out]; exact ⟨p, rfl, HB.out⟩⟩
        · have hXe := Lib.hid (HX.out.trans (rowGo_yes x f l _ hq (by rw [tail_drop]; exact hx)))
          clear hq
          go_wp2_with fail
          refine kp.mono ?_
          rintro en w2 ⟨rfl, hF2, hR2⟩
          have ky := HW.out 999 (j + 1) nv nm w2 (by decide) (by decide) (HC.out.fr HR.out hF2) hR2
          rw [hx] at ky
          have HF2 := Lib.hid (HF.out.trans hF2)
          have HC2 := Lib.hid (HC.out.fr HR.out hF2)
          have HRw2 := Lib.hid (HRw.out.kept (hF2.keep HR.out (by decide) (by decide)))
          have HR2 := Lib.hid hR2
          clear hR2 hF2 kp hx
          go_wp2_with fail
          refine ky.mono ?_
          rintro en w3 ⟨a2, i2, nv2, rfl, hT, hs, hi2, hR3, hF3⟩
          obtain ⟨ap2, an2, ac2, rfl⟩ := hT.shape
          have HRw3 := Lib.hid (HRw2.out.kept (hF3.keep HR2.out (by decide) (by decide)))
          have hgs := HRw2.out.lt
          have hws := HF2.out.size
          have HT := Lib.hid (hT.imp (D' := fun k => w.heap.size ≤ k ∧ k ≠ g) fun k _ hk => ⟨by omega, by omega⟩)
          have HR3 := Lib.hid hR3
          have HF3 := Lib.hid (HF2.out.trans hF3)
          have HC3 := Lib.hid (HC2.out.fr HR2.out hF3)
          have Hs := Lib.hid hs
          have hws3 := HF3.out.size
          clear hT hR3 hF3 hs ky
          go_wp2_with (at_builtin; refine wpList_term rfl _ _ rfl (fun k => w.heap.size ≤ k) w3 g cap l u (.slice ap2 an2 ac2) rfl HRw3.out HT.out rfl (fun k hk => by omega) rfl (by omega) ?_; intro g4 cap4 w4 hRw4 hgr4; have HRw4 := Lib.hid hRw4; have hb4 := Lib.hid hgr4; clear hRw4 hgr4)
          obtain ⟨hg1, cs, hg2⟩ := HRw3.out.block
          have hrw := H.out.lt
          go_roundg (L.length - i2)
          case measure => have := HR3.out.le; omega
          case rel =>
            have hs2 : s2 = ((ab L).drop i2, s2.2) := by rw [← Hs.out]
            exact ⟨g4, cap4, l ++ [u], i2, nv2, s2.2, f, rfl, by simp, by omega, by simp; omega, by omega, by simp, HRw4, Lib.hid (HR3.out.grown hg2 hb4.out (by omega)), Lib.hid (HF3.out.own (grown_below hb4.out hg1 (by omega)) (Nat.le_refl _)),
              Lib.hid (by rw [hXe.out, ← hs2]), Lib.hid (HC3.out.kept (grown_kt hg2 hb4.out (by decide)) (grown_kt hg2 hb4.out (by decide)))⟩
end Go.Proofs.YtcdmmcogegnieaaGreatDoor.rd
end
section
/- The reference's reader in memory; what a call of it keeps. -/
namespace Go.Proofs.YtcdmmcogegnieaaGreatDoor.rr
open Go.RowKit
open Go.Proofs.YtcdmmcogegnieaaGreatDoor.rd
open Go.Proofs.YtcdmmcogegnieaaGreatDoor.op (bs strC Both Tb)
open Go.Proofs.YtcdmmcogegnieaaGreatDoor.lx (Tok Tk tcell tcells cell_at)
set_option maxRecDepth 20000

/-- the marks that a text has -/
def marks : List (List UInt8) := [[40], [41], [91], [93], [123], [125], [44], [124]]
/-- the reader: its text S, where it stands, the names so far; at the place p, what is wrong (0: nothing) -/
structure Rr (r b : Nat) (S : List UInt8) (tk : Value) (L : List Tok) (i : Nat) (nv : Value) (nm : List (List UInt8)) (p k : Nat) (w : World) : Prop where
  blk : w.heap[r]? = some (.cells #[.string (bs S), tk, .int .i64 (i : Nat), nv, .int .i64 (p : Nat), .int .i64 (k : Nat)] 56 (0, 0))
  toks : Tk 0 w tk L
  names : w.ownsRow b 9 1 nv nm.length (strC (nm.map bs))
  le : i ≤ L.length
  nml : nm.length ≤ i
  tb : Both w
  lo : 2 ≤ r
  rb : r < b
  bz : b ≤ w.heap.size
  good : rd.Good L
  mks : ∀ t ∈ L, t.kind = 5 → t.text ∈ marks
  en : S.length ≤ 8192
section
variable {r b i p k : Nat} {S : List UInt8} {tk nv nv' nv'' : Value} {L : List Tok} {nm : List (List UInt8)} {w w' w'' : World}
theorem keep (h : Fr r b w w') (hR : Rr r b S tk L i nv nm p k w) {t : TypeId} (h1 : t ≠ 56) (h2 : t ≠ 9) : Kt t w w' := fun k cs fr hk => by
  rw [h.block k (lt_of hk) (fun e => by subst e; rw [hR.blk] at hk; cases hk; exact h1 rfl) (.inr fun cs' fr' e => by rw [hk] at e; cases e; exact h2 rfl)]
  exact hk
theorem below (h : Fr r b w w') (hR : Rr r b S tk L i nv nm p k w) : Below r w w' :=
  ⟨h.os, h.tape, h.output, h.size, fun k hk => h.block k (by have := lt_of hR.blk; omega) (by omega) (.inl (by have := hR.rb; omega))⟩
theorem Rr.lt (h : Rr r b S tk L i nv nm p k w) : r < w.heap.size := lt_of h.blk
theorem both_below {w w' : World} (h : Both w) (hl : ∀ k, k < 2 → w'.heap[k]? = w.heap[k]?) : Both w' := by
  obtain ⟨⟨t0, f0, h0, _⟩, ⟨t1, f1, h1, _⟩⟩ := h
  exact ⟨⟨t0, f0, by rw [hl 0 (by omega)]; exact h0, rfl⟩, ⟨t1, f1, by rw [hl 1 (by omega)]; exact h1, rfl⟩⟩
theorem Rr.kept (h : Rr r b S tk L i nv nm p k w) (hb : w'.heap[r]? = w.heap[r]?) (hk : Kt 51 w w') (hs : Kt 9 w w') (hl : Below r w w') : Rr r b S tk L i nv nm p k w' :=
  ⟨hb.trans h.blk, own_kept h.toks hk, own_kept h.names hs, h.le, h.nml, both_below h.tb fun k hk => hl.block k (by have := h.lo; omega), h.lo, h.rb, Nat.le_trans h.bz hl.size, h.good, h.mks, h.en⟩
theorem Rr.stay (h : Rr r b S tk L i nv nm p k w) (hb : Below w.heap.size w w') : Rr r b S tk L i nv nm p k w' :=
  h.kept (hb.block r h.lt) (Kt.below hb) (Kt.below hb) (hb.mono (by have := h.lt; omega))
theorem Rr.alloc (h : Rr r b S tk L i nv nm p k w) (o : Obj) : Rr r b S tk L i nv nm p k (w.alloc o) := h.stay ((Below.refl _ _).alloc (Nat.le_refl _) o)
theorem Rr.drew (h : Rr r b S tk L i nv nm p k w) (n : Nat) : Rr r b S tk L i nv nm p k (w.drewN n) := h.stay ⟨rfl, rfl, rfl, Nat.le_refl _, fun _ _ => rfl⟩
theorem Rr.cell (h : Rr r b S tk L i nv nm p k w) (j : Nat) : w.cell? ⟨r, j, none⟩ = (#[.string (bs S), tk, .int .i64 (i : Nat), nv, .int .i64 (p : Nat), .int .i64 (k : Nat)] : Array Value)[j]? := cell_at h.blk j
theorem Rr.free (h : Rr r b S tk L i nv nm p k w) (j : Nat) : w.frozen? ⟨r, j, none⟩ = false := by simp [World.frozen?, h.blk]
/-- a store into a block of the call's own -/
theorem Rr.set (h : Rr r b S tk L i nv nm p k w) {q : Addr} {v : Value} {cs : Array Value} {u : TypeId} {fr : Nat × Nat} (hp : w.heap[q.block]? = some (.cells cs u fr)) (hr : r < q.block) (h1 : 51 ≠ u) (h2 : 9 ≠ u) :
    Rr r b S tk L i nv nm p k (w.setCell q v) :=
  h.kept (Below.heap_setCell _ _ _ _ (by omega)) (kt_set hp h1) (kt_set hp h2) ((Below.refl r w).setCell (by omega) _)
theorem Rr.set4 (h : Rr r b S tk L i nv nm p k w) {g : Nat} {a0 a1 a2 a3 : Value} {u : TypeId} (hp : w.heap[g]? = some (.cells #[a0, a1, a2, a3] u (0, 0))) (hr : r < g) (h1 : 51 ≠ u) (h2 : 9 ≠ u) (a c d e : Value) :
    Rr r b S tk L i nv nm p k ((((w.setCell ⟨g, 0, none⟩ a).setCell ⟨g, 1, none⟩ c).setCell ⟨g, 2, none⟩ d).setCell ⟨g, 3, none⟩ e) := by
  have p1 := heap_set_at (j := 0) (v := a) hp
  have p2 := heap_set_at (j := 1) (v := c) p1
  have p3 := heap_set_at (j := 2) (v := d) p2
  exact (((h.set (q := ⟨g, 0, none⟩) hp hr h1 h2).set (q := ⟨g, 1, none⟩) p1 hr h1 h2).set (q := ⟨g, 2, none⟩) p2 hr h1 h2).set (q := ⟨g, 3, none⟩) p3 hr h1 h2
/-- one token on -/
theorem Rr.step (h : Rr r b S tk L i nv nm p k w) (hi : i < L.length) : Rr r b S tk L (i + 1) nv nm p k (w.setCell ⟨r, 2, none⟩ (.int .i64 ((i : Int) + 1))) :=
  ⟨by rw [heap_set_at h.blk]; rfl, own_kept h.toks (kt_set h.blk (by decide)), own_kept h.names (kt_set h.blk (by decide)), hi, by have := h.nml; omega,
    both_below h.tb fun j hj => Below.heap_setCell _ _ _ _ (by have := h.lo; show j ≠ r; omega), h.lo, h.rb, by simpa [World.setCell] using h.bz, h.good, h.mks, h.en⟩
/-- what is wrong -/
theorem Rr.bad (h : Rr r b S tk L i nv nm p k w) (p' k' : Nat) : Rr r b S tk L i nv nm p' k' ((w.setCell ⟨r, 4, none⟩ (.int .i64 (p' : Nat))).setCell ⟨r, 5, none⟩ (.int .i64 (k' : Nat))) := by
  have h1 := heap_set_at (j := 4) (v := .int .i64 (p' : Nat)) h.blk
  have e : ∀ j, j ≠ r → ((w.setCell ⟨r, 4, none⟩ (.int .i64 (p' : Nat))).setCell ⟨r, 5, none⟩ (.int .i64 (k' : Nat))).heap[j]? = w.heap[j]? := fun j hj =>
    (Below.heap_setCell _ _ _ _ hj).trans (Below.heap_setCell _ _ _ _ hj)
  exact ⟨by rw [heap_set_at h1]; rfl, own_kept h.toks ((kt_set h.blk (by decide)).trans (kt_set h1 (by decide))), own_kept h.names ((kt_set h.blk (by decide)).trans (kt_set h1 (by decide))), h.le, h.nml,
    both_below h.tb fun j hj => e j (by have := h.lo; omega), h.lo, h.rb, by simpa [World.setCell] using h.bz, h.good, h.mks, h.en⟩
end
/-- the token at place i; behind the last one none, at the place n -/
def tkAt (L : List Tok) (n i : Nat) : Tok := L.getD i ⟨0, [], n, 0⟩
theorem tkAt_kind (L : List Tok) (n i : Nat) : (tkAt L n i).kind = (nx ((ab L).drop i)).kind := by
  rw [(nx_tok L n i).1]; unfold tkAt tokAt
  by_cases h : i < L.length <;> simp [h]
theorem tkAt_text (L : List Tok) (n i : Nat) : (tkAt L n i).text = (nx ((ab L).drop i)).text := by
  rw [(nx_tok L n i).2]; unfold tkAt tokAt
  by_cases h : i < L.length <;> simp [h]
theorem tk_lt {L : List Tok} {n i : Nat} (h : (tkAt L n i).kind ≠ 0) : i < L.length := by
  rcases Nat.lt_or_ge i L.length with h1 | h1
  · exact h1
  · exfalso; apply h; simp [tkAt, List.getElem?_eq_none h1]
theorem tk_mem {L : List Tok} {n i : Nat} (h : i < L.length) : tkAt L n i ∈ L := by
  rw [show tkAt L n i = L[i] by simp [tkAt, h]]; exact List.getElem_mem h
theorem tk_len {L : List Tok} {n i : Nat} (h : rd.Good L) : (tkAt L n i).text.length ≤ 4096 := by
  rcases Nat.lt_or_ge i L.length with h1 | h1
  · exact h.text _ (tk_mem h1)
  · simp [tkAt, List.getElem?_eq_none h1]
/-- what an answer says of the reader -/
def Agree {α : Type} (L : List Tok) (x : Res α) (u : α) (i' : Nat) (nm' : List (List UInt8)) (k : Nat) : Prop :=
  match x with | .ok (v, s) => v = u ∧ k = 0 ∧ s = ((ab L).drop i', nm') | .error e => k = e ∧ e ≠ 0
/-- a term or, where something is wrong, whatever term; and where the reader stands -/
def SQ (r b : Nat) (S : List UInt8) (tk : Value) (L : List Tok) (i : Nat) (w : World) (x : Res T) (en : Ending) (w' : World) : Prop :=
  ∃ (t : T) (a : Value) (i' : Nat) (nv' : Value) (nm' : List (List UInt8)) (p k : Nat), en = .returned (.agg #[.int .i64 (t.k : Nat), .int .i64 t.n, .string (bs t.s), a]) ∧ Rp (fun k => w.heap.size ≤ k) w' t a ∧ i ≤ i' ∧
    Rr r b S tk L i' nv' nm' p k w' ∧ Fr r b w w' ∧ Agree L x t i' nm' k
/-- the same with a priority -/
def SPQ (r b : Nat) (S : List UInt8) (tk : Value) (L : List Tok) (i : Nat) (w : World) (x : Res (T × Int)) (en : Ending) (w' : World) : Prop :=
  ∃ (t : T) (q : Int) (a : Value) (i' : Nat) (nv' : Value) (nm' : List (List UInt8)) (p k : Nat), en = .returned (.tuple #[.agg #[.int .i64 (t.k : Nat), .int .i64 t.n, .string (bs t.s), a], .int .i64 q]) ∧ Rp (fun k => w.heap.size ≤ k) w' t a ∧ i ≤ i' ∧
    Rr r b S tk L i' nv' nm' p k w' ∧ Fr r b w w' ∧ Agree L x (t, q) i' nm' k
/-- the same for rows -/
def SRQ (r b : Nat) (S : List UInt8) (tk : Value) (L : List Tok) (i : Nat) (w : World) (x : Res (List T)) (en : Ending) (w' : World) : Prop :=
  ∃ (l : List T) (g cap : Nat) (i' : Nat) (nv' : Value) (nm' : List (List UInt8)) (p k : Nat), en = .returned (.slice (some ⟨g, 0, none⟩) l.length cap) ∧ Rw (fun k => w.heap.size ≤ k) w' g cap l ∧ i ≤ i' ∧ l.length ≤ i' + 1 ∧ l ≠ [] ∧
    Rr r b S tk L i' nv' nm' p k w' ∧ Fr r b w w' ∧ Agree L x l i' nm' k
/-- the function term, within d others, does as x says -/
def XOk (r b : Nat) (S : List UInt8) (tk : Value) (L : List Tok) (d : Nat) (x : W) : Prop :=
  ∀ (most : Int) (i : Nat) (nv : Value) (nm : List (List UInt8)) (p : Nat) (w : World), -10000 ≤ most → most ≤ 10000 → Rr r b S tk L i nv nm p 0 w →
    Calls Tryz.prog 23 #[.pointer (some ⟨r, 0, none⟩), .int .i64 most, .int .i64 (d : Nat)] w (SQ r b S tk L i w (x most ((ab L).drop i, nm)))
end Go.Proofs.YtcdmmcogegnieaaGreatDoor.rr
end
section
/- The reference's reader: next, fail, wrong, mark, must. -/
namespace Go.Proofs.YtcdmmcogegnieaaGreatDoor.rr
open Go.RowKit
open Go.Proofs.YtcdmmcogegnieaaGreatDoor.rd
open Go.Proofs.YtcdmmcogegnieaaGreatDoor.op (bs strC Both Tb)
open Go.Proofs.YtcdmmcogegnieaaGreatDoor.lx (Tok Tk tcell tcells cell_at)
set_option maxRecDepth 20000
section
variable {r b i p k : Nat} {S : List UInt8} {tk nv : Value} {L : List Tok} {nm : List (List UInt8)} {w : World}

set_option maxHeartbeats 1000000 in
theorem next_c (h : Rr r b S tk L i nv nm p k w) :
    Calls Tryz.prog 24 #[.pointer (some ⟨r, 0, none⟩)] w fun en w' => en = .returned (tokV (tkAt L S.length i)) ∧ Below w.heap.size w w' := by
  have hle := h.le
  have hlen := h.good.len
  have hlt := h.lt
  obtain ⟨a, cap, rfl⟩ := h.toks.shape
  have c0 : ∀ o, (w.alloc o).cell? ⟨r, 0, none⟩ = some (.string (bs S)) := fun o => by rw [(h.alloc o).cell]; rfl
  have c1 : ∀ o, (w.alloc o).cell? ⟨r, 1, none⟩ = some (.slice a L.length cap) := fun o => by rw [(h.alloc o).cell]; rfl
  have c2 : ∀ o, (w.alloc o).cell? ⟨r, 2, none⟩ = some (.int .i64 (i : Nat)) := fun o => by rw [(h.alloc o).cell]; rfl
  have hsz : ((bs S).size : Int) = (S.length : Int) := by simp [bs, ByteArray.size]
  have H := Lib.hid h
  clear h
  by_cases hi : i < L.length
  · have hne : ((i : Int) == (L.length : Int)) = false := by rw [beq_eq_false_iff_ne]; omega
    obtain ⟨g, cap', hv, hcap, _, hgl, hcell⟩ := H.out.toks.row (by omega)
    obtain ⟨rfl, rfl⟩ : a = some ⟨g, 0, none⟩ ∧ cap = cap' := by simp at hv; exact hv
    obtain ⟨t0, t1, t2, t3⟩ := hcell i hi
    have hta : tkAt L S.length i = L[i] := by simp [tkAt, hi]
    have Hta := Lib.hid hta
    clear hta hcell hv
    generalize hT : L[i] = T at *
    clear hT
    have hlt2 : (i : Int) < (L.length : Int) := by omega
    go_enter Tryz.func24, Tryz.ntmps24
    go_wp2
    go_quiet (fail)
    go_wp2
    generalize hW : World.drewN _ _ = W
    have hB : Below w.heap.size w W := by rw [← hW]; exact ((Below.refl _ w).alloc (Nat.le_refl _) _).trans (below_drawn _ _ _)
    have hrb : W.heap[w.heap.size]? = some (.cells #[.int .i64 0, .string ⟨#[]⟩, .int .i64 0, .int .i64 0] 51 (0, 0)) := by rw [← hW]; exact heap_alloc_new w _
    have hz : w.heap.size < W.heap.size := lt_of hrb
    have hR := H.out.stay hB
    have d0 : W.cell? ⟨r, 1, none⟩ = some (.slice (some ⟨g, 0, none⟩) L.length cap) := by rw [hR.cell]; rfl
    have d2 : W.cell? ⟨r, 2, none⟩ = some (.int .i64 (i : Nat)) := by rw [hR.cell]; rfl
    have x2 : ∀ j, W.cell? ⟨g, j, none⟩ = w.cell? ⟨g, j, none⟩ := fun j => World.cell?_of_block (hB.block g hgl)
    rw [← x2] at t0 t1 t2 t3
    obtain ⟨r0, r1, r2, r3, f0⟩ := cells4 hrb
    have HB := Lib.hid hB
    have HR := Lib.hid hrb
    clear hW hrb hR x2 c0 c1 c2 hB
    generalize hBe : w.heap.size = B at *
    have HBe := Lib.hid hBe
    clear hBe
    go_region
    all_goals
      go_wp2
      refine bodyPost_ret (ret_tok rfl _ _ rfl (rd.set4 HR.out _ _ _ _)) rfl ?_
      exact ⟨by rw [Hta.out]; rfl, by rw [HBe.out]; exact (below4 HB.out (Nat.le_refl _) _ _ _ _).drew⟩
  · obtain rfl : i = L.length := by omega
    have hta : tkAt L S.length L.length = ⟨0, [], S.length, 0⟩ := by simp [tkAt]
    have Hta := Lib.hid hta
    clear hta
    go_enter Tryz.func24, Tryz.ntmps24
    go_wp2
    go_quiet (fail)
    go_wp2
    generalize hW : World.drewN _ _ = W
    have hB : Below w.heap.size w W := by rw [← hW]; exact ((Below.refl _ w).alloc (Nat.le_refl _) _).trans (below_drawn _ _ _)
    have hrb : W.heap[w.heap.size]? = some (.cells #[.int .i64 0, .string ⟨#[]⟩, .int .i64 0, .int .i64 0] 51 (0, 0)) := by rw [← hW]; exact heap_alloc_new w _
    refine bodyPost_ret (ret_tok rfl _ _ rfl (rd.set4 hrb _ _ _ _)) rfl ?_
    exact ⟨by rw [Hta.out]; rfl, below4 hB (Nat.le_refl _) _ _ _ _⟩

set_option maxHeartbeats 1000000 in
theorem fail_c (h : Rr r b S tk L i nv nm p 0 w) (p' k' : Nat) :
    Calls Tryz.prog 39 #[.pointer (some ⟨r, 0, none⟩), .int .i64 (p' : Nat), .int .i64 (k' : Nat)] w fun en w' => en = .returned (.tuple #[]) ∧ Rr r b S tk L i nv nm p' k' w' ∧ Fr r b w w' := by
  have c5 : w.cell? ⟨r, 5, none⟩ = some (.int .i64 0) := by rw [h.cell]; rfl
  have c4 : w.cell? ⟨r, 4, none⟩ = some (.int .i64 (p : Nat)) := by rw [h.cell]; rfl
  have ff := h.free
  have H := Lib.hid (h.bad p' k')
  have HF := Lib.hid (((Fr.refl r b w).set (p := ⟨r, 4, none⟩) (.inl rfl) (.int .i64 (p' : Nat))).set (p := ⟨r, 5, none⟩) (.inl rfl) (.int .i64 (k' : Nat)))
  clear h
  go_enter Tryz.func39, Tryz.ntmps39
  go_wp2
  go_end0
  exact ⟨rfl, H.out, HF.out⟩

set_option maxHeartbeats 1000000 in
theorem wrong_c (h : Rr r b S tk L i nv nm p 0 w) :
    Calls Tryz.prog 25 #[.pointer (some ⟨r, 0, none⟩)] w fun en w' => en = .returned (.tuple #[]) ∧ (∃ p', Rr r b S tk L i nv nm p' 50 w') ∧ Fr r b w w' := by
  have H := Lib.hid h
  clear h
  have hf := field_f
  go_enter Tryz.func25, Tryz.ntmps25
  go_wp2_with fail
  refine (next_c H.out).mono ?_
  rintro en w1 ⟨rfl, hb⟩
  have HR := Lib.hid (H.out.stay hb)
  have HF := Lib.hid (Fr.of_below (r := r) (b := b) hb)
  clear hb
  unfold tokV
  go_wp2_with fail
  refine (fail_c HR.out _ 50).mono ?_
  rintro en w2 ⟨rfl, hR, hF⟩
  have HR2 := Lib.hid hR
  have HF2 := Lib.hid (HF.out.trans hF)
  clear hR hF
  go_wp2
  go_end0
  exact ⟨rfl, ⟨_, HR2.out⟩, HF2.out⟩

set_option maxHeartbeats 1000000 in
theorem mark_c (h : Rr r b S tk L i nv nm p k w) (m : List UInt8) :
    Calls Tryz.prog 41 #[.pointer (some ⟨r, 0, none⟩), .string (bs m)] w fun en w' => en = .returned (.bool (isM (nx ((ab L).drop i)) m)) ∧ Below w.heap.size w w' := by
  have H := Lib.hid h
  clear h
  have hq : isM (nx ((ab L).drop i)) m = ((tkAt L S.length i).kind == 5 && (tkAt L S.length i).text == m) := by
    unfold isM; rw [tkAt_kind, tkAt_text]
  rw [hq]
  clear hq
  have kn := next_c H.out
  generalize tkAt L S.length i = t at *
  unfold tokV at kn
  by_cases h5 : t.kind = 5
  · have x1 : ((t.kind : Int) == 5) = true := by simp [h5]
    have hq : ∀ q, (t.kind == 5 && q) = q := fun q => by simp [h5]
    rw [hq]
    have x2 : ((bs t.text).toList == (bs m).toList) = (t.text == m) := by
      rw [ByteArray.toList_eq, ByteArray.toList_eq]; simp [bs]
    generalize bs t.text = a at *
    generalize bs m = c at *
    generalize (t.text == m) = q at *
    clear hq h5
    go_enter Tryz.func41, Tryz.ntmps41
    go_wp2_with fail
    refine kn.mono ?_
    rintro en w1 ⟨rfl, hb⟩
    have HB := Lib.hid hb
    clear hb kn
    cases q
    all_goals
      go_wp2
      go_ret
      exact ⟨rfl, HB.out.trans ((Below.refl _ _).alloc HB.out.size _)⟩
  · have x1 : ((t.kind : Int) == 5) = false := by rw [beq_eq_false_iff_ne]; omega
    have hq : ∀ q, (t.kind == 5 && q) = false := fun q => by simp [h5]
    rw [hq]
    generalize bs t.text = a at *
    generalize bs m = c at *
    clear hq h5
    go_enter Tryz.func41, Tryz.ntmps41
    go_wp2_with fail
    refine kn.mono ?_
    rintro en w1 ⟨rfl, hb⟩
    have HB := Lib.hid hb
    clear hb kn
    go_wp2
    go_ret
    exact ⟨rfl, HB.out.trans ((Below.refl _ _).alloc HB.out.size _)⟩

set_option maxHeartbeats 1000000 in
/-- the mark, or something is wrong -/
theorem must_c (h : Rr r b S tk L i nv nm p 0 w) (m : List UInt8) :
    Calls Tryz.prog 53 #[.pointer (some ⟨r, 0, none⟩), .string (bs m)] w fun en w' => en = .returned (.tuple #[]) ∧ Fr r b w w' ∧
      ((isM (nx ((ab L).drop i)) m = true ∧ Rr r b S tk L (i + 1) nv nm p 0 w') ∨ (isM (nx ((ab L).drop i)) m = false ∧ ∃ p', Rr r b S tk L i nv nm p' 50 w')) := by
  have c5 : w.cell? ⟨r, 5, none⟩ = some (.int .i64 0) := by rw [h.cell]; rfl
  have km := mark_c h m
  have hi := h.le
  have hl := h.good.len
  have hlt : isM (nx ((ab L).drop i)) m = true → i < L.length := isM_lt
  have H := Lib.hid h
  clear h
  generalize isM (nx ((ab L).drop i)) m = q at *
  cases q
  · clear hlt
    generalize bs m = c at *
    go_enter Tryz.func53, Tryz.ntmps53
    go_wp2_with fail
    refine km.mono ?_
    rintro en w1 ⟨rfl, hb⟩
    have HR := Lib.hid (H.out.stay hb)
    have HF := Lib.hid (Fr.of_below (r := r) (b := b) hb)
    clear hb km
    go_wp2_with fail
    refine (wrong_c HR.out).mono ?_
    rintro en w2 ⟨rfl, ⟨p', hR⟩, hF⟩
    have HR2 := Lib.hid hR
    have HF2 := Lib.hid (HF.out.trans hF)
    clear hR hF
    go_wp2
    refine bodyPost_ret (results_none rfl _ _ _) rfl ?_
    exact ⟨rfl, HF2.out, .inr ⟨by trivial, p', HR2.out⟩⟩
  · have hlt1 := hlt rfl
    clear hlt
    generalize bs m = c at *
    go_enter Tryz.func53, Tryz.ntmps53
    go_wp2_with fail
    refine km.mono ?_
    rintro en w1 ⟨rfl, hb⟩
    have hR := H.out.stay hb
    have c2 : w1.cell? ⟨r, 2, none⟩ = some (.int .i64 (i : Nat)) := by rw [hR.cell]; rfl
    have f2 := hR.free 2
    have i1 : IntKind.i64.wrap ((i : Int) + 1) = (i : Int) + 1 := by rw [IntWalk.i64_in _ (by omega)]
    have HR := Lib.hid (hR.step hlt1)
    have HF := Lib.hid ((Fr.of_below (r := r) (b := b) hb).set (p := ⟨r, 2, none⟩) (.inl rfl) (.int .i64 ((i : Int) + 1)))
    clear hb km hR
    go_wp2
    go_end0
    exact ⟨rfl, HF.out, .inl ⟨by trivial, HR.out⟩⟩
/-- where something is wrong already: nothing -/
theorem must_bad (h : Rr r b S tk L i nv nm p k w) (hk : k ≠ 0) (m : List UInt8) :
    Calls Tryz.prog 53 #[.pointer (some ⟨r, 0, none⟩), .string (bs m)] w fun en w' => en = .returned (.tuple #[]) ∧ w' = w := by
  have c5 : w.cell? ⟨r, 5, none⟩ = some (.int .i64 (k : Nat)) := by rw [h.cell]; rfl
  have hk2 : ((k : Int) == 0) = false := by rw [beq_eq_false_iff_ne]; omega
  generalize bs m = c at *
  clear h
  go_enter Tryz.func53, Tryz.ntmps53
  go_wp2
  refine bodyPost_ret (results_none rfl _ _ _) rfl ?_
  exact ⟨rfl, rfl⟩
end
end Go.Proofs.YtcdmmcogegnieaaGreatDoor.rr
end
