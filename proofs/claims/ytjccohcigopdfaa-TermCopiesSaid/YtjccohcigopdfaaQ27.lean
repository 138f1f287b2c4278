/- The reference's place, numbered.; The program's says: a map from numbers to numbers that grows.; The program's Variant: slices.EqualFunc over fits; fits. -/
import Derived.Test.YtjccohcigopdfaaQ26
import Derived.Test.YtjccohcigopdfaaQ24
import Derived.Test.YtjccohcigopdfaaQ25
import Derived.Test.YtjccohcigopdfaaQ23
set_option linter.unusedVariables false
set_option linter.unusedSimpArgs false
section
/- The reference's place, numbered. -/
namespace Go.Proofs.Ytjccohcigopdfaa.tm
open Go.RowKit
open Go.Proofs.Ytjccohcigopdfaa.wr
open Go.Proofs.Ytjccohcigopdfaa.rd
open Go.Proofs.Ytjccohcigopdfaa.op (bs strC)
open Go.Proofs.Ytjccohcigopdfaa.lx (cell_at)
open Go.Proofs.Ytjccohcigopdfaa.nm (Fit)
set_option maxRecDepth 20000

set_option maxHeartbeats 2000000 in
theorem place_c {w : World} {v : Value} {l : List Int} (n : Int) (h : Iw 0 w v l) (hl : l.length ≤ 2000000) :
    Calls Try.prog 54 #[v, .int .i64 n] w fun e w' => e = .returned (.int .i64 (posI l n)) ∧ w' = w := by
  obtain ⟨p, cap, rfl⟩ := h.sl
  have H := Lib.hid h
  obtain ⟨r, hr⟩ : ∃ r, posI l n = r := ⟨_, rfl⟩
  rw [hr]
  have HR := Lib.hid hr
  clear h hr
  go_enter Try.func54, Try.ntmps54
  go_wp2
  go_loopg [5] l.length (fun k v5 wr => ∃ i : Nat, k = l.length - i ∧ i ≤ l.length ∧ v5 = .int .i64 i ∧ wr = w ∧ Hid (n ∉ l.take i))
  case atStart => exact ⟨0, by omega, by omega, rfl, rfl, Lib.hid (by simp)⟩
  case round =>
    obtain ⟨i, hgk, hi, rfl, rfl, HT⟩ := hrel
    by_cases hlt : i < l.length
    · have hlt2 : (i : Int) < l.length := by omega
      have i4 : (0 : Int) ≤ (i : Int) := by omega
      obtain ⟨g, rfl, hcap, c0⟩ : ∃ g, p = some ⟨g, 0, none⟩ ∧ l.length ≤ cap ∧ wr.cell? ⟨g, i, none⟩ = some (.int .i64 l[i]) := by
        rcases H.out.shape with ⟨_, e⟩ | ⟨g, cap', e, h1, _, h2⟩
        · rw [e] at hlt; exact absurd hlt (Nat.not_lt_zero _)
        · injection e with e1 _ e3
          exact ⟨g, e1, by rw [e3]; exact h1, h2 i hlt⟩
      by_cases he : l[i] = n
      · have e1 : (l[i] == n) = true := by simp [he]
        obtain rfl : r = (i : Nat) := by
          rw [← HR.out]
          have hm : n ∈ l.take (i + 1) := by rw [List.take_succ_eq_append_getElem hlt, he]; simp
          have hp : l.take (i + 1) <+: l := List.take_prefix _ _
          rw [posI_pre hm hp]
          unfold posI
          rw [if_pos hm, List.take_succ_eq_append_getElem hlt, List.idxOf_append, if_neg HT.out, he]
          simp
          omega
        clear he
        generalize l[i] = m at *
        go_wp2
        go_ret
        exact ⟨rfl, rfl⟩
      · have e1 : (l[i] == n) = false := by simp [he]
        have HT2 : Hid (n ∉ l.take (i + 1)) := Lib.hid (by
          rw [List.take_succ_eq_append_getElem hlt, List.mem_append, List.mem_singleton]
          rintro (h | h)
          · exact HT.out h
          · exact he h.symm)
        clear he HT
        generalize l[i] = m at *
        go_wp2
        go_roundg (l.length - (i + 1))
        case measure => omega
        case rel => exact ⟨i + 1, rfl, by omega, by go_num, rfl, HT2⟩
    · have hlt2 : ¬ ((i : Int) < l.length) := by omega
      obtain rfl : r = -1 := by
        have h1 := HT.out
        rw [List.take_of_length_le (by omega)] at h1
        rw [← HR.out, posI, if_neg h1]
      go_wp2
      go_ret
      exact ⟨rfl, rfl⟩

/-- append of one term, at a step of a region that draws its order -/
theorem step_u1 {ops : Array Oper} {o : Oper} {A : Act} {K : Act → World → Prop} {Q : Exit → Act → World → Prop} {E : Prop} (hgd : o.guard = none) (s x : Operand)
    (ho : o.op = .call { callee := .builtin .append, args := #[s, x], argTypes := #[23, 23] })
    (D : Nat → Prop) (B : Nat) (W : World) (v0 : Value) (l : List (U × Value)) (hs : A.eval s = v0) (hown : Uw D B W v0 l) (g cap : Nat) (u : U) (a : Value) (hx : A.eval x = .slice (some ⟨g, 0, none⟩) 1 cap)
    (hc : W.heap[g]? = some (.cells #[.int .i64 u.k, .int .i64 u.n, .string (bs u.s), a] 25 (0, 0))) (hT : RuD (fun k => D k ∧ v0.ownBlock ≠ some k) W u a) (hl : l.length ≤ 2000000) (hB : B ≤ W.heap.size)
    (h : ∀ g' cap' w', Uw D B w' (.slice (some ⟨g', 0, none⟩) (l.length + 1) cap') (l ++ [(u, a)]) → W.grownBy w' v0.ownBlock → (v0.ownBlock = some g' ∨ g' = W.heap.size) → K (A.put o.dst (.slice (some ⟨g', 0, none⟩) (l.length + 1) cap')) w') :
    if Region.wanted o (yielded ops A.tmps) = true then Oper.wp Try.prog o A W K Q else E := by
  obtain ⟨i0, hi, hz0, hz1, hz2⟩ := info_parts term_info3
  refine step_append_lies _ hgd s x 23 ho B 25 i0 _ 4 56 Try.underlying23 hi hz0 hz1 hz2 rfl (by decide) v0 l.length (ucs l) hs hown.row ⟨g, 0, none⟩ 1 cap (ucell (u, a)) hx rfl ?_ ?_ (by omega) (by unfold maxLen; omega) (by omega) hB _ rfl ?_
  · intro j y hj
    rw [op.addr_add, cell_at hc, ← Array.getElem?_toList]; exact hj
  · intro y hy
    simp at hy
    rcases hy with rfl | rfl | rfl | rfl <;> first | rfl | exact hT.cell
  · intro g' cap' w' hown' hgr hat hlt
    have hkp : ∀ {y : U} {b : Value}, RuD (fun k => D k ∧ v0.ownBlock ≠ some k) W y b → RuD (fun k => D k ∧ (Value.slice (some ⟨g', 0, none⟩) (l.length + 1) cap').ownBlock ≠ some k) w' y b := fun hy =>
      hy.keep (fun k hk hd => hgr.block k hk (fun e => hd.2 e.symm)) fun k hk hd => ⟨hd.1, fun e => by
        have e2 : g' = k := by injection e
        subst e2
        rcases hat with h1 | h1
        · exact hd.2 h1
        · omega⟩
    refine h g' cap' w' ⟨by rw [List.length_append, ucs_app]; simpa [ucs] using hown', fun y hy => ?_⟩ hgr hat
    rcases List.mem_append.1 hy with hy | hy
    · exact hkp (hown.els y hy)
    · rw [List.mem_singleton.1 hy]; exact hkp hT
theorem Uw.keepB {D : Nat → Prop} {B : Nat} {w w' : World} {v : Value} {l : List (U × Value)} (h : Uw D B w v l) (hk : ∀ k, B ≤ k ∨ D k → w'.heap[k]? = w.heap[k]?) : Uw D B w' v l :=
  ⟨own_keptD (D := fun k => B ≤ k) h.row (fun g hg => (h.lt g hg).1) (fun k cs fr hd he => by rw [hk k (.inl hd)]; exact he), fun x hx => (h.els x hx).keep (fun k _ hd => hk k (.inr hd.1)) fun _ _ hd => hd⟩
theorem Uw.ruD {D : Nat → Prop} {B : Nat} {w : World} {v : Value} {l : List (U × Value)} {k n : Int} {s : List UInt8} (h : Uw D B w v l) (hf : Fit n) : RuD (fun j => D j ∨ B ≤ j) w (.mk k n s (l.map Prod.fst)) v := by
  have hlt := h.lt
  obtain ⟨p, cap, rfl, h2, h3, h4⟩ := h.shape
  rw [RuD]
  refine ⟨p, cap, by rw [List.length_map], by rw [List.length_map]; exact h2, h3, hf, ?_⟩
  have key : ∀ m j, j + m = l.length → RusD (fun j => D j ∨ B ≤ j) w ((l.drop j).map Prod.fst) p j := by
    intro m
    induction m with
    | zero => intro j hj; rw [List.drop_eq_nil_of_le (by omega), List.map_nil, RusD]; trivial
    | succ m ih =>
      intro j hj
      have hj2 : j < l.length := by omega
      obtain ⟨g, rfl, _, hc⟩ := h4 (by intro e; subst e; simp at hj)
      obtain ⟨c0, c1, c2, c3⟩ := hc j hj2
      rw [List.drop_eq_getElem_cons hj2, List.map_cons, RusD]
      exact ⟨⟨g, 0, l[j].2, rfl, .inr (hlt g rfl).1, by rw [Nat.zero_add]; exact c0, by rw [Nat.zero_add]; exact c1, by rw [Nat.zero_add]; exact c2, by rw [Nat.zero_add]; exact c3, (h.els _ (List.getElem_mem hj2)).imp fun _ _ hd => .inl hd.1⟩, ih (j + 1) (by omega)⟩
  exact key l.length 0 (by omega)
/-- all is as it was in w but for the block of v -/
def Kv (v : Value) (w w' : World) : Prop := ∀ j, j < w.heap.size → v.ownBlock ≠ some j → w'.heap[j]? = w.heap[j]?
/-- ready for the append -/
structure Nx (D : Nat → Prop) (B : Nat) (wr w5 : World) (v0 : Value) (l : List (U × Value)) (y : U) (a : Value) : Prop where
  row : Uw D B w5 v0 l
  new : RuD (fun k => D k ∧ v0.ownBlock ≠ some k) w5 y a
  few : l.length ≤ 1000000
  low : B ≤ wr.heap.size
  old : Below wr.heap.size wr w5
theorem step_nx {ops : Array Oper} {o : Oper} {A : Act} {K : Act → World → Prop} {Q : Exit → Act → World → Prop} {E : Prop} (hgd : o.guard = none) (s x : Operand)
    (ho : o.op = .call { callee := .builtin .append, args := #[s, x], argTypes := #[23, 23] })
    {D : Nat → Prop} {B : Nat} {wr w5 : World} {v0 : Value} {l : List (U × Value)} {y : U} {a : Value} (hN : Hid (Nx D B wr w5 v0 l y a)) (hs : A.eval s = v0) (hx : A.eval x = .slice (some ⟨w5.heap.size, 0, none⟩) 1 1)
    (h : ∀ g' cap' w', Hid (Uw D B w' (.slice (some ⟨g', 0, none⟩) (l.length + 1) cap') (l ++ [(y, a)])) → Hid (Kv v0 wr w') → Hid (Below B wr w') → K (A.put o.dst (.slice (some ⟨g', 0, none⟩) (l.length + 1) cap')) w') :
    if Region.wanted o (yielded ops A.tmps) = true then Oper.wp Try.prog o A (w5.alloc (.cells #[.int .i64 y.k, .int .i64 y.n, .string (bs y.s), a] 25)) K Q else E := by
  obtain ⟨h1, h2, h3, h4, h5⟩ := hN.out
  have hb := allocB w5 (.cells #[.int .i64 y.k, .int .i64 y.n, .string (bs y.s), a] 25)
  refine step_u1 hgd s x ho D B _ v0 l hs (h1.stay hb) w5.heap.size 1 y a hx (heap_alloc_new _ _) (h2.stay hb) (by omega) (by rw [sizeA]; have := h5.size; omega) fun g' cap' w' k1 k2 _ => h g' cap' w' (Lib.hid k1) (Lib.hid fun j hj hn => ?_) (Lib.hid ?_)
  · have := h5.size
    rw [k2.block j (by rw [sizeA]; omega) (fun e => hn e.symm), Lib.alloc_old _ _ _ (by omega)]
    exact h5.block j hj
  · refine ⟨k2.os.trans h5.os, k2.tape.trans h5.tape, k2.output.trans h5.output, ?_, fun j hj => ?_⟩
    · have e1 := k2.size; have e2 := h5.size; rw [sizeA] at e1; omega
    · have := h5.size
      rw [k2.block j (by rw [sizeA]; omega) (fun e => by have := (h1.lt j e.symm).1; omega), Lib.alloc_old _ _ _ (by omega)]
      exact h5.block j (by omega)
/-- a part as the walk finds it, of D -/
theorem RuD.at {D : Nat → Prop} {w : World} {u : U} {p : Option Addr} {cap : Nat} (h : RuD D w u (.slice p u.l.length cap)) : u.l.length ≤ cap ∧ cap ≤ maxLen ∧ ∀ i, i < u.l.length → ∃ (g o : Nat) (q : Option Addr) (c : Nat), p = some ⟨g, o, none⟩ ∧ D g ∧ w.cell? ⟨g, o + i * 4, none⟩ = some (.int .i64 (u.l.getD i dfU).k) ∧ w.cell? ⟨g, o + i * 4 + 1, none⟩ = some (.int .i64 (u.l.getD i dfU).n) ∧
      w.cell? ⟨g, o + i * 4 + 2, none⟩ = some (.string (bs (u.l.getD i dfU).s)) ∧ w.cell? ⟨g, o + i * 4 + 3, none⟩ = some (.slice q (u.l.getD i dfU).l.length c) ∧ RuD D w (u.l.getD i dfU) (.slice q (u.l.getD i dfU).l.length c) := by
  cases u with
  | mk k n s l =>
    rw [RuD] at h
    obtain ⟨p', cap', he, h2, h3, _, h5⟩ := h
    obtain ⟨rfl, rfl⟩ : p = p' ∧ cap = cap' := by injection he with x1 _ x2; exact ⟨x1, x2⟩
    refine ⟨h2, h3, ?_⟩
    show ∀ i, i < l.length → _
    have key : ∀ (l : List U) (j : Nat), RusD D w l p j → ∀ i, i < l.length → ∃ (g o : Nat) (q : Option Addr) (c : Nat), p = some ⟨g, o, none⟩ ∧ D g ∧ w.cell? ⟨g, o + (j + i) * 4, none⟩ = some (.int .i64 (l.getD i dfU).k) ∧ w.cell? ⟨g, o + (j + i) * 4 + 1, none⟩ = some (.int .i64 (l.getD i dfU).n) ∧
      w.cell? ⟨g, o + (j + i) * 4 + 2, none⟩ = some (.string (bs (l.getD i dfU).s)) ∧ w.cell? ⟨g, o + (j + i) * 4 + 3, none⟩ = some (.slice q (l.getD i dfU).l.length c) ∧ RuD D w (l.getD i dfU) (.slice q (l.getD i dfU).l.length c) := by
      intro l
      induction l with
      | nil => intro j _ i hi; exact absurd hi (Nat.not_lt_zero _)
      | cons u l ih =>
        intro j h i hi
        rw [RusD] at h
        cases i with
        | zero =>
          obtain ⟨⟨g, o, a, e1, e2, c0, c1, c2, c3, hr⟩, _⟩ := h
          obtain ⟨q, c, rfl, _⟩ := hr.one
          exact ⟨g, o, q, c, e1, e2, c0, c1, c2, c3, hr⟩
        | succ i =>
          have := ih (j + 1) h.2 i (by simpa using hi)
          rw [show j + (i + 1) = j + 1 + i by omega]
          simpa using this
    intro i hi
    have := key l 0 h5 i hi
    rw [Nat.zero_add] at this
    exact this

/-! ### numbered -/
theorem fit_pos {l : List Int} {n : Int} (hl : l.length ≤ 100000) : Fit (posI l n) := by
  unfold posI Fit
  split
  · rename_i h
    have := List.idxOf_lt_length_iff.2 h
    omega
  · omega
theorem ret_c4 {fn : Func} {p : Tmp} (h : fn.results = #[.cell p 25]) (tmps : Array Value) (w : World) {g : Nat} {a b c d : Value} (hp : tmps.getD p undef = .pointer (some ⟨g, 0, none⟩)) (hg : w.heap[g]? = some (.cells #[a, b, c, d] 25 (0, 0))) :
    (results fn tmps).run Try.prog w = .ok (.agg #[a, b, c, d]) w := by
  have hp' : tmps[p]?.getD undef = .pointer (some ⟨g, 0, none⟩) := by simpa using hp
  simp [results, h, hp', asAddr, run_loadVar_row w g 25 25 _ _ _ hg Try.underlying25 rfl term_info]
/-- a new term: its parts in blocks of the call's own, or in those of D -/
def NuQ (D : Nat → Prop) (u : U) (w : World) (e : Ending) (w' : World) : Prop :=
  ∃ a, e = .returned (uV u a) ∧ RuD (fun k => D k ∨ w.heap.size ≤ k) w' u a ∧ Below w.heap.size w w'
abbrev NmOk (L : List Int) (u : U) : Prop := ∀ (a v : Value) (D : Nat → Prop) (w : World), RuD D w u a → szU u ≤ 100000 → Iw 0 w v L →
  Calls Try.prog 40 #[uV u a, v] w (NuQ D (numU L u) w)
set_option maxHeartbeats 600000 in
theorem nm_step (L : List Int) (hL : L.length ≤ 100000) (u : U) (ih : ∀ i, i < u.l.length → NmOk L (u.l.getD i dfU)) : NmOk L u := by
  intro a v D w ha hz hv
  obtain ⟨p, cap, rfl, hfu⟩ := ha.one
  obtain ⟨pv, cv, rfl⟩ := hv.sl
  obtain ⟨b0, b1, bz, bb⟩ := box2 w (.cells #[.int .i64 u.k, .int .i64 u.n, .string (bs u.s), .slice p u.l.length cap] 25) (.cells #[.int .i64 0, .int .i64 0, .string ⟨#[]⟩, .slice none 0 0] 25)
  obtain ⟨x0, x1, x2, x3, _⟩ := cells4 b0
  obtain ⟨y0, y1, y2, y3, _⟩ := cells4 b1
  have hnq := numU_eq L u
  by_cases h1 : u.k = 1
  · rw [if_pos h1] at hnq
    rw [hnq]
    have kp := fun W (hb : Below w.heap.size w W) => place_c u.n (hv.stay hb) (by omega)
    have hfr := fun j => frz (j := j) b1
    obtain ⟨_, g1, _, gb⟩ := box2 w (.cells #[.int .i64 u.k, .int .i64 u.n, .string (bs u.s), .slice p u.l.length cap] 25) (.cells #[.int .i64 1, .int .i64 (posI L u.n), .string ⟨#[]⟩, .slice none 0 0] 25)
    have HG1 := Lib.hid g1
    have HGb := Lib.hid gb
    have HB := Lib.hid bb
    have HB1 := Lib.hid b1
    unfold uV
    have kp1 := kp _ bb
    have hR : Hid (∀ W, RuD (fun k => D k ∨ w.heap.size ≤ k) W (.mk 1 (posI L u.n) [] []) (.slice none 0 0)) := Lib.hid fun W => by rw [RuD]; exact ⟨none, 0, rfl, Nat.le_refl _, Nat.zero_le _, fit_pos hL, by rw [RusD]; trivial⟩
    clear ha b0 b1 bb ih kp hv g1 gb
    generalize posI L u.n = pp at *
    generalize L.length = ll at *
    generalize u.l.length = l1 at *
    generalize bs u.s = s1 at *
    generalize u.n = n1 at *
    generalize u.k = k1 at *
    subst h1
    go_enter Try.func40, Try.ntmps40
    go_wp2_with fail
    refine kp1.mono ?_
    rintro e w2 ⟨rfl, hw⟩
    subst hw
    clear kp1
    go_wp2
    refine bodyPost_ret (ret_c4 rfl _ _ rfl HG1.out) rfl ?_
    exact ⟨.slice none 0 0, rfl, hR.out _, HGb.out⟩
  rw [if_neg h1] at hnq
  by_cases h4 : u.k = 4
  · rw [if_pos h4] at hnq
    rw [hnq]
    obtain ⟨hl', hl, hat⟩ := ha.at
    unfold maxLen at hl
    have hb3 := allocB ((w.alloc (.cells #[.int .i64 u.k, .int .i64 u.n, .string (bs u.s), .slice p u.l.length cap] 25)).alloc (.cells #[.int .i64 0, .int .i64 0, .string ⟨#[]⟩, .slice none 0 0] 25)) (.cells #[.int .i64 4, .int .i64 0, .string (bs u.s), .slice none 0 0] 25)
    have b2 := heap_alloc_new ((w.alloc (.cells #[.int .i64 u.k, .int .i64 u.n, .string (bs u.s), .slice p u.l.length cap] 25)).alloc (.cells #[.int .i64 0, .int .i64 0, .string ⟨#[]⟩, .slice none 0 0] 25)) (.cells #[.int .i64 4, .int .i64 0, .string (bs u.s), .slice none 0 0] 25)
    rw [bz] at b2
    have B0 := (hb3.block w.heap.size (by omega)).trans b0
    have B1 := (hb3.block (w.heap.size + 1) (by omega)).trans b1
    have hbb := bb.trans (hb3.mono bb.size)
    have hsz3 : (((w.alloc (.cells #[.int .i64 u.k, .int .i64 u.n, .string (bs u.s), .slice p u.l.length cap] 25)).alloc (.cells #[.int .i64 0, .int .i64 0, .string ⟨#[]⟩, .slice none 0 0] 25)).alloc (.cells #[.int .i64 4, .int .i64 0, .string (bs u.s), .slice none 0 0] 25)).heap.size = w.heap.size + 3 := by rw [sizeA, bz]
    have HA := Lib.hid (ha.imp (D' := fun k => D k ∧ k < w.heap.size) fun k hk hd => ⟨hd, hk⟩)
    have HV := Lib.hid hv
    have IH := Lib.hid ih
    have HB := Lib.hid hbb
    have HB0 := Lib.hid B0
    have HB1 := Lib.hid B1
    have HB2 := Lib.hid b2
    have hsp := Lib.hid (fun i (hi : i < u.l.length) => Nat.le_trans (Nat.le_of_lt (sz_part h4 hi)) hz)
    have e1 : (u.k == 1) = false := beq_eq_false_iff_ne.2 h1
    have e4 : (u.k != 4) = false := by simp [h4]
    have H3 := Lib.hid hsz3
    have hul : u.l.length ≤ 100000 := by have h5 := szUL_len u.l; have h6 := szU_eq u; rw [if_pos h4] at h6; omega
    unfold uV
    clear ha hat hv ih b0 b1 b2 B0 B1 bb hb3 hbb hnq h1 h4 y0 y1 y2 y3 hz hsz3
    go_enter Try.func40, Try.ntmps40
    go_wp2
    clear x0 x1 x2 x3
    generalize World.alloc (World.alloc (World.alloc w _) _) _ = W at *
    go_loopg [6] u.l.length (fun k v6 wr => ∃ (i : Nat) (v : Value) (l : List (U × Value)), k = u.l.length - i ∧ i ≤ u.l.length ∧ v6 = .int .i64 i ∧ Hid (Below w.heap.size w wr) ∧ Hid (wr.heap[w.heap.size]? = W.heap[w.heap.size]?) ∧ Hid (wr.heap[w.heap.size + 1]? = W.heap[w.heap.size + 1]?) ∧
      Hid (wr.heap[w.heap.size + 1 + 1]? = some (.cells #[.int .i64 4, .int .i64 0, .string (bs u.s), v] 25 (0, 0))) ∧ Hid (Uw (fun k => (D k ∧ k < w.heap.size) ∨ w.heap.size + 3 ≤ k) (w.heap.size + 3) wr v l) ∧ Hid (l.map Prod.fst = (numUL L u.l).take i))
    case atStart => exact ⟨0, _, [], by omega, by omega, rfl, HB, Lib.hid rfl, Lib.hid rfl, HB2, Lib.hid Uw.none', Lib.hid (by simp)⟩
    case round =>
      obtain ⟨i, v, l, hgk, hi, rfl, HW, H0, H1, H2, HU, HM⟩ := hrel
      have hb2 := H2.out
      obtain ⟨x0, x1, x2, x3, _⟩ := cells4 (H0.out.trans HB0.out)
      obtain ⟨z0, z1, z2, z3, _⟩ := cells4 hb2
      have hfz := fun j => frz (j := j) hb2
      clear hb2
      by_cases hlt : i < u.l.length
      · have hlt2 : (i : Int) < u.l.length := by omega
        have i4 : (0 : Int) ≤ (i : Int) := by omega
        obtain ⟨_, _, hat⟩ := (HA.out.stay HW.out).at
        obtain ⟨g, o, q, c, hpe, hDg, d0, d1, d2, d3, hRx⟩ := hat i hlt
        subst hpe
        have hgl := hDg.2
        obtain ⟨pv, cv, rfl⟩ : ∃ pv cv, v = .slice pv l.length cv := by obtain ⟨p, c, h, _⟩ := HU.out.shape; exact ⟨p, c, h⟩
        have hws := HW.out.size
        have hz3 : w.heap.size + 1 + 1 < wr.heap.size := lt_of H2.out
        have kx := fun n => IH.out i hlt (.slice q (u.l.getD i dfU).l.length c) _ (fun k => D k ∧ k < w.heap.size) (wr.drewN n) (hRx.stay (dN _ _ n)) (hsp.out i hlt) (HV.out.stay (HW.out.trans (dN _ _ n)))
        have hown := Lib.hid (fun j => HU.out.lt j)
        have hbk : Hid (∀ w2, Kv (.slice pv l.length cv) wr w2 → w2.cell? ⟨w.heap.size, 3, none⟩ = some (.slice (some ⟨g, o, none⟩) u.l.length cap) ∧ w2.cell? ⟨g, o + i * 4, none⟩ = some (.int .i64 (u.l.getD i dfU).k) ∧ w2.cell? ⟨g, o + i * 4 + 1, none⟩ = some (.int .i64 (u.l.getD i dfU).n) ∧ w2.cell? ⟨g, o + i * 4 + 2, none⟩ = some (.string (bs (u.l.getD i dfU).s)) ∧
            w2.cell? ⟨g, o + i * 4 + 3, none⟩ = some (.slice q (u.l.getD i dfU).l.length c) ∧ w2.cell? ⟨w.heap.size + 1 + 1, 3, none⟩ = some (.slice pv l.length cv)) := Lib.hid fun w2 h => by
          have e1 := h w.heap.size (by omega) (fun e => by have := (hown.out _ e).1; omega)
          have e2 := h g (by omega) (fun e => by have := (hown.out _ e).1; omega)
          have e3 := h (w.heap.size + 1 + 1) (by omega) (fun e => by have := (hown.out _ e).1; omega)
          exact ⟨(World.cell?_of_block (a := ⟨w.heap.size, 3, none⟩) e1).trans x3, (World.cell?_of_block (a := ⟨g, o + i * 4, none⟩) e2).trans d0, (World.cell?_of_block (a := ⟨g, o + i * 4 + 1, none⟩) e2).trans d1, (World.cell?_of_block (a := ⟨g, o + i * 4 + 2, none⟩) e2).trans d2,
            (World.cell?_of_block (a := ⟨g, o + i * 4 + 3, none⟩) e2).trans d3, (World.cell?_of_block (a := ⟨w.heap.size + 1 + 1, 3, none⟩) e3).trans z3⟩
        have hbf : Hid (∀ w2, Kv (.slice pv l.length cv) wr w2 → w2.heap[w.heap.size + 1 + 1]? = some (.cells #[.int .i64 4, .int .i64 0, .string (bs u.s), .slice pv l.length cv] 25 (0, 0))) := Lib.hid fun w2 h => (h (w.heap.size + 1 + 1) (by omega) (fun e => by have := (hown.out _ e).1; omega)).trans H2.out
        have hll : l.length = i := by have := congrArg List.length HM.out; rw [List.length_map, List.length_take, numUL_len] at this; omega
        have Hll := Lib.hid hll
        have hpr : Hid (∀ k, ((D k ∧ k < w.heap.size) ∨ wr.heap.size ≤ k) → ((D k ∧ k < w.heap.size) ∨ w.heap.size + 3 ≤ k) ∧ (Value.slice pv l.length cv).ownBlock ≠ some k) := Lib.hid fun k hk => ⟨hk.imp id (fun h => by omega), fun e => by have h1 := hown.out k e; rcases hk with h | h <;> omega⟩
        have hfew : Hid (l.length ≤ 1000000) := Lib.hid (by omega)
        have hlow : Hid (w.heap.size + 3 ≤ wr.heap.size) := Lib.hid (by omega)
        have hix := Lib.hid (show (numUL L u.l)[i]? = some (numU L (u.l.getD i dfU)) by rw [numUL_map, List.getElem?_map]; simp [hlt])
        clear hRx hat hDg hfz hll
        generalize numU L (u.l.getD i dfU) = y at *
        generalize u.l.getD i dfU = x at *
        unfold uV at kx
        go_wp2_with fail
        obtain ⟨s0, s1, s2, s3, s4, s5⟩ := hbk.out wr (fun _ _ _ => rfl)
        go_region_law (first
          | (refine step_nx rfl (.tmp 30) (.tmp 38) rfl (D := fun k => (D k ∧ k < w.heap.size) ∨ w.heap.size + 3 ≤ k) (B := w.heap.size + 3) (wr := wr) (v0 := .slice pv l.length cv) (l := l) (by assumption) (by simp [Act.eval]) (by simp [Act.eval]) ?_; intro g9 c9 w9 HU9 HK9 HB9; have hf9 := frz (j := 3) (hbf.out w9 HK9.out); obtain ⟨_, _, _, _, _, hc9⟩ := hbk.out w9 HK9.out)
          | (go_simp; (refine (kx _).mono ?_); rintro en w5 ⟨a5, rfl, hr5, hb5⟩; have HKv : Hid (Kv (.slice pv l.length cv) wr w5) := Lib.hid (fun j hj _ => hb5.block j hj); obtain ⟨t0, t1, t2, t3, t4, t5⟩ := hbk.out w5 HKv.out; have t6 := alloc_cell (o := .cells #[.int .i64 y.k, .int .i64 y.n, .string (bs y.s), a5] 25) t5 (Nat.lt_of_lt_of_le hz3 hb5.size); have HNx : Hid (Nx (fun k => (D k ∧ k < w.heap.size) ∨ w.heap.size + 3 ≤ k) (w.heap.size + 3) wr w5 (.slice pv l.length cv) l y a5) := Lib.hid ⟨HU.out.stay ((dN _ _ _).trans hb5), hr5.imp (fun k hk hd => hpr.out k hd), hfew.out, hlow.out, (dN _ _ _).trans hb5⟩; clear hr5 hb5))
        all_goals
          clear kx s0 s1 s2 s3 s4 s5 t0 t1 t2 t3 t4 t5 t6 d0 d1 d2 d3
          go_wp2
          go_roundg (u.l.length - (i + 1))
          case measure => omega
          case rel =>
            refine ⟨i + 1, .slice (some ⟨g9, 0, none⟩) (l.length + 1) c9, l ++ [(y, a5)], rfl, by omega, by go_num, Lib.hid ?_, Lib.hid ?_, Lib.hid ?_, Lib.hid ?_, Lib.hid ?_, Lib.hid ?_⟩
            rotate_left 3
            · rw [heap_set_at (hbf.out w9 HK9.out)]; rfl
            · have h1 := HU9.out.keepB (w' := w9.setCell ⟨w.heap.size + 1 + 1, 3, none⟩ (.slice (some ⟨g9, 0, none⟩) (l.length + 1) c9)) fun k hk => Below.heap_setCell _ _ _ _ (by show k ≠ w.heap.size + 1 + 1; rcases hk with h | h | h <;> omega)
              exact h1
            · rw [List.map_append, HM.out, List.take_add_one, hix.out]; rfl
            · exact HW.out.trans ((HB9.out.mono (by omega)).setCell (by show w.heap.size ≤ w.heap.size + 1 + 1; omega) _)
            · exact (Below.heap_setCell _ _ _ _ (by show w.heap.size ≠ w.heap.size + 1 + 1; omega)).trans ((HB9.out.block _ (by omega)).trans H0.out)
            · exact (Below.heap_setCell _ _ _ _ (by show w.heap.size + 1 ≠ w.heap.size + 1 + 1; omega)).trans ((HB9.out.block _ (by omega)).trans H1.out)
      · have hlt2 : ¬ ((i : Int) < u.l.length) := by omega
        have hnl := numUL_len L u.l
        have hml : l.map Prod.fst = numUL L u.l := by rw [HM.out, List.take_of_length_le (by omega)]
        obtain ⟨pv, cv, rfl⟩ : ∃ pv cv, v = .slice pv l.length cv := by obtain ⟨p, c, h, _⟩ := HU.out.shape; exact ⟨p, c, h⟩
        have hb1 := H1.out.trans HB1.out
        obtain ⟨y0, y1, y2, y3, _⟩ := cells4 hb1
        have hfy := fun j => frz (j := j) hb1
        have Hb1 := Lib.hid hb1
        have hr := HU.out.ruD (k := 4) (n := 0) (s := u.s) fit0
        rw [hml] at hr
        have HR := Lib.hid hr
        clear hb1 hr hnl hml
        go_wp2
        refine bodyPost_ret (ret_c4 rfl _ _ rfl (set4 _ _ _ _ Hb1.out)) rfl ?_
        exact ⟨.slice pv l.length cv, rfl, HR.out.keep (fun k _ hd => set4_old _ _ _ _ _ _ (by rcases hd with (h | h) | h <;> omega)) (fun k _ hd => hd.elim (fun h => h.elim (fun h => .inl h.1) (fun h => .inr (by omega))) (fun h => .inr (by omega))), HW.out.trans ((set4_below _ _ _ _ _ _).mono (by omega))⟩
  · rw [if_neg h4] at hnq
    rw [hnq]
    obtain ⟨_, g1, _, gb⟩ := box2 w (.cells #[.int .i64 u.k, .int .i64 u.n, .string (bs u.s), .slice p u.l.length cap] 25) (.cells #[.int .i64 u.k, .int .i64 u.n, .string (bs u.s), .slice p u.l.length cap] 25)
    have HG1 := Lib.hid g1
    have HGb := Lib.hid gb
    have hfr := fun j => frz (j := j) b1
    have e1 : (u.k == 1) = false := beq_eq_false_iff_ne.2 h1
    have e4 : (u.k != 4) = true := bne_iff_ne.2 h4
    have hA := Lib.hid ((ha.stay gb).imp (D' := fun k => D k ∨ w.heap.size ≤ k) fun _ _ h => .inl h)
    unfold uV
    clear ha b0 b1 bb ih hv g1 gb hnq h1 h4
    go_enter Try.func40, Try.ntmps40
    go_wp2
    refine bodyPost_ret (ret_c4 rfl _ _ rfl HG1.out) rfl ?_
    exact ⟨.slice p u.l.length cap, rfl, hA.out, HGb.out⟩
theorem num_c (L : List Int) (hL : L.length ≤ 100000) (u : U) : NmOk L u := all_parts (P := NmOk L) (fun u ih => nm_step L hL u ih) u
end Go.Proofs.Ytjccohcigopdfaa.tm
end
section
/- The program's says: a map from numbers to numbers that grows. -/
namespace Go.Proofs.Ytjccohcigopdfaa.tm
open Go.RowKit
open Go.Shelf
open Go.Proofs.Ytjccohcigopdfaa.wr
open Go.Proofs.Ytjccohcigopdfaa.rd
open Go.Proofs.Ytjccohcigopdfaa.op (bs strC)
open Go.Proofs.Ytjccohcigopdfaa.lx (cell_at)
open Go.Proofs.Ytjccohcigopdfaa.nm (Fit)
set_option maxRecDepth 20000

/-- what a number becomes -/
def lk : Ps → Int → Option Int
  | [], _ => none
  | (a, b) :: ps, n => if a = n then some b else lk ps n
theorem lk_app (ps : Ps) (a b n : Int) : lk (ps ++ [(a, b)]) n = match lk ps n with | some x => some x | none => if a = n then some b else none := by
  induction ps with
  | nil => rfl
  | cons p ps ih =>
    obtain ⟨x, y⟩ := p
    rw [List.cons_append, lk, lk, ih]
    split <;> rfl
theorem lk_mem : ∀ {ps : Ps} {n m : Int}, lk ps n = some m → (n, m) ∈ ps
  | [], _, _, h => by cases h
  | (a, b) :: ps, n, m, h => by
    rw [lk] at h
    split at h
    · rename_i e; cases h; subst e; simp
    · exact List.mem_cons_of_mem _ (lk_mem h)
theorem lk_none : ∀ {ps : Ps} {n : Int}, lk ps n = none ↔ n ∉ ps.map Prod.fst
  | [], _ => by simp [lk]
  | (a, b) :: ps, n => by
    rw [lk]
    split
    · rename_i e; subst e; simp
    · rename_i e
      rw [lk_none]
      rw [List.map_cons, List.mem_cons]
      exact ⟨fun h1 h2 => h2.elim (fun h3 => e h3.symm) h1, fun h1 h2 => h1 (.inr h2)⟩
theorem lk_of {ps : Ps} {n m : Int} (h : (ps.map Prod.fst).Nodup) (hm : (n, m) ∈ ps) : lk ps n = some m := by
  induction ps with
  | nil => simp at hm
  | cons p ps ih =>
    obtain ⟨a, b⟩ := p
    rw [lk]
    rw [List.map_cons, List.nodup_cons] at h
    rcases List.mem_cons.1 hm with e | e
    · cases e; rw [if_pos rfl]
    · rw [if_neg (fun e2 => h.1 (by rw [e2]; exact List.mem_map.2 ⟨_, e, rfl⟩)), ih h.2 e]
theorem und_map : Try.prog.underlying 53 = some (.map 3 3) := Try.underlying53
theorem zeroI (w : World) : (zeroValue 3).run Try.prog w = .ok (.int .i64 0) w := by kernel_rfl
/-- block b is a map that reads as the pairs -/
def Mw (w : World) (b n : Nat) (ps : Ps) : Prop := ∃ D : DataW Unit, w.ownsMap Try.prog 3 (plainElem Try.prog 3) b n D ∧ ∀ x, Maps.has D (.int .i64 x) = (lk ps x).isSome ∧ ∀ y, lk ps x = some y → D.atKey (.int .i64 x) (.lit (.int .i64 0)) = .lit (.int .i64 y)
theorem Mw.keep {w w' : World} {b n : Nat} {l : Ps} (h : Mw w b n l) (hb : w'.heap[b]? = w.heap[b]?) : Mw w' b n l := by
  obtain ⟨D, ⟨es, clock, h1, r⟩, h2⟩ := h
  exact ⟨D, ⟨es, clock, by rw [hb]; exact h1, r⟩, h2⟩
theorem Mw.mono {w : World} {b n m : Nat} {l : Ps} (h : Mw w b n l) (hm : n ≤ m) : Mw w b m l := by
  obtain ⟨D, h1, h2⟩ := h
  exact ⟨D, h1.mono hm, h2⟩
theorem Mw.lt {w : World} {b n : Nat} {l : Ps} (h : Mw w b n l) : b < w.heap.size := by obtain ⟨D, h1, h2⟩ := h; exact h1.lt
theorem Mw.new (w : World) : Mw (w.alloc (.map #[] 0)) w.heap.size 0 [] := ⟨.map [], World.ownsMap_made _ _ _ _, fun _ => ⟨rfl, fun _ h => by cases h⟩⟩
theorem mw_put {D : DataW Unit} {ps : Ps} (hD : Maps.IsMap D) (h : ∀ x, Maps.has D (.int .i64 x) = (lk ps x).isSome ∧ ∀ y, lk ps x = some y → D.atKey (.int .i64 x) (.lit (.int .i64 0)) = .lit (.int .i64 y)) {a b : Int} (ha : lk ps a = none) (x : Int) :
    Maps.has (D.put (.int .i64 a) (.lit (.int .i64 b))) (.int .i64 x) = (lk (ps ++ [(a, b)]) x).isSome ∧ ∀ y, lk (ps ++ [(a, b)]) x = some y → (D.put (.int .i64 a) (.lit (.int .i64 b))).atKey (.int .i64 x) (.lit (.int .i64 0)) = .lit (.int .i64 y) := by
  rw [lk_app]
  by_cases hx : x = a
  · subst hx
    rw [Maps.has_put_same (k := .int .i64 x) hD trivial, ha]
    refine ⟨by simp, fun y hy => ?_⟩
    simp at hy
    subst hy
    exact Maps.atKey_put_same (k := .int .i64 x) hD trivial _ _
  · rw [Maps.has_put_other (fun e => hx (by injection e)), (h x).1]
    refine ⟨?_, fun y hy => ?_⟩
    · cases lk ps x with
      | some z => rfl
      | none => dsimp only; rw [if_neg (fun e => hx e.symm)]
    · rw [Maps.atKey_put_other (fun e => hx (by injection e))]
      apply (h x).2
      cases h2 : lk ps x with
      | some z => rw [h2] at hy; exact hy
      | none => rw [h2] at hy; dsimp only at hy; rw [if_neg (fun e => hx e.symm)] at hy; cases hy
/-- what says does -/
def SayQ (m n : Nat) (ps : Ps) (a b : Int) (w : World) (e : Ending) (w' : World) : Prop :=
  e = .returned (.bool (match lk ps a with | some x => decide (x = b) | none => true)) ∧ Mw w' m (n + 1) (match lk ps a with | some _ => ps | none => ps ++ [(a, b)]) ∧ Fx (fun k => k = m) w w' ∧ ((lk ps a).isSome = true → w = w')
set_option maxHeartbeats 4000000 in
theorem says_c {m n : Nat} {ps : Ps} {a b : Int} {w : World} (h : Mw w m n ps) (hn : n ≤ 100000) (ha : Fit a) (hb : Fit b) :
    Calls Try.prog 49 #[.map (some m), .int .i64 a, .int .i64 b] w (SayQ m n ps a b w) := by
  have hkey := key_fit ha
  have hwb := wf_fit hb
  have HM := Lib.hid h
  obtain ⟨D, hD, hlk⟩ := h
  have hDm := Lib.hid (World.ownsMap.isMap hD)
  have HD := Lib.hid hD
  have Hlk := Lib.hid hlk
  obtain ⟨k1, k2⟩ := hlk a
  unfold SayQ
  have hml : Hid (n < maxLen) := Lib.hid (by unfold maxLen; omega)
  cases hq : lk ps a with
  | some x =>
    rw [hq] at k1 k2
    have hx := k2 x rfl
    have hh : Maps.has D (.int .i64 a) = true := k1
    dsimp only
    clear hD hlk k1 k2
    by_cases hxb : x = b
    · subst hxb
      go_enter Try.func49, Try.ntmps49
      go_wp2_with (at_lookup; refine wpList_lookup_own_ok_int _ rfl _ _ 53 rfl 3 3 .i64 kint und_map Try.underlying3 (zeroI _) m n D rfl HD.out _ _ rfl hkey ?_; intro c9 hat9 hwc9; rw [hh]; obtain rfl : c9 = x := (by rw [hx] at hat9; injection hat9 with h; injection h with _ h; exact h.symm); clear hat9 hwc9)
      go_ret
      exact ⟨by simp, HM.out.mono (by omega), Fx.refl _ _, fun _ => rfl⟩
    · have e1 : (x == b) = false := beq_eq_false_iff_ne.2 hxb
      go_enter Try.func49, Try.ntmps49
      go_wp2_with (at_lookup; refine wpList_lookup_own_ok_int _ rfl _ _ 53 rfl 3 3 .i64 kint und_map Try.underlying3 (zeroI _) m n D rfl HD.out _ _ rfl hkey ?_; intro c9 hat9 hwc9; rw [hh]; obtain rfl : c9 = x := (by rw [hx] at hat9; injection hat9 with h; injection h with _ h; exact h.symm); clear hat9 hwc9)
      go_ret
      exact ⟨by simp [hxb], HM.out.mono (by omega), Fx.refl _ _, fun _ => rfl⟩
  | none =>
    rw [hq] at k1
    have hh : Maps.has D (.int .i64 a) = false := k1
    dsimp only
    have Hq := Lib.hid hq
    clear hD hlk k1 k2 hq
    go_enter Try.func49, Try.ntmps49
    go_wp2_with (first
      | (at_lookup; refine wpList_lookup_own_ok_int _ rfl _ _ 53 rfl 3 3 .i64 kint und_map Try.underlying3 (zeroI _) m n D rfl HD.out _ _ rfl hkey ?_; intro c9 hat9 hwc9; rw [hh]; clear hat9 hwc9)
      | (at_mapUpdate; refine wpList_mapUpdate_own _ rfl _ _ _ 53 rfl 3 3 kint und_map (plainElem (H := Unit) Try.prog 3) m n D rfl HD.out hml.out _ _ _ rfl rfl hkey _ [] (plainElem_int Try.underlying3 hwb) ?_; intro w1 hown1 hgrow1; have HO1 := Lib.hid hown1; have HG1 := Lib.hid hgrow1; clear hown1 hgrow1))
    go_ret
    exact ⟨by simp, ⟨_, HO1.out, mw_put hDm.out Hlk.out Hq.out⟩, ⟨HG1.out.os, HG1.out.tape, HG1.out.output, HG1.out.size, fun k hk hn => HG1.out.block k hk (fun e => hn (by injection e))⟩, fun h => (by cases h)⟩
end Go.Proofs.Ytjccohcigopdfaa.tm
end
section
/- The program's Variant: slices.EqualFunc over fits; fits. -/
namespace Go.Proofs.Ytjccohcigopdfaa.tm
open Go.RowKit
open Go.Shelf
open Go.Proofs.Ytjccohcigopdfaa.wr
open Go.Proofs.Ytjccohcigopdfaa.rd
open Go.Proofs.Ytjccohcigopdfaa.op (bs strC)
open Go.Proofs.Ytjccohcigopdfaa.lx (cell_at)
open Go.Proofs.Ytjccohcigopdfaa.nm (Fit)
set_option maxRecDepth 20000

structure Rn (r m1 m2 n : Nat) (ps : Ps) (w : World) : Prop where
  box : w.heap[r]? = some (.cells #[.map (some m1), .map (some m2), .int .i64 (n : Nat)] 55 (0, 0))
  maps : ∃ k, k + n ≤ 4000 ∧ Mw w m1 k ps ∧ Mw w m2 k (ps.map Prod.swap)
  ok : okP ps
structure Ap (b r m1 m2 : Nat) : Prop where
  b0 : b ≤ r
  b1 : b ≤ m1
  b2 : b ≤ m2
  n1 : r ≠ m1
  n2 : r ≠ m2
  n3 : m1 ≠ m2
abbrev S3 (r m1 m2 : Nat) : Nat → Prop := fun k => k = r ∨ k = m1 ∨ k = m2
section
variable {b r m1 m2 n : Nat} {ps : Ps} {w w' : World}
theorem Rn.stay (h : Rn r m1 m2 n ps w) (hb : Below w.heap.size w w') : Rn r m1 m2 n ps w' := by
  obtain ⟨k, h1, h2, h3⟩ := h.maps
  exact ⟨by rw [hb.block r (lt_of h.box)]; exact h.box, ⟨k, h1, h2.keep (hb.block m1 h2.lt), h3.keep (hb.block m2 h3.lt)⟩, h.ok⟩
theorem Rn.down (h : Rn r m1 m2 n ps w) (hA : Ap b r m1 m2) (m : Nat) (hm : m ≤ n) : Rn r m1 m2 m ps (w.setCell ⟨r, 2, none⟩ (.int .i64 (m : Nat))) := by
  obtain ⟨k, h1, h2, h3⟩ := h.maps
  have e1 := hA.n1
  have e2 := hA.n2
  exact ⟨by rw [heap_set_at h.box]; rfl, ⟨k, by omega, h2.keep (Below.heap_setCell _ _ _ _ (by show m1 ≠ r; omega)), h3.keep (Below.heap_setCell _ _ _ _ (by show m2 ≠ r; omega))⟩, h.ok⟩
theorem Rn.cell (h : Rn r m1 m2 n ps w) : w.cell? ⟨r, 0, none⟩ = some (.map (some m1)) ∧ w.cell? ⟨r, 1, none⟩ = some (.map (some m2)) ∧ w.cell? ⟨r, 2, none⟩ = some (.int .i64 (n : Nat)) := by
  refine ⟨?_, ?_, ?_⟩ <;> (rw [cell_at h.box]; rfl)
theorem Rn.free (h : Rn r m1 m2 n ps w) (j : Nat) : w.frozen? ⟨r, j, none⟩ = false := frz h.box
end
def FtQ (r m1 m2 n z : Nat) (o : Option Ps) (w : World) (e : Ending) (w' : World) : Prop :=
  e = .returned (.bool o.isSome) ∧ (∀ qs, o = some qs → ∃ m, Rn r m1 m2 m qs w' ∧ n ≤ m + z ∧ m ≤ n) ∧ Fx (S3 r m1 m2) w w'
abbrev FtOk (u : U) : Prop := ∀ (v : U) (a a' : Value) (b r m1 m2 n : Nat) (ps : Ps) (w : World), clU u → n ≤ 4000 → szU u ≤ n → Ap b r m1 m2 → Rn r m1 m2 n ps w → Ru b w u a → Ru b w v a' →
  Calls Try.prog 35 #[.pointer (some ⟨r, 0, none⟩), uV u a, uV v a'] w (FtQ r m1 m2 n (szU u) (fitU u v ps) w)
abbrev EqOk (l : List U) : Prop := ∀ (m : List U) (p q : Option Addr) (cp cq b r m1 m2 n : Nat) (ps : Ps) (w : World), clL l → n ≤ 4000 → szUL l ≤ n → Ap b r m1 m2 → Rn r m1 m2 n ps w → Pu b w l p cp → Pu b w m q cq →
  Calls Try.prog 50 #[.slice p l.length cp, .slice q m.length cq, .func (.func 35) #[.pointer (some ⟨r, 0, none⟩)] #[]] w (FtQ r m1 m2 n (szUL l) (if l.length = m.length then fitL l m ps else none) w)
theorem fitL_at {l m : List U} {i : Nat} (hi : i < l.length) (hj : i < m.length) (ps : Ps) : fitL (l.drop i) (m.drop i) ps = match fitU (l.getD i dfU) (m.getD i dfU) ps with | none => none | some qs => fitL (l.drop (i + 1)) (m.drop (i + 1)) qs := by
  rw [drop_cons hi, drop_cons hj, fitL]
  cases fitU (l.getD i dfU) (m.getD i dfU) ps <;> rfl
theorem fitL_end {l m : List U} {i : Nat} (hi : l.length ≤ i) (ps : Ps) : fitL (l.drop i) (m.drop i) ps = some ps := by rw [List.drop_eq_nil_of_le hi, fitL]; simp
set_option maxHeartbeats 4000000 in
theorem eq_step (l : List U) (ih : ∀ i, i < l.length → FtOk (l.getD i dfU)) : EqOk l := by
  intro m p q cp cq b r m1 m2 n ps w hcl0 hn hz hA hR hP hQ
  have hl := hP.max
  have hl' := hP.le
  have hm := hQ.max
  have hm' := hQ.le
  unfold maxLen at hl hm
  have hrl := lt_of hR.box
  by_cases hlen : l.length = m.length
  · rw [if_pos hlen]
    have e4 : ((l.length : Int) != (m.length : Int)) = false := by rw [hlen]; simp
    have e4' : ((l.length : Int) == (m.length : Int)) = true := by rw [hlen]; simp
    have HP := Lib.hid hP
    have HQ := Lib.hid hQ
    have IH := Lib.hid ih
    have HCl := Lib.hid hcl0
    have HR := Lib.hid hR
    have HA := Lib.hid hA
    have Hlen := Lib.hid hlen
    have HZ := Lib.hid hz
    obtain ⟨X, hX⟩ : ∃ X, fitL l m ps = X := ⟨_, rfl⟩
    have HX := Lib.hid hX
    rw [hX]
    have hbr := hA.b0
    clear hP hQ ih hR hX hlen hz hcl0 hA
    go_enter Try.func50, Try.ntmps50
    go_wp2
    clear e4 e4'
    go_loopg [17] l.length (fun k v17 wr => ∃ (i n' : Nat) (qs : Ps), k = l.length - i ∧ i ≤ l.length ∧ v17 = .int .i64 i ∧ Hid (Fx (S3 r m1 m2) w wr) ∧ Hid (Rn r m1 m2 n' qs wr) ∧ Hid (n ≤ n' + (szUL l - szUL (l.drop i)) ∧ n' ≤ n ∧ szUL (l.drop i) ≤ n') ∧ Hid (fitL (l.drop i) (m.drop i) qs = X))
    case atStart => exact ⟨0, n, ps, by omega, by omega, rfl, Lib.hid (Fx.refl _ _), HR, Lib.hid ⟨by omega, by omega, by have := HZ.out; simpa using this⟩, HX⟩
    case round =>
      obtain ⟨i, n', qs, hgk, hi, rfl, HF, HRr, HN, HT⟩ := hrel
      by_cases hlt : i < l.length
      · have hlt2 : (i : Int) < l.length := by omega
        have hlt3 : i < m.length := by have := Hlen.out; omega
        have hlt4 : (i : Int) < m.length := by omega
        have i4 : (0 : Int) ≤ (i : Int) := by omega
        have hww : Below b w wr := HF.out.below (by omega) (fun k hk => by have h1 := HA.out.b1; have h2 := HA.out.b2; have h3 := HA.out.b0; rcases hk with h | h | h <;> omega)
        obtain ⟨g, o, p', c', hpe, hgl, d0, d1, d2, d3, hRx⟩ := at_pu (HP.out.stay hww) hlt
        obtain ⟨g', o', q', d', hqe, hgl', f0, f1, f2, f3, hRy⟩ := at_pu (HQ.out.stay hww) hlt3
        subst hpe hqe
        have hws := HF.out.size
        obtain ⟨z0, z1, zz, zb⟩ := box2 wr (.cells #[.int .i64 (l.getD i dfU).k, .int .i64 (l.getD i dfU).n, .string (bs (l.getD i dfU).s), .slice p' (l.getD i dfU).l.length c'] 25) (.cells #[.int .i64 (m.getD i dfU).k, .int .i64 (m.getD i dfU).n, .string (bs (m.getD i dfU).s), .slice q' (m.getD i dfU).l.length d'] 25)
        have hN := HN.out
        rw [szUL_at hlt] at hN
        have hdr := szUL_drop l i
        rw [szUL_at hlt] at hdr
        have kx := IH.out i hlt (m.getD i dfU) _ _ b r m1 m2 n' qs _ (clL_at HCl.out i hlt) (by omega) (by omega) HA.out (HRr.out.stay zb) (hRx.stay (zb.mono (by omega))) (hRy.stay (zb.mono (by omega)))
        have hT := HT.out
        rw [fitL_at hlt hlt3] at hT
        have HT2 := Lib.hid hT
        have HF2 := Lib.hid (HF.out.trans (Fx.of zb))
        have hf0' := alloc_cell (o := .cells #[.int .i64 (l.getD i dfU).k, .int .i64 (l.getD i dfU).n, .string (bs (l.getD i dfU).s), .slice p' (l.getD i dfU).l.length c'] 25) f0 (by omega)
        have hf1' := alloc_cell (o := .cells #[.int .i64 (l.getD i dfU).k, .int .i64 (l.getD i dfU).n, .string (bs (l.getD i dfU).s), .slice p' (l.getD i dfU).l.length c'] 25) f1 (by omega)
        have hf2' := alloc_cell (o := .cells #[.int .i64 (l.getD i dfU).k, .int .i64 (l.getD i dfU).n, .string (bs (l.getD i dfU).s), .slice p' (l.getD i dfU).l.length c'] 25) f2 (by omega)
        have hf3' := alloc_cell (o := .cells #[.int .i64 (l.getD i dfU).k, .int .i64 (l.getD i dfU).n, .string (bs (l.getD i dfU).s), .slice p' (l.getD i dfU).l.length c'] 25) f3 (by omega)
        obtain ⟨w0, w1, w2, w3, _⟩ := cells4 z0
        obtain ⟨v0, v1, v2, v3, _⟩ := cells4 z1
        have HNN : Hid (∀ n2, n' ≤ n2 + szU (l.getD i dfU) → n2 ≤ n' → n ≤ n2 + (szUL l - szUL (l.drop (i + 1))) ∧ n2 ≤ n ∧ szUL (l.drop (i + 1)) ≤ n2 ∧ n ≤ n2 + szUL l) := Lib.hid fun n2 h1 h2 => by omega
        clear hRx hRy HP HQ IH hT HT hww hN hdr HN z0 z1 zb
        generalize l.getD i dfU = x at *
        generalize m.getD i dfU = y at *
        generalize szU x = sx at *
        generalize fitU x y qs = o1 at *
        unfold uV at kx
        cases o1 with
        | none =>
          have hX2 : X = none := HT2.out.symm
          subst hX2
          go_wp2_with fail
          refine kx.mono ?_
          rintro en w4 ⟨he, _, hF2⟩
          have he' : en = .returned (.bool false) := he
          subst he'
          have HF3 := Lib.hid (HF2.out.trans hF2)
          clear kx hF2 w0 w1 w2 w3 v0 v1 v2 v3 hf0' hf1' hf2' hf3' HNN he
          go_wp2
          go_ret
          exact ⟨rfl, fun qs h => (by cases h), HF3.out⟩
        | some rs =>
          have HT3 : Hid (fitL (l.drop (i + 1)) (m.drop (i + 1)) rs = X) := Lib.hid HT2.out
          go_wp2_with fail
          refine kx.mono ?_
          rintro en w4 ⟨he, hq, hF2⟩
          have he' : en = .returned (.bool true) := he
          subst he'
          obtain ⟨n2, hR2, hn1, hn2⟩ := hq rs rfl
          have HF3 := Lib.hid (HF2.out.trans hF2)
          have HR3 := Lib.hid hR2
          obtain ⟨k1, k2, k3, k4⟩ := HNN.out n2 hn1 hn2
          have HM := Lib.hid (show n ≤ n2 + (szUL l - szUL (l.drop (i + 1))) ∧ n2 ≤ n ∧ szUL (l.drop (i + 1)) ≤ n2 from ⟨k1, k2, k3⟩)
          clear kx hR2 hF2 w0 w1 w2 w3 v0 v1 v2 v3 hf0' hf1' hf2' hf3' k1 k2 k3 k4 HNN he hq
          go_wp2
          go_roundg (l.length - (i + 1))
          case measure => omega
          case rel => exact ⟨i + 1, n2, rs, rfl, by omega, by go_num, HF3, HR3, HM, HT3⟩
      · have hlt2 : ¬ ((i : Int) < l.length) := by omega
        have hX2 : X = some qs := by rw [← HT.out, fitL_end (by omega)]
        subst hX2
        have hN := HN.out
        have HN2 := Lib.hid (show n ≤ n' + szUL l ∧ n' ≤ n by omega)
        clear hN
        go_wp2
        go_ret
        exact ⟨rfl, fun q hq => by cases hq; exact ⟨n', HRr.out, HN2.out.1, HN2.out.2⟩, HF.out⟩
  · rw [if_neg hlen]
    have e4 : ((l.length : Int) != (m.length : Int)) = true := bne_iff_ne.2 (by omega)
    have e4' : ((l.length : Int) == (m.length : Int)) = false := beq_eq_false_iff_ne.2 (by omega)
    clear hP hQ ih hR hz hcl0 hA
    go_enter Try.func50, Try.ntmps50
    go_wp2
    go_ret
    exact ⟨rfl, fun qs h => (by cases h), Fx.refl _ _⟩
end Go.Proofs.Ytjccohcigopdfaa.tm
end
