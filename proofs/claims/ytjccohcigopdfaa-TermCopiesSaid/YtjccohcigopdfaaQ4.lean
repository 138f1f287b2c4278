/- The reference's reader in memory; what a call of it keeps.; The reference's reader: next, fail, wrong, mark, must.; The reference's reader: atom, cmp, two, one.; The reference's reader: integer.; The reference's reader: variable. -/
import Derived.Test.YtjccohcigopdfaaQ3
import Derived.Maps.AppendAt
set_option linter.unusedVariables false
set_option linter.unusedSimpArgs false
section
/- The reference's reader in memory; what a call of it keeps. -/
namespace Go.Proofs.Ytjccohcigopdfaa.rr
open Go.RowKit
open Go.Proofs.Ytjccohcigopdfaa.rd
open Go.Proofs.Ytjccohcigopdfaa.op (bs strC Both Tb)
open Go.Proofs.Ytjccohcigopdfaa.lx (Tok Tk tcell tcells cell_at)
set_option maxRecDepth 20000

/-- the marks that a text has -/
def marks : List (List UInt8) := [[40], [41], [91], [93], [123], [125], [44], [124]]
/-- the reader: its text S, where it stands, the names so far; at the place p, what is wrong (0: nothing) -/
structure Rr (r b : Nat) (S : List UInt8) (tk : Value) (L : List Tok) (i : Nat) (nv : Value) (nm : List (List UInt8)) (p k : Nat) (w : World) : Prop where
  blk : w.heap[r]? = some (.cells #[.string (bs S), tk, .int .i64 (i : Nat), nv, .int .i64 (p : Nat), .int .i64 (k : Nat)] 83 (0, 0))
  toks : Tk 0 w tk L
  names : w.ownsRow b 9 1 nv nm.length (strC (nm.map bs))
  le : i ≤ L.length
  nml : nm.length ≤ i
  tb : Both w
  lo : 0 ≤ r
  rb : r < b
  bz : b ≤ w.heap.size
  good : rd.Good L
  mks : ∀ t ∈ L, t.kind = 5 → t.text ∈ marks
  en : S.length ≤ 8192
section
variable {r b i p k : Nat} {S : List UInt8} {tk nv nv' nv'' : Value} {L : List Tok} {nm : List (List UInt8)} {w w' w'' : World}
theorem keep (h : Fr r b w w') (hR : Rr r b S tk L i nv nm p k w) {t : TypeId} (h1 : t ≠ 83) (h2 : t ≠ 9) : Kt t w w' := fun k cs fr hk => by
  rw [h.block k (lt_of hk) (fun e => by subst e; rw [hR.blk] at hk; cases hk; exact h1 rfl) (.inr fun cs' fr' e => by rw [hk] at e; cases e; exact h2 rfl)]
  exact hk
theorem below (h : Fr r b w w') (hR : Rr r b S tk L i nv nm p k w) : Below r w w' :=
  ⟨h.os, h.tape, h.output, h.size, fun k hk => h.block k (by have := lt_of hR.blk; omega) (by omega) (.inl (by have := hR.rb; omega))⟩
theorem Rr.lt (h : Rr r b S tk L i nv nm p k w) : r < w.heap.size := lt_of h.blk
theorem both_below {w w' : World} (_ : Both w) (_ : ∀ k, k < 0 → w'.heap[k]? = w.heap[k]?) : Both w' := trivial
theorem Rr.kept (h : Rr r b S tk L i nv nm p k w) (hb : w'.heap[r]? = w.heap[r]?) (hk : Kt 73 w w') (hs : Kt 9 w w') (hl : Below r w w') : Rr r b S tk L i nv nm p k w' :=
  ⟨hb.trans h.blk, own_kept h.toks hk, own_kept h.names hs, h.le, h.nml, both_below h.tb fun k hk => hl.block k (by have := h.lo; omega), h.lo, h.rb, Nat.le_trans h.bz hl.size, h.good, h.mks, h.en⟩
theorem Rr.stay (h : Rr r b S tk L i nv nm p k w) (hb : Below w.heap.size w w') : Rr r b S tk L i nv nm p k w' :=
  h.kept (hb.block r h.lt) (Kt.below hb) (Kt.below hb) (hb.mono (by have := h.lt; omega))
theorem Rr.alloc (h : Rr r b S tk L i nv nm p k w) (o : Obj) : Rr r b S tk L i nv nm p k (w.alloc o) := h.stay ((Below.refl _ _).alloc (Nat.le_refl _) o)
theorem Rr.drew (h : Rr r b S tk L i nv nm p k w) (n : Nat) : Rr r b S tk L i nv nm p k (w.drewN n) := h.stay ⟨rfl, rfl, rfl, Nat.le_refl _, fun _ _ => rfl⟩
theorem Rr.cell (h : Rr r b S tk L i nv nm p k w) (j : Nat) : w.cell? ⟨r, j, none⟩ = (#[.string (bs S), tk, .int .i64 (i : Nat), nv, .int .i64 (p : Nat), .int .i64 (k : Nat)] : Array Value)[j]? := cell_at h.blk j
theorem Rr.free (h : Rr r b S tk L i nv nm p k w) (j : Nat) : w.frozen? ⟨r, j, none⟩ = false := by simp [World.frozen?, h.blk]
/-- a store into a block of the call's own -/
theorem Rr.set (h : Rr r b S tk L i nv nm p k w) {q : Addr} {v : Value} {cs : Array Value} {u : TypeId} {fr : Nat × Nat} (hp : w.heap[q.block]? = some (.cells cs u fr)) (hr : r < q.block) (h1 : 73 ≠ u) (h2 : 9 ≠ u) :
    Rr r b S tk L i nv nm p k (w.setCell q v) :=
  h.kept (Below.heap_setCell _ _ _ _ (by omega)) (kt_set hp h1) (kt_set hp h2) ((Below.refl r w).setCell (by omega) _)
theorem Rr.set4 (h : Rr r b S tk L i nv nm p k w) {g : Nat} {a0 a1 a2 a3 : Value} {u : TypeId} (hp : w.heap[g]? = some (.cells #[a0, a1, a2, a3] u (0, 0))) (hr : r < g) (h1 : 73 ≠ u) (h2 : 9 ≠ u) (a c d e : Value) :
    Rr r b S tk L i nv nm p k ((((w.setCell ⟨g, 0, none⟩ a).setCell ⟨g, 1, none⟩ c).setCell ⟨g, 2, none⟩ d).setCell ⟨g, 3, none⟩ e) := by
  have p1 := heap_set_at (j := 0) (v := a) hp
  have p2 := heap_set_at (j := 1) (v := c) p1
  have p3 := heap_set_at (j := 2) (v := d) p2
  exact (((h.set (q := ⟨g, 0, none⟩) hp hr h1 h2).set (q := ⟨g, 1, none⟩) p1 hr h1 h2).set (q := ⟨g, 2, none⟩) p2 hr h1 h2).set (q := ⟨g, 3, none⟩) p3 hr h1 h2
/-- one token on -/
theorem Rr.step (h : Rr r b S tk L i nv nm p k w) (hi : i < L.length) : Rr r b S tk L (i + 1) nv nm p k (w.setCell ⟨r, 2, none⟩ (.int .i64 ((i : Int) + 1))) :=
  ⟨by rw [heap_set_at h.blk]; rfl, own_kept h.toks (kt_set h.blk (by decide)), own_kept h.names (kt_set h.blk (by decide)), hi, by have := h.nml; omega,
    both_below h.tb fun j hj => Below.heap_setCell _ _ _ _ (by have := h.lo; show j ≠ r; omega), h.lo, h.rb, by simpa [World.setCell] using h.bz, h.good, h.mks, h.en⟩
/-- what is wrong -/
theorem Rr.bad (h : Rr r b S tk L i nv nm p k w) (p' k' : Nat) : Rr r b S tk L i nv nm p' k' ((w.setCell ⟨r, 4, none⟩ (.int .i64 (p' : Nat))).setCell ⟨r, 5, none⟩ (.int .i64 (k' : Nat))) := by
  have h1 := heap_set_at (j := 4) (v := .int .i64 (p' : Nat)) h.blk
  have e : ∀ j, j ≠ r → ((w.setCell ⟨r, 4, none⟩ (.int .i64 (p' : Nat))).setCell ⟨r, 5, none⟩ (.int .i64 (k' : Nat))).heap[j]? = w.heap[j]? := fun j hj =>
    (Below.heap_setCell _ _ _ _ hj).trans (Below.heap_setCell _ _ _ _ hj)
  exact ⟨by rw [heap_set_at h1]; rfl, own_kept h.toks ((kt_set h.blk (by decide)).trans (kt_set h1 (by decide))), own_kept h.names ((kt_set h.blk (by decide)).trans (kt_set h1 (by decide))), h.le, h.nml,
    both_below h.tb fun j hj => e j (by have := h.lo; omega), h.lo, h.rb, by simpa [World.setCell] using h.bz, h.good, h.mks, h.en⟩
end
/-- the token at place i; behind the last one none, at the place n -/
def tkAt (L : List Tok) (n i : Nat) : Tok := L.getD i ⟨0, [], n, 0⟩
theorem tkAt_kind (L : List Tok) (n i : Nat) : (tkAt L n i).kind = (nx ((ab L).drop i)).kind := by
  rw [(nx_tok L n i).1]; unfold tkAt tokAt
  by_cases h : i < L.length <;> simp [h]
theorem tkAt_text (L : List Tok) (n i : Nat) : (tkAt L n i).text = (nx ((ab L).drop i)).text := by
  rw [(nx_tok L n i).2]; unfold tkAt tokAt
  by_cases h : i < L.length <;> simp [h]
theorem tk_lt {L : List Tok} {n i : Nat} (h : (tkAt L n i).kind ≠ 0) : i < L.length := by
  rcases Nat.lt_or_ge i L.length with h1 | h1
  · exact h1
  · exfalso; apply h; simp [tkAt, List.getElem?_eq_none h1]
theorem tk_mem {L : List Tok} {n i : Nat} (h : i < L.length) : tkAt L n i ∈ L := by
  rw [show tkAt L n i = L[i] by simp [tkAt, h]]; exact List.getElem_mem h
theorem tk_len {L : List Tok} {n i : Nat} (h : rd.Good L) : (tkAt L n i).text.length ≤ 4096 := by
  rcases Nat.lt_or_ge i L.length with h1 | h1
  · exact h.text _ (tk_mem h1)
  · simp [tkAt, List.getElem?_eq_none h1]
/-- what an answer says of the reader -/
def Agree {α : Type} (L : List Tok) (x : Res α) (u : α) (i' : Nat) (nm' : List (List UInt8)) (k : Nat) : Prop :=
  match x with | .ok (v, s) => v = u ∧ k = 0 ∧ s = ((ab L).drop i', nm') | .error e => k = e ∧ e ≠ 0
/-- a term or, where something is wrong, whatever term; and where the reader stands -/
def SQ (r b : Nat) (S : List UInt8) (tk : Value) (L : List Tok) (i : Nat) (w : World) (x : Res T) (en : Ending) (w' : World) : Prop :=
  ∃ (t : T) (a : Value) (i' : Nat) (nv' : Value) (nm' : List (List UInt8)) (p k : Nat), en = .returned (.agg #[.int .i64 (t.k : Nat), .int .i64 t.n, .string (bs t.s), a]) ∧ Rp (fun k => w.heap.size ≤ k) w' t a ∧ i ≤ i' ∧
    Rr r b S tk L i' nv' nm' p k w' ∧ Fr r b w w' ∧ Agree L x t i' nm' k
/-- the same with a priority -/
def SPQ (r b : Nat) (S : List UInt8) (tk : Value) (L : List Tok) (i : Nat) (w : World) (x : Res (T × Int)) (en : Ending) (w' : World) : Prop :=
  ∃ (t : T) (q : Int) (a : Value) (i' : Nat) (nv' : Value) (nm' : List (List UInt8)) (p k : Nat), en = .returned (.tuple #[.agg #[.int .i64 (t.k : Nat), .int .i64 t.n, .string (bs t.s), a], .int .i64 q]) ∧ Rp (fun k => w.heap.size ≤ k) w' t a ∧ i ≤ i' ∧
    Rr r b S tk L i' nv' nm' p k w' ∧ Fr r b w w' ∧ Agree L x (t, q) i' nm' k
/-- the same for rows -/
def SRQ (r b : Nat) (S : List UInt8) (tk : Value) (L : List Tok) (i : Nat) (w : World) (x : Res (List T)) (en : Ending) (w' : World) : Prop :=
  ∃ (l : List T) (g cap : Nat) (i' : Nat) (nv' : Value) (nm' : List (List UInt8)) (p k : Nat), en = .returned (.slice (some ⟨g, 0, none⟩) l.length cap) ∧ Rw (fun k => w.heap.size ≤ k) w' g cap l ∧ i ≤ i' ∧ l.length ≤ i' + 1 ∧ l ≠ [] ∧
    Rr r b S tk L i' nv' nm' p k w' ∧ Fr r b w w' ∧ Agree L x l i' nm' k
/-- the function term, within d others, does as x says -/
def XOk (r b : Nat) (S : List UInt8) (tk : Value) (L : List Tok) (d : Nat) (x : W) : Prop :=
  ∀ (most : Int) (i : Nat) (nv : Value) (nm : List (List UInt8)) (p : Nat) (w : World), -10000 ≤ most → most ≤ 10000 → Rr r b S tk L i nv nm p 0 w →
    Calls Try.prog 55 #[.pointer (some ⟨r, 0, none⟩), .int .i64 most, .int .i64 (d : Nat)] w (SQ r b S tk L i w (x most ((ab L).drop i, nm)))
end Go.Proofs.Ytjccohcigopdfaa.rr
end
section
/- The reference's reader: next, fail, wrong, mark, must. -/
namespace Go.Proofs.Ytjccohcigopdfaa.rr
open Go.RowKit
open Go.Proofs.Ytjccohcigopdfaa.rd
open Go.Proofs.Ytjccohcigopdfaa.op (bs strC Both Tb)
open Go.Proofs.Ytjccohcigopdfaa.lx (Tok Tk tcell tcells cell_at)
set_option maxRecDepth 20000
section
variable {r b i p k : Nat} {S : List UInt8} {tk nv : Value} {L : List Tok} {nm : List (List UInt8)} {w : World}

set_option maxHeartbeats 1000000 in
theorem next_c (h : Rr r b S tk L i nv nm p k w) :
    Calls Try.prog 56 #[.pointer (some ⟨r, 0, none⟩)] w fun en w' => en = .returned (tokV (tkAt L S.length i)) ∧ Below w.heap.size w w' := by
  have hle := h.le
  have hlen := h.good.len
  have hlt := h.lt
  obtain ⟨a, cap, rfl⟩ := h.toks.shape
  have c0 : ∀ o, (w.alloc o).cell? ⟨r, 0, none⟩ = some (.string (bs S)) := fun o => by rw [(h.alloc o).cell]; rfl
  have c1 : ∀ o, (w.alloc o).cell? ⟨r, 1, none⟩ = some (.slice a L.length cap) := fun o => by rw [(h.alloc o).cell]; rfl
  have c2 : ∀ o, (w.alloc o).cell? ⟨r, 2, none⟩ = some (.int .i64 (i : Nat)) := fun o => by rw [(h.alloc o).cell]; rfl
  have hsz : ((bs S).size : Int) = (S.length : Int) := by simp [bs, ByteArray.size]
  have H := Lib.hid h
  clear h
  by_cases hi : i < L.length
  · have hne : ((i : Int) == (L.length : Int)) = false := by rw [beq_eq_false_iff_ne]; omega
    obtain ⟨g, cap', hv, hcap, _, hgl, hcell⟩ := H.out.toks.row (by omega)
    obtain ⟨rfl, rfl⟩ : a = some ⟨g, 0, none⟩ ∧ cap = cap' := by simp at hv; exact hv
    obtain ⟨t0, t1, t2, t3⟩ := hcell i hi
    have hta : tkAt L S.length i = L[i] := by simp [tkAt, hi]
    have Hta := Lib.hid hta
    clear hta hcell hv
    generalize hT : L[i] = T at *
    clear hT
    have hlt2 : (i : Int) < (L.length : Int) := by omega
    go_enter Try.func56, Try.ntmps56
    go_wp2
    go_quiet (fail)
    go_wp2
    generalize hW : World.drewN _ _ = W
    have hB : Below w.heap.size w W := by rw [← hW]; exact ((Below.refl _ w).alloc (Nat.le_refl _) _).trans (below_drawn _ _ _)
    have hrb : W.heap[w.heap.size]? = some (.cells #[.int .i64 0, .string ⟨#[]⟩, .int .i64 0, .int .i64 0] 73 (0, 0)) := by rw [← hW]; exact heap_alloc_new w _
    have hz : w.heap.size < W.heap.size := lt_of hrb
    have hR := H.out.stay hB
    have d0 : W.cell? ⟨r, 1, none⟩ = some (.slice (some ⟨g, 0, none⟩) L.length cap) := by rw [hR.cell]; rfl
    have d2 : W.cell? ⟨r, 2, none⟩ = some (.int .i64 (i : Nat)) := by rw [hR.cell]; rfl
    have x2 : ∀ j, W.cell? ⟨g, j, none⟩ = w.cell? ⟨g, j, none⟩ := fun j => World.cell?_of_block (hB.block g hgl)
    rw [← x2] at t0 t1 t2 t3
    obtain ⟨r0, r1, r2, r3, f0⟩ := cells4 hrb
    have HB := Lib.hid hB
    have HR := Lib.hid hrb
    clear hW hrb hR x2 c0 c1 c2 hB
    generalize hBe : w.heap.size = B at *
    have HBe := Lib.hid hBe
    clear hBe
    go_region
    all_goals
      go_wp2
      refine bodyPost_ret (ret_tok rfl _ _ rfl (rd.set4 HR.out _ _ _ _)) rfl ?_
      exact ⟨by rw [Hta.out]; rfl, by rw [HBe.out]; exact (below4 HB.out (Nat.le_refl _) _ _ _ _).drew⟩
  · obtain rfl : i = L.length := by omega
    have hta : tkAt L S.length L.length = ⟨0, [], S.length, 0⟩ := by simp [tkAt]
    have Hta := Lib.hid hta
    clear hta
    go_enter Try.func56, Try.ntmps56
    go_wp2
    go_quiet (fail)
    go_wp2
    generalize hW : World.drewN _ _ = W
    have hB : Below w.heap.size w W := by rw [← hW]; exact ((Below.refl _ w).alloc (Nat.le_refl _) _).trans (below_drawn _ _ _)
    have hrb : W.heap[w.heap.size]? = some (.cells #[.int .i64 0, .string ⟨#[]⟩, .int .i64 0, .int .i64 0] 73 (0, 0)) := by rw [← hW]; exact heap_alloc_new w _
    refine bodyPost_ret (ret_tok rfl _ _ rfl (rd.set4 hrb _ _ _ _)) rfl ?_
    exact ⟨by rw [Hta.out]; rfl, below4 hB (Nat.le_refl _) _ _ _ _⟩

set_option maxHeartbeats 1000000 in
theorem fail_c (h : Rr r b S tk L i nv nm p 0 w) (p' k' : Nat) :
    Calls Try.prog 71 #[.pointer (some ⟨r, 0, none⟩), .int .i64 (p' : Nat), .int .i64 (k' : Nat)] w fun en w' => en = .returned (.tuple #[]) ∧ Rr r b S tk L i nv nm p' k' w' ∧ Fr r b w w' := by
  have c5 : w.cell? ⟨r, 5, none⟩ = some (.int .i64 0) := by rw [h.cell]; rfl
  have c4 : w.cell? ⟨r, 4, none⟩ = some (.int .i64 (p : Nat)) := by rw [h.cell]; rfl
  have ff := h.free
  have H := Lib.hid (h.bad p' k')
  have HF := Lib.hid (((Fr.refl r b w).set (p := ⟨r, 4, none⟩) (.inl rfl) (.int .i64 (p' : Nat))).set (p := ⟨r, 5, none⟩) (.inl rfl) (.int .i64 (k' : Nat)))
  clear h
  go_enter Try.func71, Try.ntmps71
  go_wp2
  go_end0
  exact ⟨rfl, H.out, HF.out⟩

set_option maxHeartbeats 1000000 in
theorem wrong_c (h : Rr r b S tk L i nv nm p 0 w) :
    Calls Try.prog 57 #[.pointer (some ⟨r, 0, none⟩)] w fun en w' => en = .returned (.tuple #[]) ∧ (∃ p', Rr r b S tk L i nv nm p' 50 w') ∧ Fr r b w w' := by
  have H := Lib.hid h
  clear h
  have hf := field_f
  go_enter Try.func57, Try.ntmps57
  go_wp2_with fail
  refine (next_c H.out).mono ?_
  rintro en w1 ⟨rfl, hb⟩
  have HR := Lib.hid (H.out.stay hb)
  have HF := Lib.hid (Fr.of_below (r := r) (b := b) hb)
  clear hb
  unfold tokV
  go_wp2_with fail
  refine (fail_c HR.out _ 50).mono ?_
  rintro en w2 ⟨rfl, hR, hF⟩
  have HR2 := Lib.hid hR
  have HF2 := Lib.hid (HF.out.trans hF)
  clear hR hF
  go_wp2
  go_end0
  exact ⟨rfl, ⟨_, HR2.out⟩, HF2.out⟩

set_option maxHeartbeats 1000000 in
theorem mark_c (h : Rr r b S tk L i nv nm p k w) (m : List UInt8) :
    Calls Try.prog 73 #[.pointer (some ⟨r, 0, none⟩), .string (bs m)] w fun en w' => en = .returned (.bool (isM (nx ((ab L).drop i)) m)) ∧ Below w.heap.size w w' := by
  have H := Lib.hid h
  clear h
  have hq : isM (nx ((ab L).drop i)) m = ((tkAt L S.length i).kind == 5 && (tkAt L S.length i).text == m) := by
    unfold isM; rw [tkAt_kind, tkAt_text]
  rw [hq]
  clear hq
  have kn := next_c H.out
  generalize tkAt L S.length i = t at *
  unfold tokV at kn
  by_cases h5 : t.kind = 5
  · have x1 : ((t.kind : Int) == 5) = true := by simp [h5]
    have hq : ∀ q, (t.kind == 5 && q) = q := fun q => by simp [h5]
    rw [hq]
    have x2 : ((bs t.text).toList == (bs m).toList) = (t.text == m) := by
      rw [ByteArray.toList_eq, ByteArray.toList_eq]; simp [bs]
    generalize bs t.text = a at *
    generalize bs m = c at *
    generalize (t.text == m) = q at *
    clear hq h5
    go_enter Try.func73, Try.ntmps73
    go_wp2_with fail
    refine kn.mono ?_
    rintro en w1 ⟨rfl, hb⟩
    have HB := Lib.hid hb
    clear hb kn
    cases q
    all_goals
      go_wp2
      go_ret
      exact ⟨rfl, HB.out.trans ((Below.refl _ _).alloc HB.out.size _)⟩
  · have x1 : ((t.kind : Int) == 5) = false := by rw [beq_eq_false_iff_ne]; omega
    have hq : ∀ q, (t.kind == 5 && q) = false := fun q => by simp [h5]
    rw [hq]
    generalize bs t.text = a at *
    generalize bs m = c at *
    clear hq h5
    go_enter Try.func73, Try.ntmps73
    go_wp2_with fail
    refine kn.mono ?_
    rintro en w1 ⟨rfl, hb⟩
    have HB := Lib.hid hb
    clear hb kn
    go_wp2
    go_ret
    exact ⟨rfl, HB.out.trans ((Below.refl _ _).alloc HB.out.size _)⟩

set_option maxHeartbeats 1000000 in
/-- the mark, or something is wrong -/
theorem must_c (h : Rr r b S tk L i nv nm p 0 w) (m : List UInt8) :
    Calls Try.prog 90 #[.pointer (some ⟨r, 0, none⟩), .string (bs m)] w fun en w' => en = .returned (.tuple #[]) ∧ Fr r b w w' ∧
      ((isM (nx ((ab L).drop i)) m = true ∧ Rr r b S tk L (i + 1) nv nm p 0 w') ∨ (isM (nx ((ab L).drop i)) m = false ∧ ∃ p', Rr r b S tk L i nv nm p' 50 w')) := by
  have c5 : w.cell? ⟨r, 5, none⟩ = some (.int .i64 0) := by rw [h.cell]; rfl
  have km := mark_c h m
  have hi := h.le
  have hl := h.good.len
  have hlt : isM (nx ((ab L).drop i)) m = true → i < L.length := isM_lt
  have H := Lib.hid h
  clear h
  generalize isM (nx ((ab L).drop i)) m = q at *
  cases q
  · clear hlt
    generalize bs m = c at *
    go_enter Try.func90, Try.ntmps90
    go_wp2_with fail
    refine km.mono ?_
    rintro en w1 ⟨rfl, hb⟩
    have HR := Lib.hid (H.out.stay hb)
    have HF := Lib.hid (Fr.of_below (r := r) (b := b) hb)
    clear hb km
    go_wp2_with fail
    refine (wrong_c HR.out).mono ?_
    rintro en w2 ⟨rfl, ⟨p', hR⟩, hF⟩
    have HR2 := Lib.hid hR
    have HF2 := Lib.hid (HF.out.trans hF)
    clear hR hF
    go_wp2
    refine bodyPost_ret (results_none rfl _ _ _) rfl ?_
    exact ⟨rfl, HF2.out, .inr ⟨by trivial, p', HR2.out⟩⟩
  · have hlt1 := hlt rfl
    clear hlt
    generalize bs m = c at *
    go_enter Try.func90, Try.ntmps90
    go_wp2_with fail
    refine km.mono ?_
    rintro en w1 ⟨rfl, hb⟩
    have hR := H.out.stay hb
    have c2 : w1.cell? ⟨r, 2, none⟩ = some (.int .i64 (i : Nat)) := by rw [hR.cell]; rfl
    have f2 := hR.free 2
    have i1 : IntKind.i64.wrap ((i : Int) + 1) = (i : Int) + 1 := by rw [IntWalk.i64_in _ (by omega)]
    have HR := Lib.hid (hR.step hlt1)
    have HF := Lib.hid ((Fr.of_below (r := r) (b := b) hb).set (p := ⟨r, 2, none⟩) (.inl rfl) (.int .i64 ((i : Int) + 1)))
    clear hb km hR
    go_wp2
    go_end0
    exact ⟨rfl, HF.out, .inl ⟨by trivial, HR.out⟩⟩
/-- where something is wrong already: nothing -/
theorem must_bad (h : Rr r b S tk L i nv nm p k w) (hk : k ≠ 0) (m : List UInt8) :
    Calls Try.prog 90 #[.pointer (some ⟨r, 0, none⟩), .string (bs m)] w fun en w' => en = .returned (.tuple #[]) ∧ w' = w := by
  have c5 : w.cell? ⟨r, 5, none⟩ = some (.int .i64 (k : Nat)) := by rw [h.cell]; rfl
  have hk2 : ((k : Int) == 0) = false := by rw [beq_eq_false_iff_ne]; omega
  generalize bs m = c at *
  clear h
  go_enter Try.func90, Try.ntmps90
  go_wp2
  refine bodyPost_ret (results_none rfl _ _ _) rfl ?_
  exact ⟨rfl, rfl⟩
end
end Go.Proofs.Ytjccohcigopdfaa.rr
end
section
/- The reference's reader: atom, cmp, two, one. -/
namespace Go.Proofs.Ytjccohcigopdfaa.rr
open Go.RowKit
open Go.Proofs.Ytjccohcigopdfaa.rd
open Go.Proofs.Ytjccohcigopdfaa.op (bs strC Both Tb)
open Go.Proofs.Ytjccohcigopdfaa.lx (Tok Tk tcell tcells cell_at)
set_option maxRecDepth 20000

set_option maxHeartbeats 1000000 in
theorem atom_c (n : ByteArray) (w : World) :
    Calls Try.prog 92 #[.string n] w fun en w' => en = .returned (.agg #[.int .i64 3, .int .i64 0, .string n, .slice none 0 0]) ∧ Below w.heap.size w w' := by
  go_enter Try.func92, Try.ntmps92
  go_wp2
  (try simp only [Exit.inBlock, Exit.then])
  refine bodyPost_ret (ret_term rfl _ _ rfl (heap_alloc_new w _)) rfl ?_
  exact ⟨rfl, (Below.refl _ w).alloc (Nat.le_refl _) _⟩
theorem own0 {w : World} {B : Nat} {t : TypeId} {z : Nat} (h : w.heap[B]? = some (.cells #[] t (0, 0))) : w.ownsRow B t z (.slice (some ⟨B, 0, none⟩) 0 0) 0 [] :=
  ⟨by simp, .inr ⟨B, 0, #[], rfl, Nat.le_refl _, h, Nat.le_refl _, by unfold maxLen; omega, by simp, by simp⟩⟩
theorem tv_cells {t : T} {a : Value} (ha : a.oneCell' = true) : ∀ u ∈ tv t a, u.oneCell' = true := by
  intro u hu; simp [tv] at hu; rcases hu with rfl | rfl | rfl | rfl <;> first | rfl | exact ha
theorem tvs_cells {D : Nat → Prop} {w : World} : ∀ {l : List T} {az : List Value}, Rps D w l az → ∀ u ∈ tvs (l.zip az), u.oneCell' = true
  | [], az, _, u, hu => by simp [tvs] at hu
  | t :: l, az, h, u, hu => by
    rw [Rps] at h
    obtain ⟨a, az', rfl, h1, h2⟩ := h
    obtain ⟨p, n, c, rfl⟩ := h1.shape
    rw [List.zip_cons_cons, tvs, List.flatMap_cons, List.mem_append] at hu
    rcases hu with h | h
    · exact tv_cells rfl u h
    · exact tvs_cells h2 u h
/-- a row's terms behind an empty slice of one's own -/
theorem wpList_spread {ops : Array Oper} {rest : List Oper} {o : Oper} {A : Act} {Q : Exit → Act → World → Prop} (hgd : o.guard = none) (s x : Operand)
    (ho : o.op = .call { callee := .builtin .append, args := #[s, x], argTypes := #[23, 23] })
    (D : Nat → Prop) (W : World) (B g cap : Nat) (l : List T) (hs : A.eval s = .slice (some ⟨B, 0, none⟩) 0 0) (hB : W.heap[B]? = some (.cells #[] 25 (0, 0))) (hw : Rw (fun k => D k ∧ k < B) W g cap l)
    (hx : A.eval x = .slice (some ⟨g, 0, none⟩) l.length cap) (hlen : l.length ≤ 100000) (hD : ∀ k, B ≤ k → D k)
    (h : ∀ p n c w', (∀ nm, Rp D w' (.cmp nm l) (.slice p n c)) → Below B W w' → wpList Try.prog ops Q rest (A.put o.dst (.slice p n c)) w') :
    wpList Try.prog ops Q (o :: rest) A W := by
  obtain ⟨i0, hi, hz0, hz1, hz2⟩ := info_parts term_info3
  have hBl := lt_of hB
  obtain ⟨az, h1, h2, h3⟩ := hw
  have hcl := World.ownsRow.cells h1 (g := g) rfl
  refine wpList_append_own_at _ hgd s x 23 ho B 25 i0 _ 4 56 Try.underlying23 hi hz0 hz1 hz2 rfl (by decide) _ 0 [] hs (own0 hB) ⟨g, 0, none⟩ l.length cap (tvs (l.zip az)) hx ?_ ?_ (tvs_cells h3) ?_ ?_ (by omega) ?_
  · rw [tvs_len, List.length_zip, h3.len]; simp
  · intro j u hj
    exact hcl j u hj
  · unfold maxLen; omega
  · omega
  · intro v' w' hown' hgr _ hat
    rw [Nat.zero_add, List.nil_append] at hown'
    have hb : Below B W w' := ⟨hgr.os, hgr.tape, hgr.output, hgr.size, fun k hk => hgr.block k (by omega) (fun e => by cases e; exact absurd hk (Nat.lt_irrefl _))⟩
    obtain ⟨p, n, c, rfl⟩ : ∃ p n c, v' = .slice p n c := by
      rcases hown'.2 with ⟨e, _⟩ | ⟨g', cap', cur, e, _⟩ <;> exact ⟨_, _, _, e⟩
    refine h p n c w' (fun nm => ?_) hb
    have hkd : Kd (fun k => (D k ∧ k < B) ∧ k ≠ g) 25 W w' := fun k cs fr hd hk => by rw [hb.block k hd.1.2]; exact hk
    rw [Rp]
    refine ⟨az, ⟨hown'.1, ?_⟩, fun g' hg' => ?_, (h3.keptD hkd).imp fun k _ hd => hd.1.1⟩
    · rcases hown'.2 with e | ⟨g', cap', cur, e1, e2, e3⟩
      · exact .inl e
      · exact .inr ⟨g', cap', cur, e1, Nat.zero_le _, e3⟩
    · have hown2 := World.ownsRow.lt hown' g' hg'
      exact hD _ hown2.1
set_option maxHeartbeats 1000000 in
theorem cmp_c {D : Nat → Prop} {g cap : Nat} {w : World} {l : List T} (hw : Rw D w g cap l) (hD : ∀ k, w.heap.size ≤ k → D k) (hl : l.length ≤ 100000) (s : List UInt8) :
    Calls Try.prog 96 #[.string (bs s), .slice (some ⟨g, 0, none⟩) l.length cap] w fun en w' => ∃ a, en = .returned (.agg #[.int .i64 4, .int .i64 0, .string (bs s), a]) ∧ Rp D w' (.cmp s l) a ∧ Below w.heap.size w w' := by
  have hB : ((w.alloc (.cells #[.int .i64 0, .int .i64 0, .string ⟨#[]⟩, .slice none 0 0] 25)).alloc (.cells #[] 25)).heap[w.heap.size + 1]? = some (.cells #[] 25 (0, 0)) := by
    have := heap_alloc_new (w.alloc (.cells #[.int .i64 0, .int .i64 0, .string ⟨#[]⟩, .slice none 0 0] 25)) (.cells #[] 25)
    rwa [size_alloc] at this
  have hbw : Below w.heap.size w ((w.alloc (.cells #[.int .i64 0, .int .i64 0, .string ⟨#[]⟩, .slice none 0 0] 25)).alloc (.cells #[] 25)) := ((Below.refl _ w).alloc (Nat.le_refl _) _).alloc (by simp) _
  have hr0 : ((w.alloc (.cells #[.int .i64 0, .int .i64 0, .string ⟨#[]⟩, .slice none 0 0] 25)).alloc (.cells #[] 25)).heap[w.heap.size]? = some (.cells #[.int .i64 0, .int .i64 0, .string ⟨#[]⟩, .slice none 0 0] 25 (0, 0)) :=
    (Lib.alloc_old _ _ _ (by simp)).trans (heap_alloc_new w _)
  have hW : Rw (fun k => (D k ∧ k ≠ w.heap.size) ∧ k < w.heap.size + 1) ((w.alloc (.cells #[.int .i64 0, .int .i64 0, .string ⟨#[]⟩, .slice none 0 0] 25)).alloc (.cells #[] 25)) g cap l :=
    (hw.imp (D' := fun k => (D k ∧ k ≠ w.heap.size) ∧ k < w.heap.size + 1) fun k hk hd => ⟨⟨hd, by omega⟩, by omega⟩).kept (Kt.below hbw)
  have HW := Lib.hid hW
  have HB := Lib.hid hB
  have Hr0 := Lib.hid hr0
  have Hbw := Lib.hid hbw
  clear hw hW hB hr0 hbw
  go_enter Try.func96, Try.ntmps96
  go_wp2_with (at_builtin; refine wpList_spread rfl _ _ rfl (fun k => D k ∧ k ≠ w.heap.size) _ (w.heap.size + 1) g cap l rfl HB.out HW.out rfl hl (fun k hk => ⟨hD k (by omega), by omega⟩) ?c)
  case c =>
    intro p n c w1 hT hb
    have hT := hT s
    have hr1 := (hb.block w.heap.size (by omega)).trans Hr0.out
    obtain ⟨r0, r1, r2, r3, f0⟩ := cells4 hr1
    have HT := Lib.hid hT
    have HR := Lib.hid hr1
    have hB1 := Lib.hid (Hbw.out.trans (hb.mono (by omega)))
    clear hT hr1 hb HW HB Hr0 Hbw
    generalize hBe : w.heap.size = B at *
    have HBe := Lib.hid hBe
    clear hBe
    go_wp2
    (try simp only [Exit.inBlock, Exit.then])
    have hn : ¬ (D B ∧ B ≠ B) := fun h => h.2 rfl
    refine bodyPost_ret (ret_term rfl _ _ rfl (rd.set4 HR.out _ _ _ _)) rfl ⟨_, rfl, ?_, ?_⟩
    · exact (((((HT.out.set (p := ⟨B, 0, none⟩) hn _).set (p := ⟨B, 1, none⟩) hn _).set (p := ⟨B, 2, none⟩) hn _).set (p := ⟨B, 3, none⟩) hn _)).imp fun k _ hk => hk.1
    · rw [HBe.out]; exact below4 hB1.out (Nat.le_refl _) _ _ _ _

set_option maxHeartbeats 2000000 in
theorem two_c {D : Nat → Prop} {w : World} {t u : T} {a c : Value} (ht : Rp D w t a) (hu : Rp D w u c) (hD : ∀ k, w.heap.size ≤ k → D k) (s : List UInt8) :
    Calls Try.prog 75 #[.string (bs s), .agg #[.int .i64 (t.k : Nat), .int .i64 t.n, .string (bs t.s), a], .agg #[.int .i64 (u.k : Nat), .int .i64 u.n, .string (bs u.s), c]] w fun en w' =>
      ∃ v, en = .returned (.agg #[.int .i64 4, .int .i64 0, .string (bs s), v]) ∧ Rp D w' (.cmp s [t, u]) v ∧ Below w.heap.size w w' := by
  obtain ⟨p1, n1, c1, rfl⟩ := ht.shape
  obtain ⟨p2, n2, c2, rfl⟩ := hu.shape
  have hb3 : Below w.heap.size w (((w.alloc (.cells #[.int .i64 (t.k : Nat), .int .i64 t.n, .string (bs t.s), .slice p1 n1 c1] 25)).alloc (.cells #[.int .i64 (u.k : Nat), .int .i64 u.n, .string (bs u.s), .slice p2 n2 c2] 25)).alloc (.cells #[.int .i64 0, .int .i64 0, .string ⟨#[]⟩, .slice none 0 0] 25)) :=
    (((Below.refl _ w).alloc (Nat.le_refl _) _).alloc (by simp) _).alloc (by simp; omega) _
  have hs3 : (((w.alloc (.cells #[.int .i64 (t.k : Nat), .int .i64 t.n, .string (bs t.s), .slice p1 n1 c1] 25)).alloc (.cells #[.int .i64 (u.k : Nat), .int .i64 u.n, .string (bs u.s), .slice p2 n2 c2] 25)).alloc (.cells #[.int .i64 0, .int .i64 0, .string ⟨#[]⟩, .slice none 0 0] 25)).heap.size = w.heap.size + 3 := by simp
  have hr3 : (((w.alloc (.cells #[.int .i64 (t.k : Nat), .int .i64 t.n, .string (bs t.s), .slice p1 n1 c1] 25)).alloc (.cells #[.int .i64 (u.k : Nat), .int .i64 u.n, .string (bs u.s), .slice p2 n2 c2] 25)).alloc (.cells #[.int .i64 0, .int .i64 0, .string ⟨#[]⟩, .slice none 0 0] 25)).heap[w.heap.size + 2]? = some (.cells #[.int .i64 0, .int .i64 0, .string ⟨#[]⟩, .slice none 0 0] 25 (0, 0)) := by
    have := heap_alloc_new ((w.alloc (.cells #[.int .i64 (t.k : Nat), .int .i64 t.n, .string (bs t.s), .slice p1 n1 c1] 25)).alloc (.cells #[.int .i64 (u.k : Nat), .int .i64 u.n, .string (bs u.s), .slice p2 n2 c2] 25)) (.cells #[.int .i64 0, .int .i64 0, .string ⟨#[]⟩, .slice none 0 0] 25)
    rwa [size_alloc, size_alloc] at this
  have hT := (ht.imp (D' := fun k => D k ∧ k ≠ w.heap.size + 2) fun k hk hd => ⟨hd, by omega⟩).kept (Kt.below hb3)
  have hU := (hu.imp (D' := fun k => D k ∧ k ≠ w.heap.size + 2) fun k hk hd => ⟨hd, by omega⟩).kept (Kt.below hb3)
  have hRw := Lib.hid (Rw.two hT hU (by rw [hs3]; exact ⟨hD _ (by omega), by omega⟩))
  rw [hs3] at hRw
  have Hb3 := Lib.hid hb3
  have Hr3 := Lib.hid hr3
  have Hs3 := Lib.hid hs3
  clear ht hu hT hU hb3 hr3 hs3
  go_enter Try.func75, Try.ntmps75
  go_wp2_with fail
  refine (cmp_c (D := fun k => D k ∧ k ≠ w.heap.size + 2) (l := [t, u]) hRw.out (fun k hk => by simp only [size_alloc] at hk; exact ⟨hD _ (by omega), by omega⟩) (by simp) s).mono ?_
  rintro en w5 ⟨v, rfl, hT, hb⟩
  obtain ⟨p, n, cc, rfl⟩ := hT.shape
  have hb' := (((Below.refl _ _).alloc (Nat.le_refl _) _).trans (hb.mono (by simp only [size_alloc]; omega)))
  have hr5 := (hb'.block (w.heap.size + 2) (by rw [Hs3.out]; omega)).trans Hr3.out
  obtain ⟨r0, r1, r2, r3, f0⟩ := cells4 hr5
  have HT := Lib.hid hT
  have HR := Lib.hid hr5
  have HB := Lib.hid (Hb3.out.trans (hb'.mono (by rw [Hs3.out]; omega)))
  clear hT hr5 hb hb' hRw Hb3 Hr3 Hs3
  simp only [Nat.add_assoc, Nat.reduceAdd]
  generalize hBe : w.heap.size + 2 = B at *
  have HBe := Lib.hid hBe
  clear hBe
  go_wp2
  (try simp only [Exit.inBlock, Exit.then])
  have hn : ¬ (D B ∧ B ≠ B) := fun h => h.2 rfl
  refine bodyPost_ret (ret_term rfl _ _ rfl (rd.set4 HR.out _ _ _ _)) rfl ⟨_, rfl, ?_, ?_⟩
  · exact (((((HT.out.set (p := ⟨B, 0, none⟩) hn _).set (p := ⟨B, 1, none⟩) hn _).set (p := ⟨B, 2, none⟩) hn _).set (p := ⟨B, 3, none⟩) hn _)).imp fun k _ hk => hk.1
  · exact below4 HB.out (by have := HBe.out; omega) _ _ _ _

set_option maxHeartbeats 2000000 in
theorem one_c {D : Nat → Prop} {w : World} {t : T} {a : Value} (ht : Rp D w t a) (hD : ∀ k, w.heap.size ≤ k → D k) (s : List UInt8) :
    Calls Try.prog 93 #[.string (bs s), .agg #[.int .i64 (t.k : Nat), .int .i64 t.n, .string (bs t.s), a]] w fun en w' =>
      ∃ v, en = .returned (.agg #[.int .i64 4, .int .i64 0, .string (bs s), v]) ∧ Rp D w' (.cmp s [t]) v ∧ Below w.heap.size w w' := by
  obtain ⟨p1, n1, c1, rfl⟩ := ht.shape
  have hb3 : Below w.heap.size w ((w.alloc (.cells #[.int .i64 (t.k : Nat), .int .i64 t.n, .string (bs t.s), .slice p1 n1 c1] 25)).alloc (.cells #[.int .i64 0, .int .i64 0, .string ⟨#[]⟩, .slice none 0 0] 25)) := ((Below.refl _ w).alloc (Nat.le_refl _) _).alloc (by simp) _
  have hs3 : ((w.alloc (.cells #[.int .i64 (t.k : Nat), .int .i64 t.n, .string (bs t.s), .slice p1 n1 c1] 25)).alloc (.cells #[.int .i64 0, .int .i64 0, .string ⟨#[]⟩, .slice none 0 0] 25)).heap.size = w.heap.size + 2 := by simp
  have hr3 : ((w.alloc (.cells #[.int .i64 (t.k : Nat), .int .i64 t.n, .string (bs t.s), .slice p1 n1 c1] 25)).alloc (.cells #[.int .i64 0, .int .i64 0, .string ⟨#[]⟩, .slice none 0 0] 25)).heap[w.heap.size + 1]? = some (.cells #[.int .i64 0, .int .i64 0, .string ⟨#[]⟩, .slice none 0 0] 25 (0, 0)) := by
    have := heap_alloc_new (w.alloc (.cells #[.int .i64 (t.k : Nat), .int .i64 t.n, .string (bs t.s), .slice p1 n1 c1] 25)) (.cells #[.int .i64 0, .int .i64 0, .string ⟨#[]⟩, .slice none 0 0] 25)
    rwa [size_alloc] at this
  have hT := (ht.imp (D' := fun k => D k ∧ k ≠ w.heap.size + 1) fun k hk hd => ⟨hd, by omega⟩).kept (Kt.below hb3)
  have hRw := Lib.hid (Rw.one hT (by rw [hs3]; exact ⟨hD _ (by omega), by omega⟩))
  rw [hs3] at hRw
  have Hb3 := Lib.hid hb3
  have Hr3 := Lib.hid hr3
  have Hs3 := Lib.hid hs3
  clear ht hT hb3 hr3 hs3
  go_enter Try.func93, Try.ntmps93
  go_wp2_with fail
  refine (cmp_c (D := fun k => D k ∧ k ≠ w.heap.size + 1) (l := [t]) hRw.out (fun k hk => by simp only [size_alloc] at hk; exact ⟨hD _ (by omega), by omega⟩) (by simp) s).mono ?_
  rintro en w5 ⟨v, rfl, hT, hb⟩
  obtain ⟨p, n, cc, rfl⟩ := hT.shape
  have hb' := (((Below.refl _ _).alloc (Nat.le_refl _) _).trans (hb.mono (by simp only [size_alloc]; omega)))
  have hr5 := (hb'.block (w.heap.size + 1) (by rw [Hs3.out]; omega)).trans Hr3.out
  obtain ⟨r0, r1, r2, r3, f0⟩ := cells4 hr5
  have HT := Lib.hid hT
  have HR := Lib.hid hr5
  have HB := Lib.hid (Hb3.out.trans (hb'.mono (by rw [Hs3.out]; omega)))
  clear hT hr5 hb hb' hRw Hb3 Hr3 Hs3
  simp only [Nat.add_assoc, Nat.reduceAdd]
  generalize hBe : w.heap.size + 1 = B at *
  have HBe := Lib.hid hBe
  clear hBe
  go_wp2
  (try simp only [Exit.inBlock, Exit.then])
  have hn : ¬ (D B ∧ B ≠ B) := fun h => h.2 rfl
  refine bodyPost_ret (ret_term rfl _ _ rfl (rd.set4 HR.out _ _ _ _)) rfl ⟨_, rfl, ?_, ?_⟩
  · exact (((((HT.out.set (p := ⟨B, 0, none⟩) hn _).set (p := ⟨B, 1, none⟩) hn _).set (p := ⟨B, 2, none⟩) hn _).set (p := ⟨B, 3, none⟩) hn _)).imp fun k _ hk => hk.1
  · exact below4 HB.out (by have := HBe.out; omega) _ _ _ _
end Go.Proofs.Ytjccohcigopdfaa.rr
end
section
/- The reference's reader: integer. -/
namespace Go.Proofs.Ytjccohcigopdfaa.rr
open Go.RowKit
open Go.Proofs.Ytjccohcigopdfaa.rd
open Go.Proofs.Ytjccohcigopdfaa.op (bs strC Both Tb)
open Go.Proofs.Ytjccohcigopdfaa.tx (parseV parseE)
open Go.Proofs.Ytjccohcigopdfaa.lx (Tok Tk tcell tcells cell_at)
set_option maxRecDepth 20000

theorem fin_sq {fn : Func} {q : Tmp} (hf : fn.results = #[.cell q 25]) {r b i i' B p k : Nat} {S : List UInt8} {tk nv' : Value} {L : List Tok} {nm' : List (List UInt8)} {w W : World} {tmps : Array Value} {a0 a1 a2 a3 : Value} {D : Nat → Prop}
    (hp : tmps.getD q undef = .pointer (some ⟨B, 0, none⟩)) (hR : Rr r b S tk L i' nv' nm' p k W) (hF : Fr r b w W) (hB : W.heap[B]? = some (.cells #[a0, a1, a2, a3] 25 (0, 0))) (hlo : w.heap.size ≤ B) (hr : r < w.heap.size)
    {t : T} {a : Value} (hT : Rp D W t a) (hD : ∀ k, D k → w.heap.size ≤ k ∧ k ≠ B) (hi : i ≤ i') {X : Res T} (hX : Agree L X t i' nm' k) :
    bodyPost Try.prog fn (SQ r b S tk L i w X) .ret { tmps := tmps, defers := [] } ((((W.setCell ⟨B, 0, none⟩ (.int .i64 (t.k : Nat))).setCell ⟨B, 1, none⟩ (.int .i64 t.n)).setCell ⟨B, 2, none⟩ (.string (bs t.s))).setCell ⟨B, 3, none⟩ a) := by
  refine bodyPost_ret (ret_term hf _ _ hp (Go.Proofs.Ytjccohcigopdfaa.rd.set4 hB _ _ _ _)) rfl ?_
  have hn : ¬ D B := fun h => (hD B h).2 rfl
  refine ⟨t, a, i', nv', nm', p, k, rfl, ?_, hi, hR.set4 hB (by omega) (by decide) (by decide) _ _ _ _, ?_, hX⟩
  · exact (((((hT.set (p := ⟨B, 0, none⟩) hn _).set (p := ⟨B, 1, none⟩) hn _).set (p := ⟨B, 2, none⟩) hn _).set (p := ⟨B, 3, none⟩) hn _)).imp fun k _ hk => (hD k hk).1
  · exact (((hF.set (p := ⟨B, 0, none⟩) (.inr hlo) _).set (p := ⟨B, 1, none⟩) (.inr hlo) _).set (p := ⟨B, 2, none⟩) (.inr hlo) _).set (p := ⟨B, 3, none⟩) (.inr hlo) _
noncomputable def intQ (sign text : List UInt8) (s : St) : Res T :=
  if trim text = [] then .ok (.leaf 2 0 [], s) else if parseE (sign ++ trim text) = 0 then .ok (.leaf 2 (parseV (sign ++ trim text)) [], s) else .error 51
theorem intP_eq (sign : List UInt8) (s : St) : intP sign s = intQ sign (nx s.1).text (s.1.tail, s.2) := rfl
theorem trim_zero (l : List UInt8) : trim (48 :: l) = trim l := rfl
theorem trim_other {c : UInt8} (h : c ≠ 48) (l : List UInt8) : trim (c :: l) = c :: l := by
  unfold trim; rw [List.dropWhile_cons]; simp [h]
theorem cut1 (c : UInt8) (l : List UInt8) : (bs (c :: l)).extract 1 (bs (c :: l)).size = bs l := tx.bytes_str (by rw [Lib.extract_to_end]; rfl)
def sLen (v : Value) : Nat := match v with | .string s => s.size | _ => 0
theorem parse_zero : parseV [48] = 0 ∧ parseE [48] = 0 := tx.parse_yes (a := 0) (by unfold nm.Fit; omega) (by rw [tx.text_pos (by omega)]; unfold tx.dec; rw [tx.decTo, dif_pos (by decide)]; rfl)

set_option maxHeartbeats 1000000 in
theorem integer_c {r b i p : Nat} {S : List UInt8} {tk nv : Value} {L : List Tok} {nm : List (List UInt8)} {w : World} (h : Rr r b S tk L i nv nm p 0 w) (t : Tok) (ht : t.text ≠ []) (hl : t.text.length ≤ 4096) (below : Bool) :
    Calls Try.prog 88 #[.pointer (some ⟨r, 0, none⟩), tokV t, .bool below] w (SQ r b S tk L i w (intQ (if below = true then [45] else []) t.text ((ab L).drop i, nm))) := by
  generalize hX : intQ (if below = true then [45] else []) t.text ((ab L).drop i, nm) = X
  have hlt := h.lt
  unfold tokV
  obtain ⟨tk0, tt, tf, te⟩ := t
  simp only at ht hl hX ⊢
  have hX0 : trim tt = [] → X = .ok (.leaf 2 0 [], ((ab L).drop i, nm)) := fun e => by rw [← hX]; unfold intQ; rw [if_pos e]
  have hX1 : trim tt ≠ [] → X = if parseE ((if below = true then [45] else []) ++ trim tt) = 0 then .ok (.leaf 2 (parseV ((if below = true then [45] else []) ++ trim tt)) [], ((ab L).drop i, nm)) else .error 51 := fun e => by rw [← hX]; unfold intQ; rw [if_neg e]
  have hX0 := Lib.hid hX0
  have hX1 := Lib.hid hX1
  have H := Lib.hid h
  clear hX h
  obtain ⟨W1, hW1⟩ : ∃ W1, (w.alloc (.cells #[.int .i64 (tk0 : Nat), .string (bs tt), .int .i64 (tf : Nat), .int .i64 (te : Nat)] 73)).alloc (.cells #[.int .i64 0, .int .i64 0, .string ⟨#[]⟩, .slice none 0 0] 25) = W1 := ⟨_, rfl⟩
  have hb1 : Below w.heap.size w W1 := by rw [← hW1]; exact ((Below.refl _ w).alloc (Nat.le_refl _) _).alloc (by simp) _
  have hbx : W1.heap[w.heap.size]? = some (.cells #[.int .i64 (tk0 : Nat), .string (bs tt), .int .i64 (tf : Nat), .int .i64 (te : Nat)] 73 (0, 0)) := by rw [← hW1]; exact (Lib.alloc_old _ _ _ (by simp)).trans (heap_alloc_new w _)
  have hrb : W1.heap[w.heap.size + 1]? = some (.cells #[.int .i64 0, .int .i64 0, .string ⟨#[]⟩, .slice none 0 0] 25 (0, 0)) := by
    rw [← hW1]
    have := heap_alloc_new (w.alloc (.cells #[.int .i64 (tk0 : Nat), .string (bs tt), .int .i64 (tf : Nat), .int .i64 (te : Nat)] 73)) (.cells #[.int .i64 0, .int .i64 0, .string ⟨#[]⟩, .slice none 0 0] 25)
    rwa [size_alloc] at this
  obtain ⟨b0, b1, b2, b3, bf⟩ := cells4 hbx
  obtain ⟨r0, r1, r2, r3, rf⟩ := cells4 hrb
  have HR := Lib.hid (H.out.stay hb1)
  have HF := Lib.hid (Fr.of_below (r := r) (b := b) hb1)
  have Hrb := Lib.hid hrb
  have key : ∀ n k W2 nm2, Agree L X (.leaf 2 n []) i nm2 k → ∀ p2, Rr r b S tk L i nv nm2 p2 k W2 → Fr r b w W2 → W2.heap[w.heap.size + 1]? = some (.cells #[.int .i64 0, .int .i64 0, .string ⟨#[]⟩, .slice none 0 0] 25 (0, 0)) → ∀ tmps : Array Value, tmps.getD 6 undef = .pointer (some ⟨w.heap.size + 1, 0, none⟩) →
      bodyPost Try.prog Try.f88 (SQ r b S tk L i w X) .ret { tmps := tmps, defers := [] } ((((W2.setCell ⟨w.heap.size + 1, 0, none⟩ (.int .i64 2)).setCell ⟨w.heap.size + 1, 1, none⟩ (.int .i64 n)).setCell ⟨w.heap.size + 1, 2, none⟩ (.string ⟨#[]⟩)).setCell ⟨w.heap.size + 1, 3, none⟩ (.slice none 0 0)) :=
    fun n k W2 nm2 hA p2 h2 hF2 hB2 tmps htm => fin_sq (t := .leaf 2 n []) (D := fun _ => False) rfl htm h2 hF2 hB2 (by omega) hlt (by rw [Rp]) (fun _ h => h.elim) (Nat.le_refl _) hA
  have Key := Lib.hid key
  have hgo : ∀ (sg d : List UInt8), (sg ++ d).length ≤ 8192 → Agree L X (.leaf 2 (parseV (sg ++ d)) []) i nm (if parseE (sg ++ d) = 0 then 0 else 51) → True := fun _ _ _ _ => trivial
  clear key hgo hbx hrb hb1 hlt
  go_enter Try.func88, Try.ntmps88
  go_wp2_with fail
  clear hW1
  go_loop [7] (fun v => ∃ l : List UInt8, v = .string (bs l) ∧ l ≠ [] ∧ l.length ≤ 4096 ∧ Hid (trim l = trim tt)) (fun v => sLen v)
  case atStart => exact ⟨tt, rfl, ht, hl, Lib.hid rfl⟩
  case round =>
    obtain ⟨l, rfl, hl0, hl1, htr⟩ := hrel
    cases l with
    | nil => exact absurd rfl hl0
    | cons c l =>
    have hgt := PlainAid.get_bt (bs (c :: l))
    have hb0 : PlainAid.bt (bs (c :: l)) 0 = (c.toNat : Nat) := tx.str_get (c :: l) 0 (by simp)
    have hsz : (bs (c :: l)).size = l.length + 1 := rfl
    have hcut := cut1 c l
    rw [hsz] at hcut
    have hb255 := c.toNat_lt
    simp only [List.length_cons] at hl1
    have hneq : c ≠ 48 → ((bs (c :: l)).toList == [48]) = false := fun h => by
      rw [ByteArray.toList_eq]; simp [bs, h]
    have e45 : (({ data := #[45] } : ByteArray)) ++ bs (c :: l) = bs (45 :: c :: l) := bs_append [45] (c :: l)
    by_cases h48 : c = 48
    · subst h48
      cases l with
      | nil =>
        have hXd := Lib.hid (hX0.out (by rw [← htr.out]; rfl))
        have hs1 : (bs [48]).size = 1 := rfl
        have hs2 : ((bs [48]).toList == [48]) = true := by rw [ByteArray.toList_eq]; rfl
        have kp := fun w => tx.parse_r [48] (by simp) w
        rw [parse_zero.1, parse_zero.2] at kp
        change ∀ w, Calls _ _ #[.string (bs [48])] w _ at kp
        clear htr hgt hb0 hcut hsz hneq e45
        generalize bs [48] = z at *
        cases below
        all_goals
          go_wp2_with fail
          refine (kp _).mono ?_
          rintro en w2 ⟨rfl, rfl⟩
          go_wp2
          (try simp only [Exit.inBlock, Exit.then])
          have hA : Agree L X (.leaf 2 0 []) i nm 0 := by rw [hXd.out]; unfold Agree; exact ⟨rfl, rfl, rfl⟩
          have k2 := Key.out 0 0 W1 nm hA p HR.out HF.out Hrb.out
          refine k2 _ ?_
          rfl
      | cons d l =>
        have hl2 : (bs (d :: l)).size = l.length + 1 := rfl
        have hb1 : PlainAid.bt (bs (48 :: d :: l)) 0 = 48 := hb0
        clear hb0 hneq e45
        simp only [List.length_cons] at hl1 hsz hcut
        have hfin : ∃ l', Value.string (bs (d :: l)) = .string (bs l') ∧ l' ≠ [] ∧ l'.length ≤ 4096 ∧ Hid (trim l' = trim tt) := ⟨d :: l, rfl, by simp, by simp; omega, Lib.hid (by rw [← htr.out, trim_zero])⟩
        generalize bs (d :: l) = z2 at *
        generalize bs (48 :: d :: l) = z at *
        have Hfin := Lib.hid hfin
        clear hfin htr
        go_wp2
        exact ⟨Hfin.out, by simp [sLen]; omega⟩
    · have hne : c.toNat ≠ 48 := fun h => h48 (UInt8.toNat_inj.1 h)
      have hXd := hX1.out (by rw [← htr.out, trim_other h48]; simp)
      rw [← htr.out, trim_other h48] at hXd
      have hneq := hneq h48
      have fin : ∀ (pv pe : Int) (zz : ByteArray), (∀ w, Calls Try.prog 102 #[.string zz] w fun e w' => e = .returned (.tuple #[.int .i64 pv, .int .i64 pe]) ∧ w = w') → True := fun _ _ _ _ => trivial
      cases below
      · have kp := fun w => tx.parse_r (c :: l) (by simp; omega) w
        change ∀ w, Calls _ _ #[.string (bs (c :: l))] w _ at kp
        simp only [Bool.false_eq_true, if_false, List.nil_append] at hXd
        clear htr hcut e45 hl0
        generalize parseE (c :: l) = pe at *
        generalize parseV (c :: l) = pv at *
        generalize bs (c :: l) = z at *
        have HX := Lib.hid hXd
        clear hXd
        have hpe : pe = 0 ∨ pe ≠ 0 := by omega
        rcases Nat.eq_zero_or_pos l.length with h0 | h0
        all_goals
          go_wp2_with fail
          refine (kp _).mono ?_
          rintro en w2 ⟨rfl, rfl⟩
          rcases hpe with rfl | hpe
          · go_wp2
            (try simp only [Exit.inBlock, Exit.then])
            have hA : Agree L X (.leaf 2 pv []) i nm 0 := by rw [HX.out, if_pos (by trivial)]; unfold Agree; exact ⟨rfl, rfl, rfl⟩
            exact Key.out pv 0 W1 nm hA p HR.out HF.out Hrb.out _ rfl
          · have hpe2 : (pe == 0) = false := by rw [beq_eq_false_iff_ne]; exact hpe
            have hA : Agree L X (.leaf 2 pv []) i nm 51 := by rw [HX.out, if_neg hpe]; unfold Agree; exact ⟨rfl, by omega⟩
            have HA := Lib.hid hA
            clear hA hpe
            go_wp2_with fail
            refine (fail_c HR.out tf 51).mono ?_
            rintro en w3 ⟨rfl, hR3, hF3⟩
            have hrb3 := keep hF3 HR.out (t := 25) (by decide) (by decide) _ _ _ Hrb.out
            have HF3 := Lib.hid (HF.out.trans hF3)
            have HR3 := Lib.hid hR3
            clear r0 r1 r2 r3 rf hR3 hF3
            obtain ⟨r0, r1, r2, r3, rf⟩ := cells4 hrb3
            have Hrb3 := Lib.hid hrb3
            clear hrb3
            go_wp2
            (try simp only [Exit.inBlock, Exit.then])
            exact Key.out pv 51 w3 nm HA.out tf HR3.out HF3.out Hrb3.out _ rfl
      · have kp := fun w => tx.parse_r (45 :: c :: l) (by simp; omega) w
        change ∀ w, Calls _ _ #[.string (bs (45 :: c :: l))] w _ at kp
        rw [← e45] at kp
        simp only [if_true, List.cons_append, List.nil_append] at hXd
        clear htr hcut e45 hl0
        generalize parseE (45 :: c :: l) = pe at *
        generalize parseV (45 :: c :: l) = pv at *
        generalize bs (c :: l) = z at *
        have HX := Lib.hid hXd
        clear hXd
        have hpe : pe = 0 ∨ pe ≠ 0 := by omega
        rcases Nat.eq_zero_or_pos l.length with h0 | h0
        all_goals
          go_wp2_with fail
          refine (kp _).mono ?_
          rintro en w2 ⟨rfl, rfl⟩
          rcases hpe with rfl | hpe
          · go_wp2
            (try simp only [Exit.inBlock, Exit.then])
            have hA : Agree L X (.leaf 2 pv []) i nm 0 := by rw [HX.out, if_pos (by trivial)]; unfold Agree; exact ⟨rfl, rfl, rfl⟩
            exact Key.out pv 0 W1 nm hA p HR.out HF.out Hrb.out _ rfl
          · have hpe2 : (pe == 0) = false := by rw [beq_eq_false_iff_ne]; exact hpe
            have hA : Agree L X (.leaf 2 pv []) i nm 51 := by rw [HX.out, if_neg hpe]; unfold Agree; exact ⟨rfl, by omega⟩
            have HA := Lib.hid hA
            clear hA hpe
            go_wp2_with fail
            refine (fail_c HR.out tf 51).mono ?_
            rintro en w3 ⟨rfl, hR3, hF3⟩
            have hrb3 := keep hF3 HR.out (t := 25) (by decide) (by decide) _ _ _ Hrb.out
            have HF3 := Lib.hid (HF.out.trans hF3)
            have HR3 := Lib.hid hR3
            clear r0 r1 r2 r3 rf hR3 hF3
            obtain ⟨r0, r1, r2, r3, rf⟩ := cells4 hrb3
            have Hrb3 := Lib.hid hrb3
            clear hrb3
            go_wp2
            (try simp only [Exit.inBlock, Exit.then])
            exact Key.out pv 51 w3 nm HA.out tf HR3.out HF3.out Hrb3.out _ rfl
end Go.Proofs.Ytjccohcigopdfaa.rr
end
section
/- The reference's reader: variable. -/
namespace Go.Proofs.Ytjccohcigopdfaa.rr
open Go.RowKit
open Go.Proofs.Ytjccohcigopdfaa.rd
open Go.Proofs.Ytjccohcigopdfaa.op (bs strC Both Tb)
open Go.Proofs.Ytjccohcigopdfaa.lx (Tok Tk tcell tcells cell_at)
set_option maxRecDepth 20000

theorem push_keep {r b i p k : Nat} {S : List UInt8} {tk nv v' : Value} {L : List Tok} {nm : List (List UInt8)} {W W2 : World} {t : List UInt8} (h : Rr r b S tk L i nv nm p k W) (hn : nm.length < i) {o : Obj}
    (hgr : (W.alloc o).grownBy W2 nv.ownBlock) (hown : W2.ownsRow b 9 1 v' (nm ++ [t]).length (strC ((nm ++ [t]).map bs))) :
    Rr r b S tk L i v' (nm ++ [t]) p k (W2.setCell ⟨r, 3, none⟩ v') ∧ Fr r b W (W2.setCell ⟨r, 3, none⟩ v') ∧ W2.cell? ⟨r, 3, none⟩ = some nv ∧ W2.frozen? ⟨r, 3, none⟩ = false := by
  have hnb : ∀ g, nv.ownBlock = some g → b ≤ g ∧ ∃ cs, W.heap[g]? = some (.cells cs 9 (0, 0)) := fun g hg => by
    rcases h.names.2 with ⟨h1, _⟩ | ⟨g', cap, cur, h1, h2, h3, _⟩
    · rw [h1] at hg; cases hg
    · rw [h1] at hg; cases hg; exact ⟨h2, cur, h3⟩
  have hal : ∀ k, k < W.heap.size → (W.alloc o).heap[k]? = W.heap[k]? := fun k hk => Lib.alloc_old W o k hk
  have hrlt := h.lt
  have hrb := h.rb
  have hF1 : Fr r b W W2 := ⟨hgr.os, hgr.tape, hgr.output, Nat.le_trans (by simp) hgr.size, fun k hk _ hs => (hgr.block k (by simp; omega) fun e => by
    obtain ⟨h1, cs, h2⟩ := hnb k e.symm
    rcases hs with hs | hs
    · omega
    · exact hs _ _ h2).trans (hal k hk)⟩
  have hr2 : W2.heap[r]? = some (.cells #[.string (bs S), tk, .int .i64 (i : Nat), nv, .int .i64 (p : Nat), .int .i64 (k : Nat)] 83 (0, 0)) :=
    ((hgr.block r (by simp; omega) fun e => by have := (hnb r e.symm).1; omega).trans (hal r hrlt)).trans h.blk
  have hF := hF1.set (p := ⟨r, 3, none⟩) (.inl rfl) v'
  refine ⟨⟨?_, own_kept h.toks (keep hF h (by decide) (by decide)), own_kept hown (kt_set hr2 (by decide)), h.le, by rw [List.length_append, List.length_singleton]; omega, both_low h.tb ((below hF h).mono h.lo), h.lo, h.rb, Nat.le_trans h.bz hF.size, h.good, h.mks, h.en⟩, hF, by rw [cell_at hr2]; rfl, by simp [World.frozen?, hr2]⟩
  rw [heap_set_at hr2]; rfl
def varQ (name : List UInt8) (s : St) : T × St :=
  if s.2.idxOf name = s.2.length ∨ name = [95] then (.leaf 1 (s.2.length : Nat) [], (s.1, s.2 ++ [name])) else (.leaf 1 (s.2.idxOf name : Nat) [], s)
theorem varP_eq (s : St) : varP s = varQ (nx s.1).text (s.1.tail, s.2) := rfl
theorem idx_first {nm : List (List UInt8)} {name : List UInt8} {j : Nat} (hj : j < nm.length) (h : nm[j] = name) (hn : ∀ m, (hm : m < j) → nm[m]'(by omega) ≠ name) : nm.idxOf name = j := by
  rw [List.idxOf, List.findIdx_eq hj]
  exact ⟨by simp [h], fun m hm => by simpa using hn m hm⟩
theorem idx_none {nm : List (List UInt8)} {name : List UInt8} (hn : ∀ m, (hm : m < nm.length) → nm[m] ≠ name) : nm.idxOf name = nm.length := by
  apply List.idxOf_eq_length
  intro h
  obtain ⟨m, hm, e⟩ := List.mem_iff_getElem.1 h
  exact hn m hm e
set_option maxHeartbeats 2000000 in
theorem variable_c {r b i p : Nat} {S : List UInt8} {tk nv : Value} {L : List Tok} {nm : List (List UInt8)} {w : World} (h : Rr r b S tk L i nv nm p 0 w) (hn : nm.length < i) (tx : List UInt8) :
    Calls Try.prog 89 #[.pointer (some ⟨r, 0, none⟩), .string (bs tx)] w (SQ r b S tk L i w (.ok (varQ tx ((ab L).drop i, nm)))) := by
  have hl := h.good.len
  have hle := h.le
  have hlt := h.lt
  obtain ⟨na, nc, rfl⟩ : ∃ a c, nv = .slice a nm.length c := by
    rcases h.names.2 with ⟨h1, h2⟩ | ⟨g', cap, cur, h1, _⟩
    · exact ⟨none, 0, by rw [h1, h2]⟩
    · exact ⟨_, _, h1⟩
  have hnb := name_beq tx
  generalize hX : varQ tx ((ab L).drop i, nm) = X
  have hX1 : nm.idxOf tx = nm.length ∨ tx = [95] → X = (.leaf 1 (nm.length : Nat) [], ((ab L).drop i, nm ++ [tx])) := fun e => by rw [← hX]; exact if_pos e
  have hX2 : ¬ (nm.idxOf tx = nm.length ∨ tx = [95]) → X = (.leaf 1 (nm.idxOf tx : Nat) [], ((ab L).drop i, nm)) := fun e => by rw [← hX]; exact if_neg e
  obtain ⟨W1, hW1⟩ : ∃ W1, w.alloc (.cells #[.int .i64 0, .int .i64 0, .string ⟨#[]⟩, .slice none 0 0] 25) = W1 := ⟨_, rfl⟩
  have hb1 : Below w.heap.size w W1 := by rw [← hW1]; exact (Below.refl _ w).alloc (Nat.le_refl _) _
  have hrb : W1.heap[w.heap.size]? = some (.cells #[.int .i64 0, .int .i64 0, .string ⟨#[]⟩, .slice none 0 0] 25 (0, 0)) := by rw [← hW1]; exact heap_alloc_new w _
  have hR := h.stay hb1
  obtain ⟨r0, r1, r2, r3, rf⟩ := cells4 hrb
  have c3 : W1.cell? ⟨r, 3, none⟩ = some (.slice na nm.length nc) := by rw [hR.cell]; rfl
  have hcell : ∀ j, (hj : j < nm.length) → ∃ g, na = some ⟨g, 0, none⟩ ∧ W1.cell? ⟨g, j, none⟩ = some (.string (bs nm[j])) := fun j hj => by
    rcases hR.names.2 with ⟨h1, h2⟩ | ⟨g', cap, cur, h1, _⟩
    · omega
    · cases h1
      refine ⟨g', rfl, ?_⟩
      have := World.ownsRow.cells hR.names (g := g') rfl j (.string (bs nm[j])) (by simp [strC, hj])
      rwa [op.addr_add] at this
  have HR := Lib.hid hR
  have HF := Lib.hid (Fr.of_below (r := r) (b := b) hb1)
  have Hrb := Lib.hid hrb
  have HX1 := Lib.hid hX1
  have HX2 := Lib.hid hX2
  have Hcell := Lib.hid hcell
  have hn1 : ¬ w.heap.size = r := by omega
  have hn2 : ¬ r = w.heap.size := by omega
  have hw1 : w.heap.size < W1.heap.size := lt_of hrb
  clear h hX hX1 hX2 hb1 hrb hR hcell
  go_enter Try.func89, Try.ntmps89
  go_wp2_with fail
  clear hW1
  go_loop [5] (fun v => ∃ j : Nat, v = .int .i64 j ∧ j ≤ nm.length ∧ Hid (tx = [95] ∨ ∀ m, (hm : m < j) → nm.getD m [] ≠ tx)) (fun v => nm.length - (intOf v).toNat)
  case atStart => exact ⟨0, rfl, by omega, Lib.hid (.inr fun m hm => absurd hm (Nat.not_lt_zero _))⟩
  case round =>
    obtain ⟨j, rfl, hj, hno⟩ := hrel
    by_cases hjl : j < nm.length
    · obtain ⟨g, hga, hcg⟩ := Hcell.out j hjl
      subst hga
      have hq : ((bs nm[j]).toList == (bs tx).toList) = decide (nm[j] = tx) := by
        rw [ByteArray.toList_eq, ByteArray.toList_eq]
        show (nm[j] == tx) = _
        by_cases h : nm[j] = tx <;> simp [h]
      by_cases he : nm[j] = tx
      · have hq2 : ((bs nm[j]).toList == (bs tx).toList) = true := by rw [hq]; simpa using he
        by_cases hu : tx = [95]
        · have hnb2 : ((bs tx).toList == [95]) = true := by rw [hnb]; simpa using hu
          clear hq hnb
          generalize bs nm[j] = z at *
          have Hno := Lib.hid (show tx = [95] ∨ ∀ m, (hm : m < j + 1) → nm.getD m [] ≠ tx from .inl hu)
          clear hu
          generalize bs tx = zt at *
          go_wp2
          exact ⟨⟨j + 1, by go_num, by omega, Hno⟩, by simp [intOf]; omega⟩
        · have hnb2 : ((bs tx).toList == [95]) = false := by rw [hnb]; simpa using hu
          have hix : nm.idxOf tx = j := idx_first hjl he fun m hm => by
            rcases hno.out with h | h
            · exact absurd h hu
            · have := h m hm
              simpa [show m < nm.length by omega] using this
          have hXe := Lib.hid (HX2.out (by rw [hix]; exact fun h => h.elim (fun h => by omega) hu))
          rw [hix] at hXe
          clear hq hnb hu
          generalize bs nm[j] = z at *
          generalize bs tx = zt at *
          go_wp2
          (try simp only [Exit.inBlock, Exit.then])
          refine fin_sq (D := fun _ => False) (t := .leaf 1 j []) rfl rfl HR.out HF.out Hrb.out (Nat.le_refl _) hlt (by rw [Rp]) (fun _ h => h.elim) (Nat.le_refl _) (k := 0) (by rw [hXe.out]; exact ⟨rfl, rfl, rfl⟩)
      · have hq2 : ((bs nm[j]).toList == (bs tx).toList) = false := by rw [hq]; simpa using he
        have hno2 := Lib.hid (show tx = [95] ∨ ∀ m, (hm : m < j + 1) → nm.getD m [] ≠ tx from by
          rcases hno.out with h | h
          · exact .inl h
          · right; intro m hm
            rcases Nat.lt_or_ge m j with h1 | h1
            · exact h m h1
            · obtain rfl : m = j := by omega
              simpa [hjl] using he)
        clear hq hnb
        generalize bs nm[j] = z at *
        generalize bs tx = zt at *
        go_wp2
        exact ⟨⟨j + 1, by go_num, by omega, hno2⟩, by simp [intOf]; omega⟩
    · obtain rfl : j = nm.length := by omega
      have hXe := Lib.hid (HX1.out (by
        rcases hno.out with h | h
        · exact .inr h
        · exact .inl (idx_none fun m hm => by simpa [hm] using h m hm)))
      clear hno hnb
      clear r0 r1 r2 r3 rf
      go_wp2_with (at_builtin; refine wpList_name rfl _ _ rfl b W1 (.slice na nm.length nc) nm tx rfl HR.out.names rfl (by omega) HR.out.bz ?bb)
      case bb =>
        intro g3 cap3 w3 hown3 hgr3
        obtain ⟨hRd, hFr, q3, qf⟩ := push_keep (t := tx) HR.out hn hgr3 (by rw [List.length_append, List.map_append]; exact hown3)
        have hrb3 := keep hFr HR.out (t := 25) (by decide) (by decide) _ _ _ Hrb.out
        have c33 : (w3.setCell ⟨r, 3, none⟩ (.slice (some ⟨g3, 0, none⟩) (nm.length + 1) cap3)).cell? ⟨r, 3, none⟩ = some (.slice (some ⟨g3, 0, none⟩) (nm.length + 1) cap3) := by rw [hRd.cell]; rfl
        have i2 : IntKind.i64.wrap (((nm.length + 1 : Nat) : Int) - 1) = (nm.length : Nat) := by rw [IntWalk.i64_in _ (by omega)]; omega
        have HRd := Lib.hid hRd
        have HFr := Lib.hid hFr
        obtain ⟨r0, r1, r2, r3, f0⟩ := cells4 hrb3
        have Hrb3 := Lib.hid hrb3
        clear hRd hFr hown3 hgr3 hrb3
        go_wp2
        (try simp only [Exit.inBlock, Exit.then])
        refine fin_sq (D := fun _ => False) (t := .leaf 1 nm.length []) rfl rfl HRd.out (HF.out.trans HFr.out) Hrb3.out (Nat.le_refl _) hlt (by rw [Rp]) (fun _ h => h.elim) (Nat.le_refl _) (k := 0) (by rw [hXe.out]; exact ⟨rfl, rfl, rfl⟩)
end Go.Proofs.Ytjccohcigopdfaa.rr
end
