/- The program's Subst$1: what stands for a variable.; The program's changed$1: a closure that calls itself.; The program's changed, Subst.; The reference's Subst.; A slice of bytes that comes in; the law's place. -/
import Derived.Test.YtjccohcigopdfaaQ28
import Derived.Shelf.Abstract
import Derived.Test.YtjccohcigopdfaaQ27
import Derived.ChangeSlices
set_option linter.unusedVariables false
set_option linter.unusedSimpArgs false
section
/- The program's Subst$1: what stands for a variable. -/
namespace Go.Proofs.Ytjccohcigopdfaa.tm
open Go.RowKit
open Go.Shelf
open Go.Proofs.Ytjccohcigopdfaa.wr
open Go.Proofs.Ytjccohcigopdfaa.rd
open Go.Proofs.Ytjccohcigopdfaa.op (bs strC)
open Go.Proofs.Ytjccohcigopdfaa.lx (cell_at)
open Go.Proofs.Ytjccohcigopdfaa.nm (Fit)
set_option maxRecDepth 20000

/-- what becomes of a variable -/
structure BecOk (F : Nat) (cb : Array Value) (X : World → Prop) (D : Nat → Prop) (g : U → U) : Prop where
  call : ∀ (u : U) (a : Value) (w : World), X w → RuD D w u a → u.k = 1 → Calls Try.prog F (#[uV u a] ++ cb) w (NuQ D (g u) w)
  keep : ∀ w w', X w → Below w.heap.size w w' → X w'
  enters : ∀ args w, (callFunc F args).run Try.prog w = .ok (.enter F args) w
def Lw (sb : Nat) (pv : Option Addr) (cv : Nat) (D : Nat → Prop) (L : List U) (w : World) : Prop :=
  w.heap[sb]? = some (.cells #[.slice pv L.length cv] 23 (0, 0)) ∧ RuD D w (.mk 4 0 [] L) (.slice pv L.length cv)
set_option maxHeartbeats 600000 in
theorem sub1_c (L : List U) (sb : Nat) (pv : Option Addr) (cv : Nat) (D : Nat → Prop) : BecOk 32 #[.pointer (some ⟨sb, 0, none⟩)] (Lw sb pv cv D L) D (gT L) where
  call u a w hX ha h1 := by
    obtain ⟨hs, hv⟩ := hX
    obtain ⟨p, cap, rfl, hfu⟩ := ha.one
    have hlt0 := lt_of hs
    obtain ⟨b0, b1, bz, bb⟩ := box2 w (.cells #[.int .i64 u.k, .int .i64 u.n, .string (bs u.s), .slice p u.l.length cap] 25) (.cells #[.int .i64 0, .int .i64 0, .string ⟨#[]⟩, .slice none 0 0] 25)
    obtain ⟨x0, x1, x2, x3, _⟩ := cells4 b0
    have hfr := fun j => frz (j := j) b1
    obtain ⟨y0, y1, y2, y3, _⟩ := cells4 b1
    have hs1 := (bb.block sb hlt0).trans hs
    have cs0 : w.cell? ⟨sb, 0, none⟩ = some (.slice pv L.length cv) := by rw [cell_at hs]; rfl
    have cs : ((w.alloc (.cells #[.int .i64 u.k, .int .i64 u.n, .string (bs u.s), .slice p u.l.length cap] 25)).alloc (.cells #[.int .i64 0, .int .i64 0, .string ⟨#[]⟩, .slice none 0 0] 25)).cell? ⟨sb, 0, none⟩ = some (.slice pv L.length cv) := by rw [cell_at hs1]; rfl
    obtain ⟨_, g1, _, gb⟩ := box2 w (.cells #[.int .i64 u.k, .int .i64 u.n, .string (bs u.s), .slice p u.l.length cap] 25) (.cells #[.int .i64 u.k, .int .i64 u.n, .string (bs u.s), .slice p u.l.length cap] 25)
    have HG1 := Lib.hid g1
    have HGb := Lib.hid gb
    have hA := Lib.hid ((ha.stay gb).imp (D' := fun k => D k ∨ w.heap.size ≤ k) fun _ _ h => .inl h)
    show Calls Try.prog _ #[_, _] w _
    by_cases hn : u.n < 0
    · have hgt : gT L u = u := by unfold gT; exact if_neg (fun h => by omega)
      rw [hgt]
      unfold uV
      clear hgt hs hv g1 gb ha b0 b1 bb hs1 h1
      go_enter Try.func32, Try.ntmps32
      go_wp2
      refine bodyPost_ret (ret_c4 rfl _ _ rfl HG1.out) rfl ?_
      exact ⟨_, rfl, hA.out, HGb.out⟩
    obtain ⟨i, hi⟩ := Int.eq_ofNat_of_zero_le (show 0 ≤ u.n by omega)
    by_cases hlt : i < L.length
    · obtain ⟨hLc, hcm, hat⟩ := (hv.imp (D' := fun k => D k ∧ k < w.heap.size) fun k hk hd => ⟨hd, hk⟩).at
      obtain ⟨g, o, q, c, hpe, hDg, d0, d1, d2, d3, hRx⟩ := hat i hlt
      change L.length ≤ cv at hLc
      change pv = _ at hpe
      change w.cell? _ = some (Value.int .i64 (L.getD i dfU).k) at d0
      change w.cell? _ = some (Value.int .i64 (L.getD i dfU).n) at d1
      change w.cell? _ = some (Value.string (bs (L.getD i dfU).s)) at d2
      change w.cell? _ = some (Value.slice q (L.getD i dfU).l.length c) at d3
      change RuD _ w (L.getD i dfU) (Value.slice q (L.getD i dfU).l.length c) at hRx
      subst hpe
      have hgl := hDg.2
      have hbg := bb.block g hgl
      have c0 := (World.cell?_of_block (a := ⟨g, o + i * 4, none⟩) hbg).trans d0
      have c1 := (World.cell?_of_block (a := ⟨g, o + i * 4 + 1, none⟩) hbg).trans d1
      have c2 := (World.cell?_of_block (a := ⟨g, o + i * 4 + 2, none⟩) hbg).trans d2
      have c3 := (World.cell?_of_block (a := ⟨g, o + i * 4 + 3, none⟩) hbg).trans d3
      have hgt : gT L u = if (L.getD i dfU).k ≠ 0 then L.getD i dfU else u := by
        unfold gT
        rw [hi, Int.toNat_natCast]
        by_cases hk : (L.getD i dfU).k ≠ 0
        · rw [if_pos hk, if_pos ⟨by omega, by omega, hk⟩]
        · rw [if_neg hk, if_neg (fun h => hk h.2.2)]
      obtain ⟨_, f1, _, fb⟩ := box2 w (.cells #[.int .i64 u.k, .int .i64 u.n, .string (bs u.s), .slice p u.l.length cap] 25) (.cells #[.int .i64 (L.getD i dfU).k, .int .i64 (L.getD i dfU).n, .string (bs (L.getD i dfU).s), .slice q (L.getD i dfU).l.length c] 25)
      have HF1 := Lib.hid f1
      have HFb := Lib.hid fb
      have hX := Lib.hid ((hRx.stay fb).imp (D' := fun k => D k ∨ w.heap.size ≤ k) fun _ _ h => .inl h.1)
      have hlt2 : ¬ ((L.length : Int) ≤ i) := by omega
      have hlt3 : (i : Int) < L.length := by omega
      have i4 : (0 : Int) ≤ (i : Int) := by omega
      have hng : ¬ ((i : Int) < 0) := by omega
      rw [hgt]
      clear hgt hRx hat hv g1 gb f1 fb ha b0 b1 bb d0 d1 d2 d3 hn hs hs1 hbg hfu h1
      generalize L.getD i dfU = x at *
      unfold uV
      have hu : uV u (.slice p u.l.length cap) = .agg #[.int .i64 u.k, .int .i64 i, .string (bs u.s), .slice p u.l.length cap] := by unfold uV; rw [hi]
      rw [hi] at c0 c1 c2 c3 HF1 HFb hX HG1 HGb hA cs x0 x1 x2 x3 y0 y1 y2 y3 hfr
      rw [hi]
      by_cases hk : x.k = 0
      · rw [if_neg (fun h => h hk)]
        have hk0 : (x.k == 0) = true := by simp [hk]
        go_enter Try.func32, Try.ntmps32
        go_wp2
        refine bodyPost_ret (ret_c4 rfl _ _ rfl HG1.out) rfl ?_
        exact ⟨_, congrArg _ hu.symm, hA.out, HGb.out⟩
      · rw [if_pos hk]
        have hk0 : (x.k == 0) = false := beq_eq_false_iff_ne.2 hk
        go_enter Try.func32, Try.ntmps32
        go_wp2
        refine bodyPost_ret (ret_c4 rfl _ _ rfl HF1.out) rfl ?_
        exact ⟨_, rfl, hX.out, HFb.out⟩
    · have hgt : gT L u = u := by
        unfold gT
        exact if_neg (fun h => hlt (by have := h.2.1; omega))
      have hlt2 : (L.length : Int) ≤ i := by omega
      have hng : ¬ ((i : Int) < 0) := by omega
      rw [hgt]
      clear hgt hs hv g1 gb ha b0 b1 bb hs1 hn hfu h1
      unfold uV
      have hu : uV u (.slice p u.l.length cap) = .agg #[.int .i64 u.k, .int .i64 i, .string (bs u.s), .slice p u.l.length cap] := by unfold uV; rw [hi]
      rw [hi] at HG1 HGb hA cs x0 x1 x2 x3 y0 y1 y2 y3 hfr
      rw [hi]
      go_enter Try.func32, Try.ntmps32
      go_wp2
      refine bodyPost_ret (ret_c4 rfl _ _ rfl HG1.out) rfl ?_
      exact ⟨_, congrArg _ hu.symm, hA.out, HGb.out⟩
  keep w w' h hb := ⟨(hb.block _ (lt_of h.1)).trans h.1, h.2.stay hb⟩
  enters := enters_of Try.func32 (by kernel_rfl) rfl
end Go.Proofs.Ytjccohcigopdfaa.tm
end
section
/- The program's changed$1: a closure that calls itself. -/
namespace Go.Proofs.Ytjccohcigopdfaa.tm
open Go.RowKit
open Go.Shelf
open Go.Proofs.Ytjccohcigopdfaa.wr
open Go.Proofs.Ytjccohcigopdfaa.rd
open Go.Proofs.Ytjccohcigopdfaa.op (bs strC)
open Go.Proofs.Ytjccohcigopdfaa.lx (cell_at)
open Go.Proofs.Ytjccohcigopdfaa.nm (Fit)
set_option maxRecDepth 20000

def chV (N M : Nat) : Value := .func (.func 48) #[] #[.pointer (some ⟨N, 0, none⟩), .pointer (some ⟨M, 0, none⟩)]
structure Ch (F : Nat) (cb : Array Value) (N M : Nat) (w : World) : Prop where
  bec : w.heap[N]? = some (.cells #[.func (.func F) #[] cb] 51 (0, 0))
  fn : w.heap[M]? = some (.cells #[chV N M] 51 (0, 0))
theorem Ch.stay {F : Nat} {cb : Array Value} {N M : Nat} {w w' : World} (h : Ch F cb N M w) (hb : Below w.heap.size w w') : Ch F cb N M w' :=
  ⟨(hb.block _ (lt_of h.bec)).trans h.bec, (hb.block _ (lt_of h.fn)).trans h.fn⟩
theorem st4_old (w : World) (g o : Nat) (a b c d : Value) {k : Nat} (hk : k ≠ g) : ((((w.setCell ⟨g, o, none⟩ a).setCell ⟨g, o + 1, none⟩ b).setCell ⟨g, o + 2, none⟩ c).setCell ⟨g, o + 3, none⟩ d).heap[k]? = w.heap[k]? := by
  rw [Below.heap_setCell _ _ _ _ hk, Below.heap_setCell _ _ _ _ hk, Below.heap_setCell _ _ _ _ hk, Below.heap_setCell _ _ _ _ hk]
theorem st4_below (w : World) (g o : Nat) (a b c d : Value) : Below g w ((((w.setCell ⟨g, o, none⟩ a).setCell ⟨g, o + 1, none⟩ b).setCell ⟨g, o + 2, none⟩ c).setCell ⟨g, o + 3, none⟩ d) :=
  ((((Below.refl g w).setCell (Nat.le_refl _) a).setCell (Nat.le_refl _) b).setCell (Nat.le_refl _) c).setCell (Nat.le_refl _) d
theorem take_rep {l m : List U} {y : U} {i n : Nat} (h : l = m.take i ++ List.replicate (n - i) u0) (hi : i < n) (hm : m.length = n) (hy : m[i]? = some y) : l.set i y = m.take (i + 1) ++ List.replicate (n - (i + 1)) u0 := by
  subst h
  rw [List.set_append, List.length_take, if_neg (by omega), List.take_add_one, hy, show n - i = (n - (i + 1)) + 1 by omega, List.replicate_succ, show i - min i m.length = 0 by omega]
  simp
section
variable {F : Nat} {cb : Array Value} {X : World → Prop} {D : Nat → Prop} {g : U → U} {N M : Nat}
abbrev ChOk (F : Nat) (cb : Array Value) (X : World → Prop) (D : Nat → Prop) (g : U → U) (N M : Nat) (u : U) : Prop :=
  ∀ (a : Value) (w : World), X w → Ch F cb N M w → RuD D w u a → szU u ≤ 100000 → clU u → Calls Try.prog 48 #[uV u a, .pointer (some ⟨N, 0, none⟩), .pointer (some ⟨M, 0, none⟩)] w (NuQ D (sbU g u) w)
theorem cl_at : ∀ {l : List U} {i : Nat}, clL l → i < l.length → clU (l.getD i dfU)
  | [], i, _, hi => absurd hi (Nat.not_lt_zero _)
  | u :: l, i, h, hi => by
    rw [clL] at h
    cases i with
    | zero => exact h.1
    | succ i => exact cl_at (l := l) h.2 (by simpa using hi)
set_option maxHeartbeats 600000 in
theorem ch_step (hB : BecOk F cb X D g) (hDN : ∀ k, D k → k < N) (u : U) (ih : ∀ i, i < u.l.length → ChOk F cb X D g N M (u.l.getD i dfU)) : ChOk F cb X D g N M u := by
  intro a w hX hE ha hz hcl
  obtain ⟨p, cap, rfl, hfu⟩ := ha.one
  have hltN := lt_of hE.bec
  have hltM := lt_of hE.fn
  obtain ⟨b0, b1, bz, bb⟩ := box2 w (.cells #[.int .i64 u.k, .int .i64 u.n, .string (bs u.s), .slice p u.l.length cap] 25) (.cells #[.int .i64 0, .int .i64 0, .string ⟨#[]⟩, .slice none 0 0] 25)
  obtain ⟨x0, x1, x2, x3, _⟩ := cells4 b0
  obtain ⟨y0, y1, y2, y3, _⟩ := cells4 b1
  have hnq := sbU_eq g u
  have hfr := fun j => frz (j := j) b1
  by_cases h1 : u.k = 1
  · rw [if_pos h1] at hnq
    rw [hnq]
    have hE1 := hE.stay bb
    have cN0 : w.cell? ⟨N, 0, none⟩ = some (.func (.func F) #[] cb) := by rw [cell_at hE.bec]; rfl
    have cN : ((w.alloc (.cells #[.int .i64 u.k, .int .i64 u.n, .string (bs u.s), .slice p u.l.length cap] 25)).alloc (.cells #[.int .i64 0, .int .i64 0, .string ⟨#[]⟩, .slice none 0 0] 25)).cell? ⟨N, 0, none⟩ = some (.func (.func F) #[] cb) := by rw [cell_at hE1.bec]; rfl
    have kc := hB.call u (.slice p u.l.length cap) _ (hB.keep _ _ hX bb) (ha.stay bb) h1
    have eg := hB.enters
    have e1 : (u.k == 1) = true := beq_iff_eq.2 h1
    have HB := Lib.hid bb
    have HB1 := Lib.hid b1
    have Hz := Lib.hid bz
    unfold uV at kc ⊢
    clear ha hE hE1 hX ih b0 b1 bb hnq hB h1 hcl hfu bz
    go_enter Try.func48, Try.ntmps48
    go_wp2_with fail
    refine kc.mono ?_
    rintro e w2 ⟨a2, rfl, hr2, hb2⟩
    obtain ⟨p2, c2, rfl, _⟩ := hr2.one
    have hb3 := (hb2.block (w.heap.size + 1) (lt_of HB1.out)).trans HB1.out
    obtain ⟨z0, z1, z2, z3, _⟩ := cells4 hb3
    have hfz := fun j => frz (j := j) hb3
    have HB3 := Lib.hid hb3
    have HR := Lib.hid hr2
    have HBB := Lib.hid (HB.out.trans (hb2.mono HB.out.size))
    have HDN := Lib.hid hDN
    clear kc hb3 hr2 hb2 cN cN0 x0 x1 x2 x3 y0 y1 y2 y3 hfr hDN
    generalize g u = y at *
    unfold uV
    go_wp2
    refine bodyPost_ret (ret_c4 rfl _ _ rfl (set4 _ _ _ _ HB3.out)) rfl ?_
    have hz := Hz.out
    exact ⟨_, rfl, HR.out.keep (fun k _ hd => set4_old _ _ _ _ _ _ (by rcases hd with h | h; (have := HDN.out k h; omega); omega)) (fun k _ hd => hd.elim .inl (fun h => .inr (by omega))), HBB.out.trans ((set4_below _ _ _ _ _ _).mono (by omega))⟩
  rw [if_neg h1] at hnq
  by_cases h4 : u.k = 4
  · rw [if_pos h4] at hnq
    rw [hnq]
    obtain ⟨hl', hl, hat⟩ := ha.at
    unfold maxLen at hl
    have hul : u.l.length ≤ 100000 := by have h5 := szUL_len u.l; have h6 := szU_eq u; rw [if_pos h4] at h6; omega
    have hn0 : u.n = 0 ∧ clL u.l := by
      rcases (cl_eq u).1 hcl with h | h | h | h
      · omega
      · omega
      · omega
      · exact h.2
    have hb3 := allocB ((w.alloc (.cells #[.int .i64 u.k, .int .i64 u.n, .string (bs u.s), .slice p u.l.length cap] 25)).alloc (.cells #[.int .i64 0, .int .i64 0, .string ⟨#[]⟩, .slice none 0 0] 25)) (.cells (ucs (zts u.l.length)).toArray 25)
    have b2 := heap_alloc_new ((w.alloc (.cells #[.int .i64 u.k, .int .i64 u.n, .string (bs u.s), .slice p u.l.length cap] 25)).alloc (.cells #[.int .i64 0, .int .i64 0, .string ⟨#[]⟩, .slice none 0 0] 25)) (.cells (ucs (zts u.l.length)).toArray 25)
    rw [bz] at b2
    have B0 := (hb3.block w.heap.size (by omega)).trans b0
    have B1 := (hb3.block (w.heap.size + 1) (by omega)).trans b1
    have hbb := bb.trans (hb3.mono bb.size)
    have hsz3 : (((w.alloc (.cells #[.int .i64 u.k, .int .i64 u.n, .string (bs u.s), .slice p u.l.length cap] 25)).alloc (.cells #[.int .i64 0, .int .i64 0, .string ⟨#[]⟩, .slice none 0 0] 25)).alloc (.cells (ucs (zts u.l.length)).toArray 25)).heap.size = w.heap.size + 3 := by rw [sizeA, bz]
    have HA := Lib.hid ha
    have HE := Lib.hid hE
    have HX := Lib.hid hX
    have HBc := Lib.hid hB
    have HDN := Lib.hid hDN
    have IH := Lib.hid ih
    have HB := Lib.hid hbb
    have HB0 := Lib.hid B0
    have HB1 := Lib.hid B1
    have HB2 : Hid (Mr (w.heap.size + 1 + 1) (zts u.l.length) _) := Lib.hid b2
    have hsp := Lib.hid (fun i (hi : i < u.l.length) => Nat.le_trans (Nat.le_of_lt (sz_part h4 hi)) hz)
    have hcp := Lib.hid (fun i (hi : i < u.l.length) => cl_at hn0.2 hi)
    have e1 : (u.k == 1) = false := beq_eq_false_iff_ne.2 h1
    have e4 : (u.k == 4) = true := beq_iff_eq.2 h4
    have H3 := Lib.hid hsz3
    have hmk := make_terms u.l.length hul
    have hun := Lib.hid hn0.1
    have hk4 := Lib.hid h4
    unfold uV
    clear ha hat ih b0 b1 b2 B0 B1 bb hb3 hbb hnq h1 h4 y0 y1 y2 y3 hz hsz3 hcl hn0 hX hE hB hDN
    go_enter Try.func48, Try.ntmps48
    go_wp2
    clear x0 x1 x2 x3 hfr hmk
    generalize World.alloc (World.alloc (World.alloc w _) _) _ = W at *
    go_loopg [24] u.l.length (fun k v24 wr => ∃ (i : Nat) (l : List (U × Value)), k = u.l.length - i ∧ i ≤ u.l.length ∧ v24 = .int .i64 i ∧ Hid (Below w.heap.size w wr) ∧ Hid (w.heap.size + 3 ≤ wr.heap.size) ∧ Hid (wr.heap[w.heap.size]? = W.heap[w.heap.size]?) ∧ Hid (wr.heap[w.heap.size + 1]? = W.heap[w.heap.size + 1]?) ∧
      Hid (Mr (w.heap.size + 1 + 1) l wr) ∧ Hid (∀ x ∈ l, RuD (fun k => D k ∨ w.heap.size + 3 ≤ k) wr x.1 x.2) ∧ Hid (l.map Prod.fst = (sbL g u.l).take i ++ List.replicate (u.l.length - i) u0))
    case atStart => exact ⟨0, zts u.l.length, by omega, by omega, rfl, HB, Lib.hid (by rw [H3.out]; exact Nat.le_refl _), Lib.hid rfl, Lib.hid rfl, HB2, Lib.hid (fun x hx => by rw [zts, List.mem_replicate] at hx; rw [hx.2]; unfold u0; rw [RuD]; exact ⟨none, 0, rfl, Nat.le_refl _, Nat.zero_le _, fit0, by rw [RusD]; trivial⟩), Lib.hid (by simp [zts])⟩
    case round =>
      obtain ⟨i, l, hgk, hi, rfl, HW, HZ, H0, H1, HM, HR, HL⟩ := hrel
      have hnl := sbL_len g u.l
      have hll : l.length = u.l.length := by have := congrArg List.length HL.out; rw [List.length_map, List.length_append, List.length_take, List.length_replicate, hnl] at this; omega
      have hb0 := H0.out.trans HB0.out
      have hb1 := H1.out.trans HB1.out
      by_cases hlt : i < u.l.length
      · have hlt2 : (i : Int) < u.l.length := by omega
        have i4 : (0 : Int) ≤ (i : Int) := by omega
        obtain ⟨_, _, hat⟩ := (HA.out.stay HW.out).at
        obtain ⟨ge, o, q, c, hpe, hDg, d0, d1, d2, d3, hRx⟩ := hat i hlt
        subst hpe
        have hba := allocB wr (.cells #[.int .i64 (u.l.getD i dfU).k, .int .i64 (u.l.getD i dfU).n, .string (bs (u.l.getD i dfU).s), .slice q (u.l.getD i dfU).l.length c] 25)
        have hE1 := HE.out.stay HW.out
        have kx := IH.out i hlt (.slice q (u.l.getD i dfU).l.length c) _ (HBc.out.keep _ _ HX.out (HW.out.trans (hba.mono (by have := HZ.out; omega)))) (hE1.stay hba) (hRx.stay hba) (hsp.out i hlt) (hcp.out i hlt)
        have cM0 : wr.cell? ⟨M, 0, none⟩ = some (chV N M) := by rw [cell_at hE1.fn]; rfl
        have cM : (wr.alloc (.cells #[.int .i64 (u.l.getD i dfU).k, .int .i64 (u.l.getD i dfU).n, .string (bs (u.l.getD i dfU).s), .slice q (u.l.getD i dfU).l.length c] 25)).cell? ⟨M, 0, none⟩ = some (chV N M) := by rw [cell_at (hE1.stay hba).fn]; rfl
        have hltM2 := lt_of hE1.fn
        have hix := Lib.hid (show (sbL g u.l)[i]? = some (sbU g (u.l.getD i dfU)) by rw [sbL_map, List.getElem?_map]; simp [hlt])
        have HBA := Lib.hid hba
        have Hll := Lib.hid hll
        have Hnl := Lib.hid hnl
        clear hRx hat hE1 hba hb0 hb1 hll hnl
        generalize sbU g (u.l.getD i dfU) = y at *
        generalize u.l.getD i dfU = x at *
        unfold uV at kx
        unfold chV at cM cM0
        go_wp2_with fail
        refine kx.mono ?_
        rintro en w3 ⟨a3, rfl, hr3, hb3⟩
        obtain ⟨p3, c3, rfl, _⟩ := hr3.one
        have hz3 := HZ.out
        have HB3 := Lib.hid (HBA.out.trans (hb3.mono HBA.out.size))
        have hM3 : Mr (w.heap.size + 1 + 1) l w3 := (HB3.out.block _ (by omega)).trans HM.out
        have hil : i < l.length := by rw [Hll.out]; exact hlt
        obtain ⟨m0, m1, m2, m3⟩ := hM3.cell hil
        have hfm := fun j => frz (j := j) (show w3.heap[w.heap.size + 1 + 1]? = _ from hM3)
        have HM3 := Lib.hid hM3
        have HR3 := Lib.hid hr3
        have hil2 := Lib.hid hil
        clear kx hr3 hb3 hM3 hz3 cM cM0 d0 d1 d2 d3
        unfold uV
        go_wp2
        go_roundg (u.l.length - (i + 1))
        case measure => omega
        case rel =>
          have hws := HB3.out.size
          have hz3 := HZ.out
          have hza := HBA.out.size
          refine ⟨i + 1, l.set i (y, .slice p3 y.l.length c3), rfl, by omega, by go_num, Lib.hid ?_, Lib.hid ?_, Lib.hid ?_, Lib.hid ?_, Lib.hid (HM3.out.set hil2.out y _), Lib.hid ?_, Lib.hid ?_⟩
          · exact (HW.out.trans (HB3.out.mono (by omega))).trans ((st4_below _ _ _ _ _ _ _).mono (by omega))
          · exact Nat.le_trans (by omega) (st4_below w3 (w.heap.size + 1 + 1) _ _ _ _ _).size
          · exact (st4_old _ _ _ _ _ _ _ (by omega)).trans ((HB3.out.block _ (by omega)).trans H0.out)
          · exact (st4_old _ _ _ _ _ _ _ (by omega)).trans ((HB3.out.block _ (by omega)).trans H1.out)
          · intro x hx
            rcases List.mem_or_eq_of_mem_set hx with h | h
            · exact (HR.out x h).keep (fun k hk hd => (st4_old _ _ _ _ _ _ _ (by rcases hd with h | h; (have := HDN.out k h; omega); omega)).trans (HB3.out.block k hk)) (fun _ _ h => h)
            · rw [h]
              exact HR3.out.keep (fun k hk hd => st4_old _ _ _ _ _ _ _ (by rcases hd with h | h; (have := HDN.out k h; omega); omega)) (fun k _ h => h.imp id (fun h => by omega))
          · rw [List.map_set]; exact take_rep HL.out hlt Hnl.out hix.out
      · have hlt2 : ¬ ((i : Int) < u.l.length) := by omega
        have hin : i = u.l.length := by omega
        have hml : l.map Prod.fst = sbL g u.l := by rw [HL.out, List.take_of_length_le (by omega), hin]; simp
        obtain ⟨x0, x1, x2, x3, _⟩ := cells4 hb0
        obtain ⟨y0, y1, y2, y3, _⟩ := cells4 hb1
        have hfx := fun j => frz (j := j) hb0
        have hfy := fun j => frz (j := j) hb1
        have Hb1 := Lib.hid ((Below.heap_setCell wr ⟨w.heap.size, 3, none⟩ (.slice (some ⟨w.heap.size + 1 + 1, 0, none⟩) u.l.length u.l.length) (w.heap.size + 1) (by show w.heap.size + 1 ≠ w.heap.size; omega)).trans hb1)
        have hr := HM.out.ruD (D := fun k => D k ∨ w.heap.size + 2 ≤ k) (k := 4) (n := 0) (s := u.s) (by omega) (.inr (by omega)) (fun x hx => (HR.out x hx).imp fun _ _ h => h.imp id (fun h => by omega)) fit0
        rw [hml, hll] at hr
        have HRR := Lib.hid hr
        have Hlt := Lib.hid (show w.heap.size + 3 ≤ wr.heap.size from HZ.out)
        clear hb0 hb1 hr hml hnl hll
        go_wp2
        refine bodyPost_ret (ret_c4 rfl _ _ rfl (set4 _ _ _ _ Hb1.out)) rfl ?_
        refine ⟨.slice (some ⟨w.heap.size + 1 + 1, 0, none⟩) u.l.length u.l.length, by unfold uV; rw [hk4.out, hun.out]; rfl, HRR.out.keep (fun k _ hd => (set4_old _ _ _ _ _ _ ?_).trans (Below.heap_setCell _ _ _ _ ?_)) (fun k _ hd => hd.imp id (fun h => by omega)), ?_⟩
        · rcases hd with h | h
          · have := HDN.out k h; omega
          · omega
        · show k ≠ w.heap.size
          rcases hd with h | h
          · have := HDN.out k h; omega
          · omega
        · exact (HW.out.setCell (Nat.le_refl _) _).trans ((set4_below _ _ _ _ _ _).mono (by simp))
  · rw [if_neg h4] at hnq
    rw [hnq]
    obtain ⟨_, g1, _, gb⟩ := box2 w (.cells #[.int .i64 u.k, .int .i64 u.n, .string (bs u.s), .slice p u.l.length cap] 25) (.cells #[.int .i64 u.k, .int .i64 u.n, .string (bs u.s), .slice p u.l.length cap] 25)
    have HG1 := Lib.hid g1
    have HGb := Lib.hid gb
    have e1 : (u.k == 1) = false := beq_eq_false_iff_ne.2 h1
    have e4 : (u.k == 4) = false := beq_eq_false_iff_ne.2 h4
    have hA := Lib.hid ((ha.stay gb).imp (D' := fun k => D k ∨ w.heap.size ≤ k) fun _ _ h => .inl h)
    unfold uV
    clear ha b0 b1 bb ih g1 gb hnq h1 h4 hB
    go_enter Try.func48, Try.ntmps48
    go_wp2
    refine bodyPost_ret (ret_c4 rfl _ _ rfl HG1.out) rfl ?_
    exact ⟨.slice p u.l.length cap, rfl, hA.out, HGb.out⟩
theorem ch_c (hB : BecOk F cb X D g) (hDN : ∀ k, D k → k < N) (u : U) : ChOk F cb X D g N M u := all_parts (P := ChOk F cb X D g N M) (fun u ih => ch_step hB hDN u ih) u
end
end Go.Proofs.Ytjccohcigopdfaa.tm
end
section
/- The program's changed, Subst. -/
namespace Go.Proofs.Ytjccohcigopdfaa.tm
open Go.RowKit
open Go.Shelf
open Go.Proofs.Ytjccohcigopdfaa.wr
open Go.Proofs.Ytjccohcigopdfaa.rd
open Go.Proofs.Ytjccohcigopdfaa.op (bs strC)
open Go.Proofs.Ytjccohcigopdfaa.lx (cell_at)
open Go.Proofs.Ytjccohcigopdfaa.nm (Fit)
set_option maxRecDepth 20000

set_option maxHeartbeats 600000 in
theorem changed_c {F : Nat} {cb : Array Value} {X : World → Prop} {D : Nat → Prop} {g : U → U} (hB : BecOk F cb X D g) (u : U) (a : Value) (w : World) (hX : X w) (hDw : ∀ k, D k → k < w.heap.size) (ha : RuD D w u a) (hz : szU u ≤ 4000) (hcl : clU u) :
    Calls Try.prog 31 #[uV u a, .func (.func F) #[] cb] w (NuQ D (sbU g u) w) := by
  obtain ⟨p, cap, rfl, hfu⟩ := ha.one
  have hst0 := store_fn
  have hmf : ∀ (fn : Fn) (first cap : Array Value) (w : World), (Instr.makeFunc fn first cap).run Try.prog w = .ok (.func fn first cap) w := fun _ _ _ _ => rfl
  obtain ⟨b0, b1, bz, bb⟩ := box2 w (.cells #[.int .i64 u.k, .int .i64 u.n, .string (bs u.s), .slice p u.l.length cap] 25) (.cells #[.func (.func F) #[] cb] 51)
  have hb3 := allocB ((w.alloc (.cells #[.int .i64 u.k, .int .i64 u.n, .string (bs u.s), .slice p u.l.length cap] 25)).alloc (.cells #[.func (.func F) #[] cb] 51)) (.cells #[.int .i64 0, .int .i64 0, .string ⟨#[]⟩, .slice none 0 0] 25)
  have b2 := heap_alloc_new ((w.alloc (.cells #[.int .i64 u.k, .int .i64 u.n, .string (bs u.s), .slice p u.l.length cap] 25)).alloc (.cells #[.func (.func F) #[] cb] 51)) (.cells #[.int .i64 0, .int .i64 0, .string ⟨#[]⟩, .slice none 0 0] 25)
  rw [bz] at b2
  have B0 := (hb3.block w.heap.size (by omega)).trans b0
  have B1 := (hb3.block (w.heap.size + 1) (by omega)).trans b1
  have hbb := bb.trans (hb3.mono bb.size)
  have hsz3 : (((w.alloc (.cells #[.int .i64 u.k, .int .i64 u.n, .string (bs u.s), .slice p u.l.length cap] 25)).alloc (.cells #[.func (.func F) #[] cb] 51)).alloc (.cells #[.int .i64 0, .int .i64 0, .string ⟨#[]⟩, .slice none 0 0] 25)).heap.size = w.heap.size + 3 := by rw [sizeA, bz]
  have ks := size_c (u := u) (a := .slice p u.l.length cap) (ha.stay hbb).any hz
  have HX := Lib.hid hX
  have HA := Lib.hid ha
  have HB := Lib.hid hbb
  have HB0 := Lib.hid B0
  have HB1 := Lib.hid B1
  have HB2 := Lib.hid b2
  have HBc := Lib.hid hB
  have HDw := Lib.hid hDw
  have H3 := Lib.hid hsz3
  have Hcl := Lib.hid hcl
  have Hz := Lib.hid hz
  obtain ⟨x0, x1, x2, x3, _⟩ := cells4 B0
  have hng : ¬ (4000 : Int) < (szU u : Nat) := by omega
  unfold uV at ks ⊢
  clear hX ha b0 b1 b2 B0 B1 bb hb3 hbb hB hDw hz hcl hsz3
  go_enter Try.func31, Try.ntmps31
  go_wp2_with fail
  refine ks.mono ?_
  rintro e w2 ⟨rfl, hb2⟩
  clear ks x0 x1 x2 x3
  generalize World.alloc (World.alloc (World.alloc w _) _) _ = W at *
  have hz3 := H3.out
  have hb0 := (hb2.block w.heap.size (by omega)).trans HB0.out
  have hb1 := (hb2.block (w.heap.size + 1) (by omega)).trans HB1.out
  have hbz := (hb2.block (w.heap.size + 1 + 1) (by omega)).trans HB2.out
  have HW2 := Lib.hid (HB.out.trans (hb2.mono HB.out.size))
  have hsz2 := hb2.size
  have hba := allocB w2 (.cells #[chV (w.heap.size + 1) w2.heap.size] 51)
  have HWa := Lib.hid (HW2.out.trans (hba.mono HW2.out.size))
  have hfn := heap_alloc_new w2 (.cells #[chV (w.heap.size + 1) w2.heap.size] 51)
  have kx := ch_c (N := w.heap.size + 1) (M := w2.heap.size) HBc.out (fun k hk => by have := HDw.out k hk; omega) u (.slice p u.l.length cap) _ (HBc.out.keep _ _ HX.out HWa.out) ⟨(hba.block _ (by omega)).trans hb1, hfn⟩ (HA.out.stay HWa.out) (Nat.le_trans Hz.out (by decide)) Hcl.out
  have HZ := Lib.hid ((hba.block _ (by omega)).trans hbz)
  have ca : (w2.alloc (.cells #[chV (w.heap.size + 1) w2.heap.size] 51)).cell? ⟨w2.heap.size, 0, none⟩ = some (chV (w.heap.size + 1) w2.heap.size) := by rw [cell_at hfn]; rfl
  obtain ⟨x0, x1, x2, x3, _⟩ := cells4 hb0
  have Hsz := Lib.hid (show w.heap.size + 3 ≤ w2.heap.size by omega)
  have hl0 : w.heap.size < w2.heap.size := by omega
  unfold uV at kx
  unfold chV at kx ca HWa HZ
  clear hb0 hb1 hbz hba hfn hb2 hsz2 hz3
  go_wp2_with fail
  refine kx.mono ?_
  rintro e w3 ⟨a3, rfl, hr3, hb3⟩
  obtain ⟨p3, c3, rfl, _⟩ := hr3.one
  have hb1 := (hb3.block _ (lt_of HZ.out)).trans HZ.out
  obtain ⟨z0, z1, z2, z3, _⟩ := cells4 hb1
  have hfz := fun j => frz (j := j) hb1
  have HZ3 := Lib.hid hb1
  have HR := Lib.hid hr3
  have HBB := Lib.hid (HWa.out.trans (hb3.mono HWa.out.size))
  have Hle := Lib.hid (HWa.out.size)
  have Hal := Lib.hid (sizeA w2 (.cells #[.func (.func 48) #[] #[.pointer (some ⟨w.heap.size + 1, 0, none⟩), .pointer (some ⟨w2.heap.size, 0, none⟩)]] 51))
  clear kx hb1 hr3 hb3 x0 x1 x2 x3 ca
  generalize sbU g u = y at *
  unfold uV
  go_wp2
  refine bodyPost_ret (ret_c4 rfl _ _ rfl (set4 _ _ _ _ HZ3.out)) rfl ?_
  have h1 := Hal.out
  have h2 := Hsz.out
  refine ⟨_, rfl, HR.out.keep (fun k _ hd => set4_old _ _ _ _ _ _ ?_) (fun k _ hd => hd.elim .inl (fun h => .inr (by omega))), HBB.out.trans ((set4_below _ _ _ _ _ _).mono (by omega))⟩
  rcases hd with h | h
  · have := HDw.out k h; omega
  · omega
set_option maxHeartbeats 600000 in
theorem subst_c {D : Nat → Prop} (L : List U) (u : U) (a : Value) (pv : Option Addr) (cv : Nat) (w : World) (ha0 : RuD D w u a) (hz : szU u ≤ 4000) (hcl : clU u) (hv : RuD D w (.mk 4 0 [] L) (.slice pv L.length cv)) :
    Calls Try.prog 10 #[uV u a, .slice pv L.length cv] w (NuQ D (sbU (gT L) u) w) := by
  have ha := ha0.imp (D' := fun k => D k ∧ k < w.heap.size) fun k hk hd => ⟨hd, hk⟩
  have hv := hv.imp (D' := fun k => D k ∧ k < w.heap.size) fun k hk hd => ⟨hd, hk⟩
  obtain ⟨p, cap, rfl, hfu⟩ := ha.one
  have hst0 := store_fn
  have hmf : ∀ (fn : Fn) (first cap : Array Value) (w : World), (Instr.makeFunc fn first cap).run Try.prog w = .ok (.func fn first cap) w := fun _ _ _ _ => rfl
  obtain ⟨b0, b1, bz, bb⟩ := box2 w (.cells #[.int .i64 u.k, .int .i64 u.n, .string (bs u.s), .slice p u.l.length cap] 25) (.cells #[.slice pv L.length cv] 23)
  have hb3 := allocB ((w.alloc (.cells #[.int .i64 u.k, .int .i64 u.n, .string (bs u.s), .slice p u.l.length cap] 25)).alloc (.cells #[.slice pv L.length cv] 23)) (.cells #[.int .i64 0, .int .i64 0, .string ⟨#[]⟩, .slice none 0 0] 25)
  have b2 := heap_alloc_new ((w.alloc (.cells #[.int .i64 u.k, .int .i64 u.n, .string (bs u.s), .slice p u.l.length cap] 25)).alloc (.cells #[.slice pv L.length cv] 23)) (.cells #[.int .i64 0, .int .i64 0, .string ⟨#[]⟩, .slice none 0 0] 25)
  rw [bz] at b2
  have B0 := (hb3.block w.heap.size (by omega)).trans b0
  have B1 := (hb3.block (w.heap.size + 1) (by omega)).trans b1
  have hbb := bb.trans (hb3.mono bb.size)
  have hsz3 : (((w.alloc (.cells #[.int .i64 u.k, .int .i64 u.n, .string (bs u.s), .slice p u.l.length cap] 25)).alloc (.cells #[.slice pv L.length cv] 23)).alloc (.cells #[.int .i64 0, .int .i64 0, .string ⟨#[]⟩, .slice none 0 0] 25)).heap.size = w.heap.size + 3 := by rw [sizeA, bz]
  have kx := changed_c (sub1_c L (w.heap.size + 1) pv cv (fun k => D k ∧ k < w.heap.size)) u (.slice p u.l.length cap) _ ⟨B1, hv.stay hbb⟩ (fun k hk => by have := hk.2; omega) (ha.stay hbb) hz hcl
  have HB := Lib.hid hbb
  have HB2 := Lib.hid b2
  have H3 := Lib.hid hsz3
  obtain ⟨x0, x1, x2, x3, _⟩ := cells4 B0
  unfold uV at kx ⊢
  clear hv ha ha0 b0 b1 b2 B0 B1 bb hb3 hbb hz hcl hsz3 hfu
  go_enter Try.func10, Try.ntmps10
  go_wp2_with fail
  refine kx.mono ?_
  rintro e w3 ⟨a3, rfl, hr3, hb3⟩
  obtain ⟨p3, c3, rfl, _⟩ := hr3.one
  have hz3 := H3.out
  have hb1 := (hb3.block (w.heap.size + 1 + 1) (by omega)).trans HB2.out
  obtain ⟨z0, z1, z2, z3, _⟩ := cells4 hb1
  have hfz := fun j => frz (j := j) hb1
  have HZ3 := Lib.hid hb1
  have HR := Lib.hid hr3
  have HBB := Lib.hid (HB.out.trans (hb3.mono HB.out.size))
  clear kx hb1 hr3 hb3 x0 x1 x2 x3 hz3
  generalize sbU (gT L) u = y at *
  unfold uV
  go_wp2
  refine bodyPost_ret (ret_c4 rfl _ _ rfl (set4 _ _ _ _ HZ3.out)) rfl ?_
  have h2 := H3.out
  refine ⟨_, rfl, HR.out.keep (fun k _ hd => set4_old _ _ _ _ _ _ ?_) (fun k _ hd => hd.imp (fun h => h.1) (fun h => by omega)), HBB.out.trans ((set4_below _ _ _ _ _ _).mono (by omega))⟩
  rcases hd with h | h
  · have := h.2; omega
  · omega
end Go.Proofs.Ytjccohcigopdfaa.tm
end
section
/- The reference's Subst. -/
namespace Go.Proofs.Ytjccohcigopdfaa.tm
open Go.RowKit
open Go.Proofs.Ytjccohcigopdfaa.wr
open Go.Proofs.Ytjccohcigopdfaa.rd
open Go.Proofs.Ytjccohcigopdfaa.op (bs strC)
open Go.Proofs.Ytjccohcigopdfaa.lx (cell_at)
open Go.Proofs.Ytjccohcigopdfaa.nm (Fit)
set_option maxRecDepth 20000

abbrev RsOk (L : List U) (u : U) : Prop := ∀ (a : Value) (pv : Option Addr) (cv : Nat) (D : Nat → Prop) (w : World), RuD D w u a → szU u ≤ 100000 → (∀ n ∈ vsU u, 0 ≤ n) → RuD D w (.mk 4 0 [] L) (.slice pv L.length cv) →
  Calls Try.prog 12 #[uV u a, .slice pv L.length cv] w (NuQ D (sbU (gT L) u) w)
theorem vs_at : ∀ {l : List U} {i : Nat}, i < l.length → ∀ n ∈ vsU (l.getD i dfU), n ∈ vsL l
  | [], i, hi, _, _ => absurd hi (Nat.not_lt_zero _)
  | u :: l, i, hi, n, hn => by
    rw [vsL]
    cases i with
    | zero => exact List.mem_append_left _ hn
    | succ i => exact List.mem_append_right _ (vs_at (by simpa using hi) n (by simpa using hn))
set_option maxHeartbeats 600000 in
theorem rs_step (L : List U) (u : U) (ih : ∀ i, i < u.l.length → RsOk L (u.l.getD i dfU)) : RsOk L u := by
  intro a pv cv D w ha hz hvs hv
  obtain ⟨p, cap, rfl, hfu⟩ := ha.one
  have hLl := hv.at
  obtain ⟨b0, b1, bz, bb⟩ := box2 w (.cells #[.int .i64 u.k, .int .i64 u.n, .string (bs u.s), .slice p u.l.length cap] 25) (.cells #[.int .i64 0, .int .i64 0, .string ⟨#[]⟩, .slice none 0 0] 25)
  obtain ⟨x0, x1, x2, x3, _⟩ := cells4 b0
  obtain ⟨y0, y1, y2, y3, _⟩ := cells4 b1
  have hnq := sbU_eq (gT L) u
  by_cases h1 : u.k = 1
  · rw [if_pos h1] at hnq
    rw [hnq]
    have hn0 : 0 ≤ u.n := hvs u.n (by rw [vsU_eq, if_pos h1]; exact List.mem_singleton.2 rfl)
    have e1 : (u.k == 1) = true := beq_iff_eq.2 h1
    obtain ⟨_, g1, _, gb⟩ := box2 w (.cells #[.int .i64 u.k, .int .i64 u.n, .string (bs u.s), .slice p u.l.length cap] 25) (.cells #[.int .i64 u.k, .int .i64 u.n, .string (bs u.s), .slice p u.l.length cap] 25)
    have HG1 := Lib.hid g1
    have HGb := Lib.hid gb
    have hA := Lib.hid ((ha.stay gb).imp (D' := fun k => D k ∨ w.heap.size ≤ k) fun _ _ h => .inl h)
    obtain ⟨i, hi⟩ := Int.eq_ofNat_of_zero_le hn0
    by_cases hlt : i < L.length
    · obtain ⟨hLc, hcm, hat⟩ := (hv.imp (D' := fun k => D k ∧ k < w.heap.size) fun k hk hd => ⟨hd, hk⟩).at
      obtain ⟨g, o, q, c, hpe, hDg, d0, d1, d2, d3, hRx⟩ := hat i hlt
      change L.length ≤ cv at hLc
      change pv = _ at hpe
      change w.cell? _ = some (Value.int .i64 (L.getD i dfU).k) at d0
      change w.cell? _ = some (Value.int .i64 (L.getD i dfU).n) at d1
      change w.cell? _ = some (Value.string (bs (L.getD i dfU).s)) at d2
      change w.cell? _ = some (Value.slice q (L.getD i dfU).l.length c) at d3
      change RuD _ w (L.getD i dfU) (Value.slice q (L.getD i dfU).l.length c) at hRx
      subst hpe
      have hgl := hDg.2
      have hbg := bb.block g hgl
      have c0 := (World.cell?_of_block (a := ⟨g, o + i * 4, none⟩) hbg).trans d0
      have c1 := (World.cell?_of_block (a := ⟨g, o + i * 4 + 1, none⟩) hbg).trans d1
      have c2 := (World.cell?_of_block (a := ⟨g, o + i * 4 + 2, none⟩) hbg).trans d2
      have c3 := (World.cell?_of_block (a := ⟨g, o + i * 4 + 3, none⟩) hbg).trans d3
      have hgt : gT L u = if (L.getD i dfU).k ≠ 0 then L.getD i dfU else u := by
        unfold gT
        rw [hi, Int.toNat_natCast]
        by_cases hk : (L.getD i dfU).k ≠ 0
        · rw [if_pos hk, if_pos ⟨by omega, by omega, hk⟩]
        · rw [if_neg hk, if_neg (fun h => hk h.2.2)]
      obtain ⟨_, f1, _, fb⟩ := box2 w (.cells #[.int .i64 u.k, .int .i64 u.n, .string (bs u.s), .slice p u.l.length cap] 25) (.cells #[.int .i64 (L.getD i dfU).k, .int .i64 (L.getD i dfU).n, .string (bs (L.getD i dfU).s), .slice q (L.getD i dfU).l.length c] 25)
      have HF1 := Lib.hid f1
      have HFb := Lib.hid fb
      have hX := Lib.hid ((hRx.stay fb).imp (D' := fun k => D k ∨ w.heap.size ≤ k) fun _ _ h => .inl h.1)
      have hlt2 : (i : Int) < L.length := by omega
      have i4 : (0 : Int) ≤ (i : Int) := by omega
      rw [hgt]
      clear hgt hRx hat hLl hv hvs ih hnq g1 gb f1 fb ha b0 b1 bb d0 d1 d2 d3 hn0
      generalize L.getD i dfU = x at *
      unfold uV
      have hu : uV u (.slice p u.l.length cap) = .agg #[.int .i64 1, .int .i64 i, .string (bs u.s), .slice p u.l.length cap] := by unfold uV; rw [h1, hi]
      rw [h1, hi] at c0 c1 c2 c3 HF1 HFb hX HG1 HGb hA
      rw [h1, hi]
      clear x0 x1 x2 x3 y0 y1 y2 y3 e1
      by_cases hk : x.k = 0
      · rw [if_neg (fun h => h hk)]
        have hk0 : (x.k != 0) = false := by simp [hk]
        go_enter Try.func12, Try.ntmps12
        go_wp2
        refine bodyPost_ret (ret_c4 rfl _ _ rfl HG1.out) rfl ?_
        exact ⟨_, congrArg _ hu.symm, hA.out, HGb.out⟩
      · rw [if_pos hk]
        have hk0 : (x.k != 0) = true := bne_iff_ne.2 hk
        go_enter Try.func12, Try.ntmps12
        go_wp2
        refine bodyPost_ret (ret_c4 rfl _ _ rfl HF1.out) rfl ?_
        exact ⟨_, rfl, hX.out, HFb.out⟩
    · have hgt : gT L u = u := by
        unfold gT
        exact if_neg (fun h => hlt (by have := h.2.1; omega))
      have hlt2 : ¬ ((i : Int) < L.length) := by omega
      have hf : (decide ((i : Int) < L.length)) = false := decide_eq_false hlt2
      rw [hgt]
      clear hgt hLl hv hvs ih hnq g1 gb ha b0 b1 bb hn0
      unfold uV
      have hu : uV u (.slice p u.l.length cap) = .agg #[.int .i64 1, .int .i64 i, .string (bs u.s), .slice p u.l.length cap] := by unfold uV; rw [h1, hi]
      rw [h1, hi] at HG1 HGb hA
      rw [h1, hi]
      clear x0 x1 x2 x3 y0 y1 y2 y3 e1
      go_enter Try.func12, Try.ntmps12
      go_wp2
      refine bodyPost_ret (ret_c4 rfl _ _ rfl HG1.out) rfl ?_
      exact ⟨_, congrArg _ hu.symm, hA.out, HGb.out⟩
  rw [if_neg h1] at hnq
  by_cases h4 : u.k = 4
  · rw [if_pos h4] at hnq
    rw [hnq]
    obtain ⟨hl', hl, hat⟩ := ha.at
    unfold maxLen at hl
    have hb3 := allocB ((w.alloc (.cells #[.int .i64 u.k, .int .i64 u.n, .string (bs u.s), .slice p u.l.length cap] 25)).alloc (.cells #[.int .i64 0, .int .i64 0, .string ⟨#[]⟩, .slice none 0 0] 25)) (.cells #[.int .i64 4, .int .i64 0, .string (bs u.s), .slice none 0 0] 25)
    have b2 := heap_alloc_new ((w.alloc (.cells #[.int .i64 u.k, .int .i64 u.n, .string (bs u.s), .slice p u.l.length cap] 25)).alloc (.cells #[.int .i64 0, .int .i64 0, .string ⟨#[]⟩, .slice none 0 0] 25)) (.cells #[.int .i64 4, .int .i64 0, .string (bs u.s), .slice none 0 0] 25)
    rw [bz] at b2
    have B0 := (hb3.block w.heap.size (by omega)).trans b0
    have B1 := (hb3.block (w.heap.size + 1) (by omega)).trans b1
    have hbb := bb.trans (hb3.mono bb.size)
    have hsz3 : (((w.alloc (.cells #[.int .i64 u.k, .int .i64 u.n, .string (bs u.s), .slice p u.l.length cap] 25)).alloc (.cells #[.int .i64 0, .int .i64 0, .string ⟨#[]⟩, .slice none 0 0] 25)).alloc (.cells #[.int .i64 4, .int .i64 0, .string (bs u.s), .slice none 0 0] 25)).heap.size = w.heap.size + 3 := by rw [sizeA, bz]
    have HA := Lib.hid (ha.imp (D' := fun k => D k ∧ k < w.heap.size) fun k hk hd => ⟨hd, hk⟩)
    have HV := Lib.hid (hv.imp (D' := fun k => D k ∧ k < w.heap.size) fun k hk hd => ⟨hd, hk⟩)
    have HVs := Lib.hid (show ∀ n ∈ vsL u.l, 0 ≤ n from fun n hn => hvs n (by rw [vsU_eq, if_neg h1, if_pos h4]; exact hn))
    have IH := Lib.hid ih
    have HB := Lib.hid hbb
    have HB0 := Lib.hid B0
    have HB1 := Lib.hid B1
    have HB2 := Lib.hid b2
    have hsp := Lib.hid (fun i (hi : i < u.l.length) => Nat.le_trans (Nat.le_of_lt (sz_part h4 hi)) hz)
    have e1 : (u.k == 1) = false := beq_eq_false_iff_ne.2 h1
    have e4 : (u.k != 4) = false := by simp [h4]
    have H3 := Lib.hid hsz3
    have hul : u.l.length ≤ 100000 := by have h5 := szUL_len u.l; have h6 := szU_eq u; rw [if_pos h4] at h6; omega
    unfold uV
    clear ha hat hv hvs hLl ih b0 b1 b2 B0 B1 bb hb3 hbb hnq h1 h4 y0 y1 y2 y3 hz hsz3
    go_enter Try.func12, Try.ntmps12
    go_wp2
    clear x0 x1 x2 x3
    generalize World.alloc (World.alloc (World.alloc w _) _) _ = W at *
    go_loopg [6] u.l.length (fun k v6 wr => ∃ (i : Nat) (v : Value) (l : List (U × Value)), k = u.l.length - i ∧ i ≤ u.l.length ∧ v6 = .int .i64 i ∧ Hid (Below w.heap.size w wr) ∧ Hid (wr.heap[w.heap.size]? = W.heap[w.heap.size]?) ∧ Hid (wr.heap[w.heap.size + 1]? = W.heap[w.heap.size + 1]?) ∧
      Hid (wr.heap[w.heap.size + 1 + 1]? = some (.cells #[.int .i64 4, .int .i64 0, .string (bs u.s), v] 25 (0, 0))) ∧ Hid (Uw (fun k => (D k ∧ k < w.heap.size) ∨ w.heap.size + 3 ≤ k) (w.heap.size + 3) wr v l) ∧ Hid (l.map Prod.fst = (sbL (gT L) u.l).take i))
    case atStart => exact ⟨0, _, [], by omega, by omega, rfl, HB, Lib.hid rfl, Lib.hid rfl, HB2, Lib.hid Uw.none', Lib.hid (by simp)⟩
    case round =>
      obtain ⟨i, v, l, hgk, hi, rfl, HW, H0, H1, H2, HU, HM⟩ := hrel
      have hb2 := H2.out
      obtain ⟨x0, x1, x2, x3, _⟩ := cells4 (H0.out.trans HB0.out)
      obtain ⟨z0, z1, z2, z3, _⟩ := cells4 hb2
      have hfz := fun j => frz (j := j) hb2
      clear hb2
      by_cases hlt : i < u.l.length
      · have hlt2 : (i : Int) < u.l.length := by omega
        have i4 : (0 : Int) ≤ (i : Int) := by omega
        obtain ⟨_, _, hat⟩ := (HA.out.stay HW.out).at
        obtain ⟨g, o, q, c, hpe, hDg, d0, d1, d2, d3, hRx⟩ := hat i hlt
        subst hpe
        have hgl := hDg.2
        obtain ⟨px, cx, rfl⟩ : ∃ px cx, v = .slice px l.length cx := by obtain ⟨p, c, h, _⟩ := HU.out.shape; exact ⟨p, c, h⟩
        have hws := HW.out.size
        have hz3 : w.heap.size + 1 + 1 < wr.heap.size := lt_of H2.out
        have kx := fun n => IH.out i hlt (.slice q (u.l.getD i dfU).l.length c) _ _ (fun k => D k ∧ k < w.heap.size) (wr.drewN n) (hRx.stay (dN _ _ n)) (hsp.out i hlt) (fun n hn => HVs.out n (vs_at hlt n hn)) (HV.out.stay (HW.out.trans (dN _ _ n)))
        have hown := Lib.hid (fun j => HU.out.lt j)
        have hbk : Hid (∀ w2, Kv (.slice px l.length cx) wr w2 → w2.cell? ⟨w.heap.size, 3, none⟩ = some (.slice (some ⟨g, o, none⟩) u.l.length cap) ∧ w2.cell? ⟨g, o + i * 4, none⟩ = some (.int .i64 (u.l.getD i dfU).k) ∧ w2.cell? ⟨g, o + i * 4 + 1, none⟩ = some (.int .i64 (u.l.getD i dfU).n) ∧ w2.cell? ⟨g, o + i * 4 + 2, none⟩ = some (.string (bs (u.l.getD i dfU).s)) ∧
            w2.cell? ⟨g, o + i * 4 + 3, none⟩ = some (.slice q (u.l.getD i dfU).l.length c) ∧ w2.cell? ⟨w.heap.size + 1 + 1, 3, none⟩ = some (.slice px l.length cx)) := Lib.hid fun w2 h => by
          have e1 := h w.heap.size (by omega) (fun e => by have := (hown.out _ e).1; omega)
          have e2 := h g (by omega) (fun e => by have := (hown.out _ e).1; omega)
          have e3 := h (w.heap.size + 1 + 1) (by omega) (fun e => by have := (hown.out _ e).1; omega)
          exact ⟨(World.cell?_of_block (a := ⟨w.heap.size, 3, none⟩) e1).trans x3, (World.cell?_of_block (a := ⟨g, o + i * 4, none⟩) e2).trans d0, (World.cell?_of_block (a := ⟨g, o + i * 4 + 1, none⟩) e2).trans d1, (World.cell?_of_block (a := ⟨g, o + i * 4 + 2, none⟩) e2).trans d2,
            (World.cell?_of_block (a := ⟨g, o + i * 4 + 3, none⟩) e2).trans d3, (World.cell?_of_block (a := ⟨w.heap.size + 1 + 1, 3, none⟩) e3).trans z3⟩
        have hbf : Hid (∀ w2, Kv (.slice px l.length cx) wr w2 → w2.heap[w.heap.size + 1 + 1]? = some (.cells #[.int .i64 4, .int .i64 0, .string (bs u.s), .slice px l.length cx] 25 (0, 0))) := Lib.hid fun w2 h => (h (w.heap.size + 1 + 1) (by omega) (fun e => by have := (hown.out _ e).1; omega)).trans H2.out
        have hll : l.length = i := by have := congrArg List.length HM.out; rw [List.length_map, List.length_take, sbL_len] at this; omega
        have Hll := Lib.hid hll
        have hpr : Hid (∀ k, ((D k ∧ k < w.heap.size) ∨ wr.heap.size ≤ k) → ((D k ∧ k < w.heap.size) ∨ w.heap.size + 3 ≤ k) ∧ (Value.slice px l.length cx).ownBlock ≠ some k) := Lib.hid fun k hk => ⟨hk.imp id (fun h => by omega), fun e => by have h1 := hown.out k e; rcases hk with h | h <;> omega⟩
        have hfew : Hid (l.length ≤ 1000000) := Lib.hid (by omega)
        have hlow : Hid (w.heap.size + 3 ≤ wr.heap.size) := Lib.hid (by omega)
        have hix := Lib.hid (show (sbL (gT L) u.l)[i]? = some (sbU (gT L) (u.l.getD i dfU)) by rw [sbL_map, List.getElem?_map]; simp [hlt])
        clear hRx hat hDg hfz hll
        generalize sbU (gT L) (u.l.getD i dfU) = y at *
        generalize u.l.getD i dfU = x at *
        unfold uV at kx
        go_wp2_with fail
        obtain ⟨s0, s1, s2, s3, s4, s5⟩ := hbk.out wr (fun _ _ _ => rfl)
        go_region_law (first
          | (refine step_nx rfl (.tmp 45) (.tmp 53) rfl (D := fun k => (D k ∧ k < w.heap.size) ∨ w.heap.size + 3 ≤ k) (B := w.heap.size + 3) (wr := wr) (v0 := .slice px l.length cx) (l := l) (by assumption) (by simp [Act.eval]) (by simp [Act.eval]) ?_; intro g9 c9 w9 HU9 HK9 HB9; have hf9 := frz (j := 3) (hbf.out w9 HK9.out); obtain ⟨_, _, _, _, _, hc9⟩ := hbk.out w9 HK9.out)
          | (go_simp; (refine (kx _).mono ?_); rintro en w5 ⟨a5, rfl, hr5, hb5⟩; have HKv : Hid (Kv (.slice px l.length cx) wr w5) := Lib.hid (fun j hj _ => hb5.block j hj); obtain ⟨t0, t1, t2, t3, t4, t5⟩ := hbk.out w5 HKv.out; have t6 := alloc_cell (o := .cells #[.int .i64 y.k, .int .i64 y.n, .string (bs y.s), a5] 25) t5 (Nat.lt_of_lt_of_le hz3 hb5.size); have HNx : Hid (Nx (fun k => (D k ∧ k < w.heap.size) ∨ w.heap.size + 3 ≤ k) (w.heap.size + 3) wr w5 (.slice px l.length cx) l y a5) := Lib.hid ⟨HU.out.stay ((dN _ _ _).trans hb5), hr5.imp (fun k hk hd => hpr.out k hd), hfew.out, hlow.out, (dN _ _ _).trans hb5⟩; clear hr5 hb5))
        all_goals
          clear kx s0 s1 s2 s3 s4 s5 t0 t1 t2 t3 t4 t5 t6 d0 d1 d2 d3
          go_wp2
          go_roundg (u.l.length - (i + 1))
          case measure => omega
          case rel =>
            refine ⟨i + 1, .slice (some ⟨g9, 0, none⟩) (l.length + 1) c9, l ++ [(y, a5)], rfl, by omega, by go_num, Lib.hid ?_, Lib.hid ?_, Lib.hid ?_, Lib.hid ?_, Lib.hid ?_, Lib.hid ?_⟩
            rotate_left 3
            · rw [heap_set_at (hbf.out w9 HK9.out)]; rfl
            · have h1 := HU9.out.keepB (w' := w9.setCell ⟨w.heap.size + 1 + 1, 3, none⟩ (.slice (some ⟨g9, 0, none⟩) (l.length + 1) c9)) fun k hk => Below.heap_setCell _ _ _ _ (by show k ≠ w.heap.size + 1 + 1; rcases hk with h | h | h <;> omega)
              exact h1
            · rw [List.map_append, HM.out, List.take_add_one, hix.out]; rfl
            · exact HW.out.trans ((HB9.out.mono (by omega)).setCell (by show w.heap.size ≤ w.heap.size + 1 + 1; omega) _)
            · exact (Below.heap_setCell _ _ _ _ (by show w.heap.size ≠ w.heap.size + 1 + 1; omega)).trans ((HB9.out.block _ (by omega)).trans H0.out)
            · exact (Below.heap_setCell _ _ _ _ (by show w.heap.size + 1 ≠ w.heap.size + 1 + 1; omega)).trans ((HB9.out.block _ (by omega)).trans H1.out)
      · have hlt2 : ¬ ((i : Int) < u.l.length) := by omega
        have hnl := sbL_len (gT L) u.l
        have hml : l.map Prod.fst = sbL (gT L) u.l := by rw [HM.out, List.take_of_length_le (by omega)]
        obtain ⟨px, cx, rfl⟩ : ∃ px cx, v = .slice px l.length cx := by obtain ⟨p, c, h, _⟩ := HU.out.shape; exact ⟨p, c, h⟩
        have hb1 := H1.out.trans HB1.out
        obtain ⟨y0, y1, y2, y3, _⟩ := cells4 hb1
        have hfy := fun j => frz (j := j) hb1
        have Hb1 := Lib.hid hb1
        have hr := HU.out.ruD (k := 4) (n := 0) (s := u.s) fit0
        rw [hml] at hr
        have HR := Lib.hid hr
        clear hb1 hr hnl hml
        go_wp2
        refine bodyPost_ret (ret_c4 rfl _ _ rfl (set4 _ _ _ _ Hb1.out)) rfl ?_
        exact ⟨.slice px l.length cx, rfl, HR.out.keep (fun k _ hd => set4_old _ _ _ _ _ _ (by rcases hd with (h | h) | h <;> omega)) (fun k _ hd => hd.elim (fun h => h.elim (fun h => .inl h.1) (fun h => .inr (by omega))) (fun h => .inr (by omega))), HW.out.trans ((set4_below _ _ _ _ _ _).mono (by omega))⟩
  · rw [if_neg h4] at hnq
    rw [hnq]
    obtain ⟨_, g1, _, gb⟩ := box2 w (.cells #[.int .i64 u.k, .int .i64 u.n, .string (bs u.s), .slice p u.l.length cap] 25) (.cells #[.int .i64 u.k, .int .i64 u.n, .string (bs u.s), .slice p u.l.length cap] 25)
    have HG1 := Lib.hid g1
    have HGb := Lib.hid gb
    have hfr := fun j => frz (j := j) b1
    have e1 : (u.k == 1) = false := beq_eq_false_iff_ne.2 h1
    have e4 : (u.k != 4) = true := bne_iff_ne.2 h4
    have hA := Lib.hid ((ha.stay gb).imp (D' := fun k => D k ∨ w.heap.size ≤ k) fun _ _ h => .inl h)
    unfold uV
    clear ha b0 b1 bb ih hv hvs hLl g1 gb hnq h1 h4
    go_enter Try.func12, Try.ntmps12
    go_wp2
    refine bodyPost_ret (ret_c4 rfl _ _ rfl HG1.out) rfl ?_
    exact ⟨.slice p u.l.length cap, rfl, hA.out, HGb.out⟩
theorem rsubst_c (L : List U) (u : U) : RsOk L u := all_parts (P := RsOk L) (fun u ih => rs_step L u ih) u
end Go.Proofs.Ytjccohcigopdfaa.tm
end
section
/- A slice of bytes that comes in; the law's place. -/
namespace Go.Proofs.Ytjccohcigopdfaa.tm
open Go.RowKit
open Go.ChangeShapes
open Go.Proofs.Ytjccohcigopdfaa.wr
open Go.Proofs.Ytjccohcigopdfaa.rd
open Go.Proofs.Ytjccohcigopdfaa.op (bs strC)
open Go.Proofs.Ytjccohcigopdfaa.lx (cell_at)
open Go.Proofs.Ytjccohcigopdfaa.nm (Fit)
set_option maxRecDepth 20000

/-- the slice at a holds these bytes -/
def URow (w : World) (a : Option Addr) (cap : Nat) (z : List Nat) : Prop :=
  z.length ≤ cap ∧ cap ≤ maxLen ∧ (∀ x ∈ z, x ≤ 255) ∧ ∀ i (_ : i < z.length), ∃ x, a = some x ∧ x.block < w.heap.size ∧ w.cell? (x.add i) = some (.int .u8 (z.getD i 0 : Nat))
section
variable {H : Type} {enc : TypeId × Value → H} {P : Program} {w : World}
theorem urow_of {t e : TypeId} {v : Value} {d : DataW H} {p : List MemPlace} {a : Option Addr} {len cap : Nat} (ht : P.underlying t = some (.slice e)) (he : P.underlying e = some (.int .u8)) (hc : P.cellsOf e = 1) (hv : v = .slice a len cap)
    (h : DataW.Trod enc P w 0 (fun _ => true) true t v d p) : ∃ z : List Nat, z.length = len ∧ URow w a cap z := by
  subst hv
  obtain ⟨fuel, hf⟩ := h
  rcases open_ints ht he hc hf with ⟨hcs, _⟩ | ⟨ad, len', cap', zs, hcs, hb, hl, hm, hn, _, hcell, hwf⟩
  · simp [Value.cells] at hcs
    obtain ⟨rfl, rfl, rfl⟩ := hcs
    exact ⟨[], rfl, Nat.le_refl _, Nat.zero_le _, (fun x hx => nomatch hx), fun i hi => absurd hi (Nat.not_lt_zero _)⟩
  · simp [Value.cells] at hcs
    obtain ⟨rfl, rfl, rfl⟩ := hcs
    simp only [if_true] at hn
    have e1 : IntKind.u8.min = 0 := rfl
    have e2 : IntKind.u8.max = 255 := rfl
    have hr : ∀ n ∈ zs, 0 ≤ n ∧ n ≤ 255 := fun n hx => by have := hwf n hx; simpa [Lit.wf, e1, e2] using this
    refine ⟨(zs.take len).map Int.toNat, by rw [List.length_map, List.length_take]; omega, by rw [List.length_map, List.length_take]; omega, hm, fun x hx => ?_, fun i hi => ?_⟩
    · obtain ⟨n, hn1, rfl⟩ := List.mem_map.1 hx
      have := hr n (List.mem_of_mem_take hn1)
      omega
    · rw [List.length_map, List.length_take] at hi
      have hc := hcell i (by omega)
      refine ⟨ad, rfl, by have h := World.block_lt_of_cell? w _ hc; unfold Addr.add at h; split at h <;> exact h, ?_⟩
      rw [hc]
      have hiz : i < zs.length := by omega
      have := hr zs[i] (List.getElem_mem hiz)
      simp [hiz, show i < len by omega]
      omega
end

/-- these bytes as integers -/
def toI (z : List Nat) : List Int := z.map fun x => ((x : Nat) : Int)
theorem toI_len (z : List Nat) : (toI z).length = z.length := List.length_map _
theorem toI_at (z : List Nat) (i : Nat) : (toI z).getD i 0 = (z.getD i 0 : Nat) := by
  unfold toI
  by_cases h : i < z.length
  · simp [h]
  · simp [h]
theorem lplace_c {a : Option Addr} {cap : Nat} {z : List Nat} {n : Int} {w0 w : World} (hn : 0 ≤ n) (hn2 : n ≤ 1000) (hz : URow w0 a cap z) (hb : Below w0.heap.size w0 w) :
    Calls Try.prog 15 #[.int .i64 n, .slice a z.length cap] w fun e w' => e = .returned (.int .i64 (sgI (toI z) n)) ∧ w' = w := by
  obtain ⟨i, rfl⟩ := Int.eq_ofNat_of_zero_le hn
  have hlc := hz.1
  have hcm := hz.2.1
  unfold maxLen at hcm
  have hsg : sgI (toI z) (i : Int) = if i < z.length then ((z.getD i 0 : Nat) : Int) else i := by
    unfold sgI
    rw [toI_len, Int.toNat_natCast, toI_at]
    by_cases h : i < z.length
    · rw [if_pos h, if_pos ⟨by omega, by omega⟩]
    · rw [if_neg h, if_neg (fun k => h (by have := k.2; omega))]
  rw [hsg]
  by_cases hlt : i < z.length
  · rw [if_pos hlt]
    have hlt2 : (i : Int) < z.length := by omega
    have i4 : (0 : Int) ≤ (i : Int) := by omega
    obtain ⟨x, rfl, hxb, hc⟩ := hz.2.2.2 i hlt
    have hx255 := hz.2.2.1 (z.getD i 0) (by simp [hlt])
    have hc2 := (hb.cell (World.block_lt_of_cell? w0 _ hc)).trans hc
    clear hc hsg hz hb
    generalize z.getD i 0 = e at *
    go_enter Try.func15, Try.ntmps15
    go_wp2
    go_ret
    exact ⟨rfl, rfl⟩
  · rw [if_neg hlt]
    have hlt2 : ¬ ((i : Int) < z.length) := by omega
    clear hsg hz hb
    go_enter Try.func15, Try.ntmps15
    go_wp2
    go_ret
    exact ⟨rfl, rfl⟩
/-- no two of the first i are sent to one -/
def Sg (σ : Int → Int) (l : List Int) (i k : Nat) : Prop := ∀ i' k', i' < l.length → k' < i' → (i' < i ∨ (i' = i ∧ k' < k)) → σ (l.getD i' 0) ≠ σ (l.getD k' 0)
theorem sg_inj {σ : Int → Int} {l : List Int} (hn : l.Nodup) : Sg σ l l.length 0 ↔ InjO σ l := by
  constructor
  · intro h a ha b hb e
    obtain ⟨i, hi, rfl⟩ := List.getElem_of_mem ha
    obtain ⟨j, hj, rfl⟩ := List.getElem_of_mem hb
    have ei : l.getD i 0 = l[i] := by simp [hi]
    have ej : l.getD j 0 = l[j] := by simp [hj]
    rcases Nat.lt_trichotomy i j with h1 | h1 | h1
    · exact absurd (by rw [ei, ej]; exact e.symm) (h j i hj h1 (.inl hj))
    · subst h1; rfl
    · exact absurd (by rw [ei, ej]; exact e) (h i j hi h1 (.inl hi))
  · intro h i k hi hk _ e
    have ei : l.getD i 0 = l[i] := by simp [hi]
    have ek : l.getD k 0 = l[k]'(by omega) := by simp [show k < l.length by omega]
    have h1 := h _ (List.getElem_mem hi) _ (List.getElem_mem (by omega : k < l.length)) (by rw [ei, ek] at e; exact e)
    have p1 := posI_at hn hi
    have p2 := posI_at hn (i := k) (by omega)
    rw [h1, p2] at p1
    omega
theorem sg_step {σ : Int → Int} {l : List Int} {i k : Nat} : Sg σ l i (k + 1) ↔ Sg σ l i k ∧ (i < l.length → k < i → σ (l.getD i 0) ≠ σ (l.getD k 0)) := by
  constructor
  · intro h
    exact ⟨fun i' k' h1 h2 h3 => h i' k' h1 h2 (by omega), fun h1 h2 => h i k h1 h2 (.inr ⟨rfl, by omega⟩)⟩
  · intro ⟨h, h4⟩ i' k' h1 h2 h3
    by_cases he : i' = i ∧ k' = k
    · obtain ⟨rfl, rfl⟩ := he
      exact h4 h1 h2
    · exact h i' k' h1 h2 (by omega)
theorem sg_row {σ : Int → Int} {l : List Int} {i : Nat} : Sg σ l i i ↔ Sg σ l (i + 1) 0 := by
  constructor
  · intro h i' k' h1 h2 h3
    exact h i' k' h1 h2 (by omega)
  · intro h i' k' h1 h2 h3
    exact h i' k' h1 h2 (by omega)
theorem sg_0 {σ : Int → Int} {l : List Int} : Sg σ l 0 0 := fun i' k' h1 h2 h3 => by omega
theorem vars_nodup (u : U) : (varsU u).Nodup := addVs_nodup _ List.nodup_nil
theorem ruV (D : Nat → Prop) (w : World) (n : Int) (hf : Fit n) : RuD D w (vrU n) (.slice none 0 0) := by
  unfold vrU
  rw [RuD]
  exact ⟨none, 0, rfl, Nat.le_refl _, Nat.zero_le _, hf, by rw [RusD]; trivial⟩
end Go.Proofs.Ytjccohcigopdfaa.tm
end
