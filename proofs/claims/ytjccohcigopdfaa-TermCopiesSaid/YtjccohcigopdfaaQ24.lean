/- The law's own one: a term that a text tells.; The law TermSizes.; cmp.Compare of integers and strings; the reference's order, texts.; The reference's Compare.; The program's Compare: the method, slices.CompareFunc over it. -/
import Derived.Test.YtjccohcigopdfaaQ23
import Derived.Test.YtjccohcigopdfaaQ22
import Derived.Test.YtjccohcigopdfaaQ16
set_option linter.unusedVariables false
set_option linter.unusedSimpArgs false
section
/- The law's own one: a term that a text tells. -/
namespace Go.Proofs.Ytjccohcigopdfaa.tm
open Go.RowKit
open Go.Proofs.Ytjccohcigopdfaa.wr
open Go.Proofs.Ytjccohcigopdfaa.rd
open Go.Proofs.Ytjccohcigopdfaa.rr
open Go.Proofs.Ytjccohcigopdfaa.op (bs strC Both bs_data)
open Go.Proofs.Ytjccohcigopdfaa.lx (cell_at toksD)
open Go.Proofs.Ytjccohcigopdfaa.nm (Fit)
set_option maxRecDepth 20000

theorem uV_emb (t : T) (a : Value) : uV (emb t) a = .agg #[.int .i64 (t.k : Nat), .int .i64 t.n, .string (bs t.s), a] := by show Value.agg #[_, _, _, _] = _; rw [emb_k, emb_n, emb_s]
theorem ret_ct {fn : Func} {p u : Tmp} (h : fn.results = #[.cell p 25, .tmp u]) (tmps : Array Value) (w : World) {g : Nat} {a b c d : Value} (hp : tmps.getD p undef = .pointer (some ⟨g, 0, none⟩)) (hg : w.heap[g]? = some (.cells #[a, b, c, d] 25 (0, 0))) :
    (results fn tmps).run Try.prog w = .ok (.tuple #[.agg #[a, b, c, d], tmps.getD u undef]) w := by
  have hp' : tmps[p]?.getD undef = .pointer (some ⟨g, 0, none⟩) := by simpa using hp
  simp [results, h, hp', asAddr, run_loadVar_row w g 25 25 _ _ _ hg Try.underlying25 rfl term_info, Result.andThen]
theorem cells5' {W : World} {g : Nat} {t : TypeId} {a b c d e : Value} (h : W.heap[g]? = some (.cells #[a, b, c, d, e] t (0, 0))) :
    W.cell? ⟨g, 0, none⟩ = some a ∧ W.cell? ⟨g, 1, none⟩ = some b ∧ W.cell? ⟨g, 2, none⟩ = some c ∧ W.cell? ⟨g, 3, none⟩ = some d ∧ W.cell? ⟨g, 4, none⟩ = some e := by
  refine ⟨?_, ?_, ?_, ?_, ?_⟩ <;> (rw [cell_at h]; rfl)
theorem set4 {w : World} {g : Nat} {t : TypeId} {x0 x1 x2 x3 : Value} (a b c d : Value) (h : w.heap[g]? = some (.cells #[x0, x1, x2, x3] t (0, 0))) :
    ((((w.setCell ⟨g, 0, none⟩ a).setCell ⟨g, 1, none⟩ b).setCell ⟨g, 2, none⟩ c).setCell ⟨g, 3, none⟩ d).heap[g]? = some (.cells #[a, b, c, d] t (0, 0)) := by
  rw [heap_set_at (heap_set_at (heap_set_at (heap_set_at h)))]; rfl
theorem set4_below (w : World) (g : Nat) (a b c d : Value) : Below g w ((((w.setCell ⟨g, 0, none⟩ a).setCell ⟨g, 1, none⟩ b).setCell ⟨g, 2, none⟩ c).setCell ⟨g, 3, none⟩ d) :=
  ((((Below.refl g w).setCell (Nat.le_refl _) a).setCell (Nat.le_refl _) b).setCell (Nat.le_refl _) c).setCell (Nat.le_refl _) d
theorem set4_old (w : World) (g : Nat) (a b c d : Value) {k : Nat} (hk : k ≠ g) : ((((w.setCell ⟨g, 0, none⟩ a).setCell ⟨g, 1, none⟩ b).setCell ⟨g, 2, none⟩ c).setCell ⟨g, 3, none⟩ d).heap[k]? = w.heap[k]? := by
  rw [Below.heap_setCell _ _ _ _ hk, Below.heap_setCell _ _ _ _ hk, Below.heap_setCell _ _ _ _ hk, Below.heap_setCell _ _ _ _ hk]
theorem set4_size (w : World) (g : Nat) (a b c d : Value) : ((((w.setCell ⟨g, 0, none⟩ a).setCell ⟨g, 1, none⟩ b).setCell ⟨g, 2, none⟩ c).setCell ⟨g, 3, none⟩ d).heap.size = w.heap.size := by simp [World.setCell]
/-- the zero term -/
def u0 : U := .mk 0 0 [] []
theorem ru0 (W : World) : Ru W.heap.size W u0 (.slice none 0 0) := by unfold u0; rw [Ru]; exact ⟨none, 0, rfl, Nat.le_refl _, Nat.zero_le _, fit0, by rw [Rus]; trivial⟩
def OneQ (w : World) (e : Ending) (w' : World) : Prop :=
  ∃ (u : U) (a : Value) (ok : Bool), e = .returned (.tuple #[uV u a, .bool ok]) ∧ Ru w'.heap.size w' u a ∧ (ok = true → Rd1 u) ∧ Below w.heap.size w w'
set_option maxHeartbeats 1000000 in
theorem one_c (s : ByteArray) (w : World) (hz : s.size ≤ 9223372036854775807) : Calls Try.prog 8 #[.string s] w (OneQ w) := by
  have hb0 := heap_alloc_new w (.cells #[.int .i64 0, .int .i64 0, .string ⟨#[]⟩, .slice none 0 0] 25)
  have hB := allocB w (.cells #[.int .i64 0, .int .i64 0, .string ⟨#[]⟩, .slice none 0 0] 25)
  by_cases hl : s.size ≤ 1024
  · have h1 : ¬ (1024 : Int) < (s.size : Int) := by omega
    have k1 := rone_c s (w.alloc (.cells #[.int .i64 0, .int .i64 0, .string ⟨#[]⟩, .slice none 0 0] 25)) trivial (Nat.zero_le _) (by omega)
    have hOk := Lib.hid (fun x => one_z (l := s.data.toList) (x := x))
    have hEr := Lib.hid (fun k => one_err (l := s.data.toList) (k := k))
    generalize oneP s.data.toList = X at *
    have HB := Lib.hid hB
    have HB0 := Lib.hid hb0
    clear hB hb0 hz
    go_enter Try.func8, Try.ntmps8
    go_wp2_with fail
    refine k1.mono ?_
    clear k1
    rcases X with k | x
    · rintro e w1 ⟨z, rfl, hb⟩
      have hk0 := hEr.out k rfl
      have HB1 := Lib.hid (HB.out.trans (hb.mono HB.out.size))
      have hbx := heap_alloc_new w1 (.cells #[.int .i64 0, .int .i64 0, .string ⟨#[]⟩, .slice none 0 0, .slice none 0 0] 44)
      have hb2 := allocB w1 (.cells #[.int .i64 0, .int .i64 0, .string ⟨#[]⟩, .slice none 0 0, .slice none 0 0] 44)
      obtain ⟨c0, c1, c2, c3, _⟩ := cells5' hbx
      have hr0 := (hb2.block w.heap.size (by have := hb.size; rw [sizeA] at this; omega)).trans ((hb.block w.heap.size (by rw [sizeA]; omega)).trans HB0.out)
      have e2 : ((k : Int) == 0) = false := beq_eq_false_iff_ne.2 (by omega)
      have HB2 := Lib.hid (HB1.out.trans (hb2.mono HB1.out.size))
      have Hr0 := Lib.hid hr0
      have f0 := fun j => (show (w1.alloc (.cells #[.int .i64 0, .int .i64 0, .string ⟨#[]⟩, .slice none 0 0, .slice none 0 0] 44)).frozen? ⟨w.heap.size, j, none⟩ = false by simp [World.frozen?, Hr0.out])
      obtain ⟨q0, q1, q2, q3, _⟩ := cells4 hr0
      clear hbx hb2 hr0 hb hOk hEr hk0
      go_wp2
      refine bodyPost_ret (ret_ct rfl _ _ rfl (set4 _ _ _ _ Hr0.out)) rfl ?_
      refine ⟨u0, .slice none 0 0, false, rfl, ru0 _, fun h => (by cases h), HB2.out.trans (set4_below _ _ _ _ _ _)⟩
    · rintro e w1 ⟨a, nvs, rfl, hH, hb⟩
      obtain ⟨hz1, hfx⟩ := hOk.out x rfl
      have hru := ru_emb hH.1 hfx
      obtain ⟨p, m, c, rfl⟩ := hH.1.shape
      obtain ⟨q, n, d, rfl⟩ := own_shape hH.2
      have HB1 := Lib.hid (HB.out.trans (hb.mono HB.out.size))
      have hbx := heap_alloc_new w1 (.cells #[.int .i64 (x.1.k : Nat), .int .i64 x.1.n, .string (bs x.1.s), .slice p m c, .slice q n d] 44)
      have hb2 := allocB w1 (.cells #[.int .i64 (x.1.k : Nat), .int .i64 x.1.n, .string (bs x.1.s), .slice p m c, .slice q n d] 44)
      obtain ⟨c0, c1, c2, c3, _⟩ := cells5' hbx
      have hr0 := (hb2.block w.heap.size (by have := hb.size; rw [sizeA] at this; omega)).trans ((hb.block w.heap.size (by rw [sizeA]; omega)).trans HB0.out)
      have HB2 := Lib.hid (HB1.out.trans (hb2.mono HB1.out.size))
      have Hr0 := Lib.hid hr0
      have f0 := fun j => (show (w1.alloc (.cells #[.int .i64 (x.1.k : Nat), .int .i64 x.1.n, .string (bs x.1.s), .slice p m c, .slice q n d] 44)).frozen? ⟨w.heap.size, j, none⟩ = false by simp [World.frozen?, Hr0.out])
      obtain ⟨q0, q1, q2, q3, _⟩ := cells4 hr0
      have hH1 := Lib.hid (hH.1.imp (D' := fun k => w.heap.size < k) fun k _ hk => by rw [sizeA] at hk; omega)
      have Hz1 := Lib.hid hz1
      have Hfx := Lib.hid hfx
      have hue := uV_emb x.1 (.slice p m c)
      have hkt : Hid (Kt 25 w1 (w1.alloc (.cells #[.int .i64 (x.1.k : Nat), .int .i64 x.1.n, .string (bs x.1.s), .slice p m c, .slice q n d] 44))) := Lib.hid (Kt.below hb2)
      have hwsz : Hid (w.heap.size < w1.heap.size) := Lib.hid (by have := hb.size; rw [sizeA] at this; omega)
      clear hbx hb2 hr0 hb hOk hEr hH hz1 hfx hru
      generalize x.1 = t at *
      go_wp2
      refine bodyPost_ret (ret_ct rfl _ _ rfl (set4 _ _ _ _ Hr0.out)) rfl ?_
      refine ⟨emb t, .slice p m c, true, by rw [hue]; rfl, ru_emb ((hH1.out.kept hkt.out).keptD (fun k cs fr hd hk => ?_)) Hfx.out, fun _ => Hz1.out, HB2.out.trans (set4_below _ _ _ _ _ _)⟩
      rw [set4_old _ _ _ _ _ _ (by omega)]; exact hk
  · have h1 : (1024 : Int) < (s.size : Int) := by omega
    have HB := Lib.hid hB
    have HB0 := Lib.hid hb0
    obtain ⟨q0, q1, q2, q3, _⟩ := cells4 hb0
    clear hB hb0 hz
    go_enter Try.func8, Try.ntmps8
    go_wp2
    refine bodyPost_ret (ret_ct rfl _ _ rfl HB0.out) rfl ?_
    exact ⟨u0, .slice none 0 0, false, rfl, ru0 _, fun h => (by cases h), HB.out⟩
end Go.Proofs.Ytjccohcigopdfaa.tm
end
section
/- The law TermSizes. -/
namespace Go.Proofs.Ytjccohcigopdfaa.tm
open Go.RowKit
open Go.Proofs.Ytjccohcigopdfaa.wr
open Go.Proofs.Ytjccohcigopdfaa.rd
open Go.Proofs.Ytjccohcigopdfaa.op (bs strC)
open Go.Proofs.Ytjccohcigopdfaa.lx (cell_at)
open Go.Proofs.Ytjccohcigopdfaa.nm (Fit)
set_option maxRecDepth 20000

theorem HBd {B : Nat} {W wc w5 : World} (h : Hid (Below B W wc)) (hB : B ≤ wc.heap.size) (hb : Below wc.heap.size wc w5) : Hid (Below B W w5) :=
  Lib.hid (h.out.trans (hb.mono hB))
theorem bxd {B n : Nat} {W wc : World} (h : Hid (Below B W wc)) : Hid (Below B W (wc.drewN n)) := Lib.hid (h.out.trans (dN _ _ n))
theorem iwd {n : Nat} {wc : World} {v : Value} {l : List Int} (h : Hid (Iw 0 wc v l)) : Hid (Iw 0 (wc.drewN n) v l) := Lib.hid (h.out.stay (dN _ _ n))
theorem box_at {W w5 : World} {g : Nat} {a b c d : Value} (hx : W.heap[g]? = some (.cells #[a, b, c, d] 25 (0, 0))) (h : Hid (Below W.heap.size W w5)) :
    w5.cell? ⟨g, 0, none⟩ = some a ∧ w5.cell? ⟨g, 1, none⟩ = some b ∧ w5.cell? ⟨g, 2, none⟩ = some c ∧ w5.cell? ⟨g, 3, none⟩ = some d := by
  obtain ⟨h0, h1, h2, h3, _⟩ := cells4 ((h.out.block g (lt_of hx)).trans hx)
  exact ⟨h0, h1, h2, h3⟩
theorem iw_next {wc w6 : World} {v : Value} {l : List Int} (h : Hid (Iw 0 wc v l)) (hb : Below wc.heap.size wc w6) : Hid (Iw 0 w6 v l) := Lib.hid (h.out.stay hb)
/-- the integer of the law's other answers -/
def uI : U := .mk 2 0 [] []
theorem ruI (W : World) : Ru W.heap.size W uI (.slice none 0 0) := by unfold uI; rw [Ru]; exact ⟨none, 0, rfl, Nat.le_refl _, Nat.zero_le _, fit0, by rw [Rus]; trivial⟩
theorem szI : szU uI = 1 := by unfold uI; rw [szU]; simp
set_option maxHeartbeats 4000000 in
theorem sizes_w (s : ByteArray) (w : World) (hz : s.size ≤ 9223372036854775807) :
    Calls Try.prog 4 #[.string s] w fun e w' => e = .returned (.bool true) ∧ Below w.heap.size w w' := by
  have k1 := one_c s w hz
  clear hz
  go_enter Try.func4, Try.ntmps4
  go_wp2_with fail
  refine k1.mono ?_
  clear k1
  rintro e w1 ⟨u, a, ok, rfl, hru, hok, hb⟩
  obtain ⟨p, cap, rfl, _⟩ := hru.parts
  have HB1 := Lib.hid hb
  cases ok with
  | false =>
    have HB2 := Lib.hid (HB1.out.trans ((allocB w1 (.cells #[.int .i64 u.k, .int .i64 u.n, .string (bs u.s), .slice p u.l.length cap] 25)).mono HB1.out.size))
    have kz := size_c (ruI (w1.alloc (.cells #[.int .i64 u.k, .int .i64 u.n, .string (bs u.s), .slice p u.l.length cap] 25))) (by rw [szI]; omega)
    rw [szI] at kz
    unfold uI uV at kz
    unfold uV
    clear hb hru hok
    go_wp2_with fail
    refine kz.mono ?_
    rintro e w2 ⟨rfl, hb⟩
    have HB3 := Lib.hid (HB2.out.trans (hb.mono HB2.out.size))
    clear hb kz
    go_wp2
    go_ret
    exact ⟨rfl, HB3.out⟩
  | true =>
    have hR := hok rfl
    have hx := heap_alloc_new w1 (.cells #[.int .i64 u.k, .int .i64 u.n, .string (bs u.s), .slice p u.l.length cap] 25)
    have hB2 := allocB w1 (.cells #[.int .i64 u.k, .int .i64 u.n, .string (bs u.s), .slice p u.l.length cap] 25)
    have hru2 := (hru.stay hB2).up hB2.size
    have HB2 := Lib.hid (HB1.out.trans (hB2.mono HB1.out.size))
    unfold uV
    clear hb hru hok hB2
    go_wp2_with fail
    generalize World.alloc w1 _ = W at *
    have hsz := hR.sz
    have HX := Lib.hid hx
    have HR := Lib.hid hru2
    have hW : Hid (Below W.heap.size W W) := Lib.hid (Below.refl _ _)
    have ks : ∀ (wc : World), Hid (Below W.heap.size W wc) → Calls Try.prog 9 #[uV u (.slice p u.l.length cap)] wc fun e w' => e = .returned (.int .i64 (szU u : Nat)) ∧ Hid (Below W.heap.size W w') := fun wc h =>
      (size_c ((HR.out.stay h.out).up h.out.size) (by omega)).mono fun e w' ⟨he, hb⟩ => ⟨he, HBd h h.out.size hb⟩
    have kr : ∀ (wc : World), Hid (Below W.heap.size W wc) → Calls Try.prog 17 #[uV u (.slice p u.l.length cap)] wc fun e w' => e = .returned (.int .i64 (szU u : Nat)) ∧ Hid (Below W.heap.size W w') := fun wc h =>
      (rsize_c u _ _ ((HR.out.stay h.out).up h.out.size) (by omega)).mono fun e w' ⟨he, hb⟩ => ⟨he, HBd h h.out.size hb⟩
    have kd : ∀ (wc : World), Hid (Below W.heap.size W wc) → Calls Try.prog 13 #[uV u (.slice p u.l.length cap)] wc fun e w' => e = .returned (.int .i64 (dpU u : Nat)) ∧ Hid (Below W.heap.size W w') := fun wc h =>
      (depth_c ((HR.out.stay h.out).up h.out.size) (by omega)).mono fun e w' ⟨he, hb⟩ => ⟨he, HBd h h.out.size hb⟩
    have ke : ∀ (wc : World), Hid (Below W.heap.size W wc) → Calls Try.prog 18 #[uV u (.slice p u.l.length cap)] wc fun e w' => e = .returned (.int .i64 (dpU u : Nat)) ∧ Hid (Below W.heap.size W w') := fun wc h =>
      (rdepth_c u _ _ ((HR.out.stay h.out).up h.out.size) (by omega)).mono fun e w' ⟨he, hb⟩ => ⟨he, HBd h h.out.size hb⟩
    have kv : ∀ (wc : World), Hid (Below W.heap.size W wc) → Calls Try.prog 20 #[uV u (.slice p u.l.length cap)] wc fun e w' => ∃ v, e = .returned v ∧ Hid (Iw 0 w' v (varsU u)) ∧ Hid (Below W.heap.size W w') := fun wc h =>
      (vars_c ((HR.out.stay h.out).up h.out.size) (by omega)).mono fun e w' ⟨v, he, hv, hb⟩ => ⟨v, he, Lib.hid (hv.mono (Nat.zero_le _)), HBd h h.out.size hb⟩
    have kw : ∀ (wc : World), Hid (Below W.heap.size W wc) → Calls Try.prog 14 #[uV u (.slice p u.l.length cap)] wc fun e w' => ∃ v, e = .returned v ∧ Hid (Iw 0 w' v (varsU u)) ∧ Below wc.heap.size wc w' ∧ Hid (Below W.heap.size W w') := fun wc h =>
      (rvars_c u _ _ ((HR.out.stay h.out).up h.out.size) (by omega)).mono fun e w' ⟨v, he, hv, hb⟩ => ⟨v, he, Lib.hid (hv.mono (Nat.zero_le _)), hb, HBd h h.out.size hb⟩
    have hvl := vars_len u
    have ki : ∀ (wc : World) (v1 v2 : Value), Hid (Iw 0 wc v1 (varsU u)) → Hid (Iw 0 wc v2 (varsU u)) → Hid (Below W.heap.size W wc) → Calls Try.prog 19 #[v1, v2] wc fun e w' => e = .returned (.bool true) ∧ Hid (Below W.heap.size W w') := fun wc v1 v2 h1 h2 h =>
      (sameInts_c h1.out h2.out (by omega) (by omega)).mono fun e w' ⟨he, hb⟩ => ⟨by rw [he]; simp, HBd h h.out.size hb⟩
    obtain ⟨x0, x1, x2, x3⟩ := box_at HX.out hW
    have e1 : ((szU u : Int) == (szU u : Int)) = true := by simp
    have e2 : ((dpU u : Int) == (dpU u : Int)) = true := by simp
    unfold uV at ks kr kd ke kv kw
    clear hx hru2 hR hsz hvl
    generalize w1.heap.size = B at *
    generalize u.l.length = ll at *
    generalize bs u.s = ss at *
    generalize u.n = nn at *
    generalize u.k = kk at *
    generalize varsU u = vv at *
    generalize szU u = zz at *
    generalize dpU u = dd at *
    go_region_held3 (fun w' => w'.cell? ⟨B, 0, none⟩ = some (.int .i64 kk) ∧ w'.cell? ⟨B, 1, none⟩ = some (.int .i64 nn) ∧ w'.cell? ⟨B, 2, none⟩ = some (.string ss) ∧ w'.cell? ⟨B, 3, none⟩ = some (.slice p ll cap))
      (first | exact box_at HX.out (by assumption) | go_keep)
      (first
        | (go_at_call 9; (refine (ks _ (by first | assumption | exact bxd (by assumption))).mono ?_); rintro en w5 ⟨rfl, HB5⟩)
        | (go_at_call 17; (refine (kr _ (by first | assumption | exact bxd (by assumption))).mono ?_); rintro en w5 ⟨rfl, HB5⟩)
        | (go_at_call 13; (refine (kd _ (by first | assumption | exact bxd (by assumption))).mono ?_); rintro en w5 ⟨rfl, HB5⟩)
        | (go_at_call 18; (refine (ke _ (by first | assumption | exact bxd (by assumption))).mono ?_); rintro en w5 ⟨rfl, HB5⟩)
        | (go_at_call 20; (refine (kv _ (by first | assumption | exact bxd (by assumption))).mono ?_); rintro en w5 ⟨v1, rfl, HI5, HB5⟩)
        | (go_at_call 14; (refine (kw _ (by first | assumption | exact bxd (by assumption))).mono ?_); rintro en w5 ⟨v2, rfl, HI6, hb6, HB5⟩; have HI7 := iw_next (by first | assumption | exact iwd (by assumption)) hb6; clear hb6)
        | (go_at_call 19; (refine (ki _ _ _ (by first | assumption | exact iwd (by assumption)) (by first | assumption | exact iwd (by assumption)) (by first | assumption | exact bxd (by assumption))).mono ?_); rintro en w5 ⟨rfl, HB5⟩))
    all_goals
      clear ks kr kd ke kv kw ki
      go_wp2
      go_ret
      exact ⟨rfl, HB2.out.trans ((show Hid (Below W.heap.size W _) from (by first | assumption | exact bxd (by assumption))).out.mono HB2.out.size)⟩
end Go.Proofs.Ytjccohcigopdfaa.tm
end
section
/- cmp.Compare of integers and strings; the reference's order, texts. -/
namespace Go.Proofs.Ytjccohcigopdfaa.tm
open Go.RowKit
open Go.Proofs.Ytjccohcigopdfaa.wr
open Go.Proofs.Ytjccohcigopdfaa.rd
open Go.Proofs.Ytjccohcigopdfaa.op (bs strC)
open Go.Proofs.Ytjccohcigopdfaa.lx (cell_at)
open Go.Proofs.Ytjccohcigopdfaa.nm (Fit)
set_option maxRecDepth 20000

theorem nanI_c (a : Int) (w : World) : Calls Try.prog 69 #[.int .i64 a] w fun e w' => e = .returned (.bool false) ∧ w' = w := by
  have e1 : (a != a) = false := by simp
  go_enter Try.func69, Try.ntmps69
  go_wp2
  go_ret
  exact ⟨rfl, rfl⟩
theorem nanS_c (a : List UInt8) (w : World) : Calls Try.prog 70 #[.string (bs a)] w fun e w' => e = .returned (.bool false) ∧ w' = w := by
  have e1 : ((bs a).toList != (bs a).toList) = false := by simp
  go_enter Try.func70, Try.ntmps70
  go_wp2
  go_ret
  exact ⟨rfl, rfl⟩
set_option maxHeartbeats 1000000 in
theorem cmpI_c (a b : Int) (w : World) : Calls Try.prog 51 #[.int .i64 a, .int .i64 b] w fun e w' => e = .returned (.int .i64 (ordI a b)) ∧ w' = w := by
  have k1 := nanI_c a w
  have k2 := nanI_c b w
  have hO : ordI a b = if a < b then -1 else if a = b then 0 else 1 := rfl
  generalize ordI a b = r at *
  rcases Int.lt_trichotomy a b with h | h | h
  · rw [if_pos h] at hO
    subst hO
    go_enter Try.func51, Try.ntmps51
    go_wp2_with (go_at_call 69; first | (refine k1.mono ?_; rintro e w2 ⟨rfl, rfl⟩; clear k1) | (refine k2.mono ?_; rintro e w2 ⟨rfl, rfl⟩))
    go_ret
    exact ⟨rfl, rfl⟩
  · subst h
    rw [if_neg (by omega), if_pos rfl] at hO
    subst hO
    have h1 : ¬ a < a := by omega
    go_enter Try.func51, Try.ntmps51
    go_wp2_with (go_at_call 69; first | (refine k1.mono ?_; rintro e w2 ⟨rfl, rfl⟩))
    go_ret
    exact ⟨rfl, rfl⟩
  · have h1 : ¬ a < b := by omega
    rw [if_neg h1, if_neg (by omega)] at hO
    subst hO
    go_enter Try.func51, Try.ntmps51
    go_wp2_with (go_at_call 69; first | (refine k1.mono ?_; rintro e w2 ⟨rfl, rfl⟩; clear k1) | (refine k2.mono ?_; rintro e w2 ⟨rfl, rfl⟩))
    go_ret
    exact ⟨rfl, rfl⟩
theorem ltS (a b : List UInt8) : Op.bytesLess (bs a).toList (bs b).toList = ltB a b := by rw [isL, isL]; rfl
theorem gtS (a b : List UInt8) : (!(Op.bytesLess (bs a).toList (bs b).toList || (bs a).toList == (bs b).toList)) = decide (ordS a b = 1) := by
  rw [ltS, bs_beq]
  unfold ordS
  by_cases h : ltB a b = true
  · simp [h]
  · by_cases h2 : a = b
    · simp [h2, ltB_irr]
    · simp [h, h2]
theorem ordS_lt {a b : List UInt8} (h : ltB a b = true) : ordS a b = -1 := by unfold ordS; rw [if_pos h]
set_option maxHeartbeats 1000000 in
theorem cmpS_c (a b : List UInt8) (w : World) : Calls Try.prog 52 #[.string (bs a), .string (bs b)] w fun e w' => e = .returned (.int .i64 (ordS a b)) ∧ w' = w := by
  have k1 := nanS_c a w
  have k2 := nanS_c b w
  have e1 := ltS a b
  have e2 := gtS a b
  have hlt := ordS_lt (a := a) (b := b)
  have hin := ordS_in a b
  have hneg : ltB a b = false → ordS a b ≠ -1 := fun h e => by
    unfold ordS at e
    rw [h, if_neg (by decide)] at e
    split at e <;> omega
  generalize ordS a b = r at *
  generalize ltB a b = q at *
  generalize bs a = sa at *
  generalize bs b = sb at *
  cases q with
  | true =>
    have hr := hlt rfl
    subst hr
    clear hlt hneg hin e2
    go_enter Try.func52, Try.ntmps52
    go_wp2_with (go_at_call 70; first | (refine k1.mono ?_; rintro e w2 ⟨rfl, rfl⟩) | (refine k2.mono ?_; rintro e w2 ⟨rfl, rfl⟩))
    go_ret
    exact ⟨rfl, rfl⟩
  | false =>
    have hn := hneg rfl
    rcases hin with h | h | h
    · exact absurd h hn
    · subst h
      have e3 : (sa.toList == sb.toList) = true := by rw [e1] at e2; simpa using e2
      clear hlt hneg hn e2
      go_enter Try.func52, Try.ntmps52
      go_wp2_with (go_at_call 70; first | (refine k1.mono ?_; rintro e w2 ⟨rfl, rfl⟩) | (refine k2.mono ?_; rintro e w2 ⟨rfl, rfl⟩))
      go_ret
      exact ⟨rfl, rfl⟩
    · subst h
      have e3 : (sa.toList == sb.toList) = false := by rw [e1] at e2; simpa using e2
      clear hlt hneg hn e2
      go_enter Try.func52, Try.ntmps52
      go_wp2_with (go_at_call 70; first | (refine k1.mono ?_; rintro e w2 ⟨rfl, rfl⟩) | (refine k2.mono ?_; rintro e w2 ⟨rfl, rfl⟩))
      go_ret
      exact ⟨rfl, rfl⟩
set_option maxHeartbeats 1000000 in
theorem order_c (a b : Int) (w : World) : Calls Try.prog 38 #[.int .i64 a, .int .i64 b] w fun e w' => e = .returned (.int .i64 (ordI a b)) ∧ w' = w := by
  have hO : ordI a b = if a < b then -1 else if a = b then 0 else 1 := rfl
  generalize ordI a b = r at *
  rcases Int.lt_trichotomy a b with h | h | h
  · rw [if_pos h] at hO
    subst hO
    go_enter Try.func38, Try.ntmps38
    go_wp2
    go_ret
    exact ⟨rfl, rfl⟩
  · subst h
    rw [if_neg (by omega), if_pos rfl] at hO
    subst hO
    have h1 : ¬ a < a := by omega
    go_enter Try.func38, Try.ntmps38
    go_wp2
    go_ret
    exact ⟨rfl, rfl⟩
  · have h1 : ¬ a < b := by omega
    rw [if_neg h1, if_neg (by omega)] at hO
    subst hO
    go_enter Try.func38, Try.ntmps38
    go_wp2
    go_ret
    exact ⟨rfl, rfl⟩
set_option maxHeartbeats 1000000 in
theorem texts_c (a b : List UInt8) (w : World) : Calls Try.prog 39 #[.string (bs a), .string (bs b)] w fun e w' => e = .returned (.int .i64 (ordS a b)) ∧ w' = w := by
  have e1 := ltS a b
  have e2 := gtS a b
  have hlt := ordS_lt (a := a) (b := b)
  have hin := ordS_in a b
  have hneg : ltB a b = false → ordS a b ≠ -1 := fun h e => by
    unfold ordS at e
    rw [h, if_neg (by decide)] at e
    split at e <;> omega
  generalize ordS a b = r at *
  generalize ltB a b = q at *
  generalize bs a = sa at *
  generalize bs b = sb at *
  cases q with
  | true =>
    have hr := hlt rfl
    subst hr
    clear hlt hneg hin e2
    go_enter Try.func39, Try.ntmps39
    go_wp2
    go_ret
    exact ⟨rfl, rfl⟩
  | false =>
    have hn := hneg rfl
    rcases hin with h | h | h
    · exact absurd h hn
    · subst h
      have e3 : (sa.toList == sb.toList) = true := by rw [e1] at e2; simpa using e2
      clear hlt hneg hn e2
      go_enter Try.func39, Try.ntmps39
      go_wp2
      go_ret
      exact ⟨rfl, rfl⟩
    · subst h
      have e3 : (sa.toList == sb.toList) = false := by rw [e1] at e2; simpa using e2
      clear hlt hneg hn e2
      go_enter Try.func39, Try.ntmps39
      go_wp2
      go_ret
      exact ⟨rfl, rfl⟩
end Go.Proofs.Ytjccohcigopdfaa.tm
end
section
/- The reference's Compare. -/
namespace Go.Proofs.Ytjccohcigopdfaa.tm
open Go.RowKit
open Go.Proofs.Ytjccohcigopdfaa.wr
open Go.Proofs.Ytjccohcigopdfaa.rd
open Go.Proofs.Ytjccohcigopdfaa.op (bs strC)
open Go.Proofs.Ytjccohcigopdfaa.lx (cell_at)
open Go.Proofs.Ytjccohcigopdfaa.nm (Fit)
set_option maxRecDepth 20000

theorem cmpL_at {l m : List U} {i : Nat} (hi : i < l.length) (hj : i < m.length) : cmpL (l.drop i) (m.drop i) = lx (cmpU (l.getD i dfU) (m.getD i dfU)) (cmpL (l.drop (i + 1)) (m.drop (i + 1))) := by rw [drop_cons hi, drop_cons hj, cmpL]
abbrev RcOk (u : U) : Prop := ∀ (v : U) (a c : Value) (w : World), Ru w.heap.size w u a → Ru w.heap.size w v c →
  Calls Try.prog 22 #[uV u a, uV v c] w fun e w' => e = .returned (.int .i64 (cmpU u v)) ∧ Below w.heap.size w w'
set_option maxHeartbeats 4000000 in
theorem rc_step (u : U) (ih : ∀ i, i < u.l.length → RcOk (u.l.getD i dfU)) : RcOk u := by
  intro v a c w ha hc
  obtain ⟨p, cap, rfl, _, hP⟩ := ha.parts
  obtain ⟨q, cap', rfl, _, hQ⟩ := hc.parts
  have hl := hP.max
  have hl' := hP.le
  have hm := hQ.max
  have hm' := hQ.le
  unfold maxLen at hl hm
  obtain ⟨b0, b1, bz, bb⟩ := box2 w (.cells #[.int .i64 u.k, .int .i64 u.n, .string (bs u.s), .slice p u.l.length cap] 25) (.cells #[.int .i64 v.k, .int .i64 v.n, .string (bs v.s), .slice q v.l.length cap'] 25)
  obtain ⟨x0, x1, x2, x3, _⟩ := cells4 b0
  obtain ⟨y0, y1, y2, y3, _⟩ := cells4 b1
  have HB := Lib.hid bb
  have HB0 := Lib.hid b0
  have HB1 := Lib.hid b1
  have HP := Lib.hid (hP.stay bb)
  have HQ := Lib.hid (hQ.stay bb)
  have IH := Lib.hid ih
  have ko := order_c
  have kt := fun W => texts_c u.s v.s W
  unfold uV
  by_cases hk : u.k = v.k
  · by_cases h1 : u.k = 1 ∨ u.k = 2
    · have hr := cmp_n hk h1
      rw [hr]
      clear hr ha hc hP hQ b0 b1 ih IH HP HQ bb kt
      generalize u.l.length = l1 at *
      generalize v.l.length = l2 at *
      generalize bs u.s = s1 at *
      generalize bs v.s = s2 at *
      generalize u.n = n1 at *
      generalize v.n = n2 at *
      generalize u.k = k1 at *
      generalize v.k = k2 at *
      subst hk
      rcases h1 with rfl | rfl
      · go_enter Try.func22, Try.ntmps22
        go_wp2_with fail
        refine (ko _ _ _).mono ?_
        rintro e w2 ⟨rfl, rfl⟩
        go_wp2
        go_ret
        exact ⟨rfl, HB.out⟩
      · go_enter Try.func22, Try.ntmps22
        go_wp2_with fail
        refine (ko _ _ _).mono ?_
        rintro e w2 ⟨rfl, rfl⟩
        go_wp2
        go_ret
        exact ⟨rfl, HB.out⟩
    by_cases h3 : u.k = 3
    · have hr := cmp_s hk h3
      rw [hr]
      clear hr ha hc hP hQ b0 b1 ih IH HP HQ bb h1 ko
      generalize u.l.length = l1 at *
      generalize v.l.length = l2 at *
      generalize ordS u.s v.s = r at *
      generalize bs u.s = s1 at *
      generalize bs v.s = s2 at *
      generalize u.n = n1 at *
      generalize v.n = n2 at *
      generalize u.k = k1 at *
      generalize v.k = k2 at *
      subst hk
      subst h3
      go_enter Try.func22, Try.ntmps22
      go_wp2_with fail
      refine (kt _).mono ?_
      rintro e w2 ⟨rfl, rfl⟩
      go_wp2
      go_ret
      exact ⟨rfl, HB.out⟩
    have e1 : (u.k == 1) = false := beq_eq_false_iff_ne.2 (fun e => h1 (.inl e))
    have e2 : (u.k == 2) = false := beq_eq_false_iff_ne.2 (fun e => h1 (.inr e))
    have e3 : (u.k == 3) = false := beq_eq_false_iff_ne.2 h3
    have e0 : (u.k != v.k) = false := by simp [hk]
    by_cases hlen : u.l.length = v.l.length
    · have e4 : ((u.l.length : Int) != (v.l.length : Int)) = false := by rw [hlen]; simp
      have e7 : ((u.l.length : Int) == (v.l.length : Int)) = true := by rw [hlen]; simp
      by_cases hs : u.s = v.s
      · have hr := cmp_l hk (fun e => h1 (.inl e)) (fun e => h1 (.inr e)) h3 hlen hs
        rw [hr]
        have e5 : ((bs u.s).toList != (bs v.s).toList) = false := by rw [hs]; simp
        have e6 : ((bs u.s).toList == (bs v.s).toList) = true := by rw [hs]; simp
        clear hr ha hc hP hQ b0 b1 ih bb h1 h3 ko kt
        have Hlen := Lib.hid hlen
        generalize u.l = l at *
        generalize v.l = m at *
        clear hlen
        generalize hR : cmpL l m = R
        have HR := Lib.hid hR
        clear hR hs
        generalize bs u.s = s1 at *
        generalize bs v.s = s2 at *
        generalize u.n = n1 at *
        generalize v.n = n2 at *
        generalize u.k = k1 at *
        generalize v.k = k2 at *
        subst hk
        go_enter Try.func22, Try.ntmps22
        go_wp2
        clear x0 x1 x2 x3 y0 y1 y2 y3 e0 e1 e2 e3 e4 e5 e6 e7
        generalize World.alloc (World.alloc w _) _ = W at *
        go_loopg [5] l.length (fun k v5 wr => ∃ i : Nat, k = l.length - i ∧ i ≤ l.length ∧ v5 = .int .i64 i ∧ Hid (Below W.heap.size W wr) ∧ Hid (cmpL (l.drop i) (m.drop i) = R))
        case atStart => exact ⟨0, by omega, by omega, rfl, Lib.hid (Below.refl _ _), Lib.hid HR.out⟩
        case round =>
          obtain ⟨i, hgk, hi, rfl, HW, HT⟩ := hrel
          obtain ⟨x0, x1, x2, x3, _⟩ := cells4 ((HW.out.block w.heap.size (lt_of HB0.out)).trans HB0.out)
          obtain ⟨y0, y1, y2, y3, _⟩ := cells4 ((HW.out.block (w.heap.size + 1) (lt_of HB1.out)).trans HB1.out)
          by_cases hlt : i < l.length
          · have hlt2 : (i : Int) < l.length := by omega
            have hlt3 : i < m.length := by have := Hlen.out; omega
            have hlt4 : (i : Int) < m.length := by omega
            have i4 : (0 : Int) ≤ (i : Int) := by omega
            have hww : Below w.heap.size W wr := HW.out.mono HB.out.size
            obtain ⟨g, o, p', c', hpe, hgl, d0, d1, d2, d3, hRx⟩ := at_pu (HP.out.stay hww) hlt
            obtain ⟨g', o', q', d', hqe, hgl', f0, f1, f2, f3, hRy⟩ := at_pu (HQ.out.stay hww) hlt3
            subst hpe hqe
            have hsz := Nat.le_trans HB.out.size HW.out.size
            have kx := fun n => IH.out i hlt (m.getD i dfU) _ _ (wr.drewN n) ((hRx.stay (dN _ _ n)).up hsz) ((hRy.stay (dN _ _ n)).up hsz)
            have hbk : Hid (∀ w2, Below wr.heap.size wr w2 → ∀ (q : Nat), q < wr.heap.size → ∀ (j : Nat), w2.cell? ⟨q, j, none⟩ = wr.cell? ⟨q, j, none⟩) := Lib.hid fun w2 h q hq j => World.cell?_of_block (h.block q hq)
            have hg1 : g < wr.heap.size := Nat.lt_of_lt_of_le hgl hsz
            have hg2 : g' < wr.heap.size := Nat.lt_of_lt_of_le hgl' hsz
            have hg3 : w.heap.size < wr.heap.size := Nat.lt_of_lt_of_le (lt_of HB0.out) HW.out.size
            have hg4 : w.heap.size + 1 < wr.heap.size := Nat.lt_of_lt_of_le (lt_of HB1.out) HW.out.size
            have hT := HT.out
            rw [cmpL_at hlt hlt3] at hT
            have HT2 := Lib.hid hT
            clear hRx hRy HP HQ IH hT HT hww
            generalize l.getD i dfU = x at *
            generalize m.getD i dfU = y at *
            generalize cmpU x y = r at *
            unfold uV at kx
            go_wp2_with fail
            go_region_held3 (fun w' => w'.cell? ⟨w.heap.size, 3, none⟩ = some (.slice (some ⟨g, o, none⟩) l.length cap) ∧ w'.cell? ⟨w.heap.size + 1, 3, none⟩ = some (.slice (some ⟨g', o', none⟩) m.length cap') ∧
              w'.cell? ⟨g, o + i * 4, none⟩ = some (.int .i64 x.k) ∧ w'.cell? ⟨g, o + i * 4 + 1, none⟩ = some (.int .i64 x.n) ∧ w'.cell? ⟨g, o + i * 4 + 2, none⟩ = some (.string (bs x.s)) ∧ w'.cell? ⟨g, o + i * 4 + 3, none⟩ = some (.slice p' x.l.length c') ∧
              w'.cell? ⟨g', o' + i * 4, none⟩ = some (.int .i64 y.k) ∧ w'.cell? ⟨g', o' + i * 4 + 1, none⟩ = some (.int .i64 y.n) ∧ w'.cell? ⟨g', o' + i * 4 + 2, none⟩ = some (.string (bs y.s)) ∧ w'.cell? ⟨g', o' + i * 4 + 3, none⟩ = some (.slice q' y.l.length d'))
              (first | exact ⟨(q1 _ hg3 _).trans x3, (q1 _ hg4 _).trans y3, (q1 _ hg1 _).trans d0, (q1 _ hg1 _).trans d1, (q1 _ hg1 _).trans d2, (q1 _ hg1 _).trans d3, (q1 _ hg2 _).trans f0, (q1 _ hg2 _).trans f1, (q1 _ hg2 _).trans f2, (q1 _ hg2 _).trans f3⟩ | go_keep)
              ((go_at_call 22; (refine (kx _).mono ?_); rintro en w2 ⟨rfl, hb⟩; have HW2 := Lib.hid ((dN wr.heap.size wr _).trans hb); have q1 := hbk.out w2 HW2.out; clear hb))
            all_goals
              clear kx
              by_cases hr0 : r = 0
              · subst hr0
                have HT3 := Lib.hid HT2.out
                rw [show lx 0 (cmpL (l.drop (i + 1)) (m.drop (i + 1))) = cmpL (l.drop (i + 1)) (m.drop (i + 1)) from if_pos rfl] at HT3
                go_wp2
                go_roundg (l.length - (i + 1))
                case measure => omega
                case rel => exact ⟨i + 1, rfl, by omega, by go_num, Lib.hid (HW.out.trans (HW2.out.mono HW.out.size)), HT3⟩
              · have e1 : (r != 0) = true := bne_iff_ne.2 hr0
                have e1' : (r == 0) = false := beq_eq_false_iff_ne.2 hr0
                have hR2 : r = R := by rw [← HT2.out, lx, if_neg hr0]
                subst hR2
                go_wp2
                go_ret
                exact ⟨rfl, HB.out.trans ((HW.out.trans (HW2.out.mono HW.out.size)).mono HB.out.size)⟩
          · have hlt2 : ¬ ((i : Int) < l.length) := by omega
            have hR2 : R = 0 := by rw [← HT.out, List.drop_eq_nil_of_le (by omega)]; simp [cmpL]
            subst hR2
            go_wp2
            go_ret
            exact ⟨rfl, HB.out.trans (HW.out.mono HB.out.size)⟩
      · have hr := cmp_nm hk (fun e => h1 (.inl e)) (fun e => h1 (.inr e)) h3 hlen hs
        rw [hr]
        have e5 : ((bs u.s).toList != (bs v.s).toList) = true := by rw [isL, isL]; exact bne_iff_ne.2 hs
        have e6 : ((bs u.s).toList == (bs v.s).toList) = false := by rw [isL, isL]; exact beq_eq_false_iff_ne.2 hs
        clear hr ha hc hP hQ b0 b1 ih bb h1 h3 ko IH HP HQ hlen
        generalize u.l.length = l at *
        generalize v.l.length = m at *
        generalize ordS u.s v.s = r at *
        clear hs
        generalize bs u.s = s1 at *
        generalize bs v.s = s2 at *
        generalize u.n = n1 at *
        generalize v.n = n2 at *
        generalize u.k = k1 at *
        generalize v.k = k2 at *
        subst hk
        go_enter Try.func22, Try.ntmps22
        go_wp2_with fail
        refine (kt _).mono ?_
        rintro e w2 ⟨rfl, rfl⟩
        go_wp2
        go_ret
        exact ⟨rfl, HB.out⟩
    · have e4 : ((u.l.length : Int) != (v.l.length : Int)) = true := bne_iff_ne.2 (by omega)
      have e7 : ((u.l.length : Int) == (v.l.length : Int)) = false := beq_eq_false_iff_ne.2 (by omega)
      have hr := cmp_len hk (fun e => h1 (.inl e)) (fun e => h1 (.inr e)) h3 hlen
      rw [hr]
      clear hr ha hc hP hQ b0 b1 ih bb h1 h3 kt IH HP HQ hlen
      generalize u.l.length = l at *
      generalize v.l.length = m at *
      generalize bs u.s = s1 at *
      generalize bs v.s = s2 at *
      generalize u.n = n1 at *
      generalize v.n = n2 at *
      generalize u.k = k1 at *
      generalize v.k = k2 at *
      subst hk
      go_enter Try.func22, Try.ntmps22
      go_wp2_with fail
      refine (ko _ _ _).mono ?_
      rintro e w2 ⟨rfl, rfl⟩
      go_wp2
      go_ret
      exact ⟨rfl, HB.out⟩
  · have e0 : (u.k != v.k) = true := bne_iff_ne.2 hk
    rw [cmp_k hk]
    clear ha hc hP hQ b0 b1 ih bb kt IH HP HQ hk
    generalize u.l.length = l at *
    generalize v.l.length = m at *
    generalize bs u.s = s1 at *
    generalize bs v.s = s2 at *
    generalize u.n = n1 at *
    generalize v.n = n2 at *
    generalize u.k = k1 at *
    generalize v.k = k2 at *
    go_enter Try.func22, Try.ntmps22
    go_wp2_with fail
    refine (ko _ _ _).mono ?_
    rintro e w2 ⟨rfl, rfl⟩
    go_wp2
    go_ret
    exact ⟨rfl, HB.out⟩
theorem rcmp_c (u : U) : RcOk u := all_parts (P := RcOk) rc_step u
end Go.Proofs.Ytjccohcigopdfaa.tm
end
section
/- The program's Compare: the method, slices.CompareFunc over it. -/
namespace Go.Proofs.Ytjccohcigopdfaa.tm
open Go.RowKit
open Go.Proofs.Ytjccohcigopdfaa.wr
open Go.Proofs.Ytjccohcigopdfaa.rd
open Go.Proofs.Ytjccohcigopdfaa.op (bs strC)
open Go.Proofs.Ytjccohcigopdfaa.lx (cell_at)
open Go.Proofs.Ytjccohcigopdfaa.nm (Fit)
set_option maxRecDepth 20000

theorem alloc_cell {w : World} {o : Obj} {g j : Nat} {v : Value} (h : w.cell? ⟨g, j, none⟩ = some v) (hg : g < w.heap.size) : (w.alloc o).cell? ⟨g, j, none⟩ = some v :=
  (World.cell?_of_block (a := ⟨g, j, none⟩) (Lib.alloc_old w o g hg)).trans h
/-- how many pairs are left -/
def Cb (c n : Nat) (w : World) : Prop := w.heap[c]? = some (.cells #[.int .i64 (n : Nat)] 60 (0, 0))
section
variable {c n : Nat} {w w' : World}
theorem Cb.cell (h : Cb c n w) : w.cell? ⟨c, 0, none⟩ = some (.int .i64 (n : Nat)) := by rw [cell_at h]; rfl
theorem Cb.free (h : Cb c n w) : w.frozen? ⟨c, 0, none⟩ = false := by unfold Cb at h; simp [World.frozen?, h]
theorem Cb.set (h : Cb c n w) (m : Nat) : Cb c m (w.setCell ⟨c, 0, none⟩ (.int .i64 (m : Nat))) := by unfold Cb; rw [heap_set_at h]; rfl
theorem Cb.stay (h : Cb c n w) (hb : Below w.heap.size w w') : Cb c n w' := by unfold Cb; rw [hb.block c (lt_of h)]; exact h
end
/-- what comparing gives: its answer, and no more pairs gone than z -/
def CmQ (c n z : Nat) (r : Int) (w : World) (e : Ending) (w' : World) : Prop :=
  ∃ m : Nat, e = .returned (.int .i64 r) ∧ Cb c m w' ∧ n ≤ m + z ∧ m ≤ n ∧ Fx (fun k => k = c) w w'
theorem clL_at : ∀ {l : List U}, clL l → ∀ i, i < l.length → clU (l.getD i dfU)
  | [], _, i, hi => absurd hi (Nat.not_lt_zero _)
  | u :: l, h, i, hi => by
    rw [clL] at h
    cases i with
    | zero => exact h.1
    | succ i => have := clL_at h.2 i (by simpa using hi); simpa using this
abbrev PcOk (u : U) : Prop := ∀ (v : U) (a a' : Value) (b c n : Nat) (w : World), clU u → n ≤ 4000 → szU u ≤ n → b ≤ c → Cb c n w → Ru b w u a → Ru b w v a' →
  Calls Try.prog 37 #[.pointer (some ⟨c, 0, none⟩), uV u a, uV v a'] w (CmQ c n (szU u) (cmpU u v) w)
abbrev CfOk (l : List U) : Prop := ∀ (m : List U) (p q : Option Addr) (cp cq b c n : Nat) (w : World), clL l → n ≤ 4000 → szUL l ≤ n → b ≤ c → Cb c n w → Pu b w l p cp → Pu b w m q cq → l.length = m.length →
  Calls Try.prog 53 #[.slice p l.length cp, .slice q m.length cq, .func (.func 37) #[.pointer (some ⟨c, 0, none⟩)] #[]] w (CmQ c n (szUL l) (cmpL l m) w)
set_option maxHeartbeats 4000000 in
theorem cf_step (l : List U) (ih : ∀ i, i < l.length → PcOk (l.getD i dfU)) : CfOk l := by
  intro m p q cp cq b c n w hcl0 hn hz hbc hC hP hQ hlen
  have hl := hP.max
  have hl' := hP.le
  have hm := hQ.max
  have hm' := hQ.le
  unfold maxLen at hl hm
  have hcl := lt_of hC
  have HP := Lib.hid hP
  have HQ := Lib.hid hQ
  have IH := Lib.hid ih
  have HCl := Lib.hid hcl0
  have HC := Lib.hid hC
  have Hlen := Lib.hid hlen
  have HZ := Lib.hid hz
  generalize hR : cmpL l m = R
  have HR := Lib.hid hR
  have e8 : ¬ (l.length : Int) < (m.length : Int) := by omega
  clear hP hQ ih hC hR hlen hz hcl0
  go_enter Try.func53, Try.ntmps53
  go_wp2
  go_loopg [13] l.length (fun k v13 wr => ∃ i n' : Nat, k = l.length - i ∧ i ≤ l.length ∧ v13 = .int .i64 i ∧ Hid (Fx (fun k => k = c) w wr) ∧ Hid (Cb c n' wr) ∧ Hid (n ≤ n' + (szUL l - szUL (l.drop i)) ∧ n' ≤ n ∧ szUL (l.drop i) ≤ n') ∧ Hid (cmpL (l.drop i) (m.drop i) = R))
  case atStart => exact ⟨0, n, by omega, by omega, rfl, Lib.hid (Fx.refl _ _), HC, Lib.hid ⟨by omega, by omega, by have := HZ.out; simpa using this⟩, HR⟩
  case round =>
    obtain ⟨i, n', hgk, hi, rfl, HF, HCr, HN, HT⟩ := hrel
    by_cases hlt : i < l.length
    · have hlt2 : (i : Int) < l.length := by omega
      have hlt3 : i < m.length := by have := Hlen.out; omega
      have hlt4 : (i : Int) < m.length := by omega
      have hlt5 : ¬ (m.length : Int) ≤ (i : Int) := by omega
      have i4 : (0 : Int) ≤ (i : Int) := by omega
      have hww : Below b w wr := HF.out.below (by omega) (fun k hk => by omega)
      obtain ⟨g, o, p', c', hpe, hgl, d0, d1, d2, d3, hRx⟩ := at_pu (HP.out.stay hww) hlt
      obtain ⟨g', o', q', d', hqe, hgl', f0, f1, f2, f3, hRy⟩ := at_pu (HQ.out.stay hww) hlt3
      subst hpe hqe
      have hws := HF.out.size
      obtain ⟨z0, z1, zz, zb⟩ := box2 wr (.cells #[.int .i64 (l.getD i dfU).k, .int .i64 (l.getD i dfU).n, .string (bs (l.getD i dfU).s), .slice p' (l.getD i dfU).l.length c'] 25) (.cells #[.int .i64 (m.getD i dfU).k, .int .i64 (m.getD i dfU).n, .string (bs (m.getD i dfU).s), .slice q' (m.getD i dfU).l.length d'] 25)
      have hN := HN.out
      rw [szUL_at hlt] at hN
      have hdr := szUL_drop l i
      rw [szUL_at hlt] at hdr
      have kx := IH.out i hlt (m.getD i dfU) _ _ b c n' _ (clL_at HCl.out i hlt) (by omega) (by omega) hbc (HCr.out.stay zb) (hRx.stay (zb.mono (by omega))) (hRy.stay (zb.mono (by omega)))
      have hT := HT.out
      rw [cmpL_at hlt hlt3] at hT
      have HT2 := Lib.hid hT
      have HF2 := Lib.hid (HF.out.trans (Fx.of zb))
      have hf0' : (wr.alloc (.cells #[.int .i64 (l.getD i dfU).k, .int .i64 (l.getD i dfU).n, .string (bs (l.getD i dfU).s), .slice p' (l.getD i dfU).l.length c'] 25)).cell? ⟨g', o' + i * 4, none⟩ = some (.int .i64 (m.getD i dfU).k) := alloc_cell f0 (by omega)
      have hf1' : (wr.alloc (.cells #[.int .i64 (l.getD i dfU).k, .int .i64 (l.getD i dfU).n, .string (bs (l.getD i dfU).s), .slice p' (l.getD i dfU).l.length c'] 25)).cell? ⟨g', o' + i * 4 + 1, none⟩ = some (.int .i64 (m.getD i dfU).n) := alloc_cell f1 (by omega)
      have hf2' : (wr.alloc (.cells #[.int .i64 (l.getD i dfU).k, .int .i64 (l.getD i dfU).n, .string (bs (l.getD i dfU).s), .slice p' (l.getD i dfU).l.length c'] 25)).cell? ⟨g', o' + i * 4 + 2, none⟩ = some (.string (bs (m.getD i dfU).s)) := alloc_cell f2 (by omega)
      have hf3' : (wr.alloc (.cells #[.int .i64 (l.getD i dfU).k, .int .i64 (l.getD i dfU).n, .string (bs (l.getD i dfU).s), .slice p' (l.getD i dfU).l.length c'] 25)).cell? ⟨g', o' + i * 4 + 3, none⟩ = some (.slice q' (m.getD i dfU).l.length d') := alloc_cell f3 (by omega)
      obtain ⟨w0, w1, w2, w3, _⟩ := cells4 z0
      obtain ⟨v0, v1, v2, v3, _⟩ := cells4 z1
      have HNN : Hid (∀ n2, n' ≤ n2 + szU (l.getD i dfU) → n2 ≤ n' → n ≤ n2 + (szUL l - szUL (l.drop (i + 1))) ∧ n2 ≤ n ∧ szUL (l.drop (i + 1)) ≤ n2 ∧ n ≤ n2 + szUL l) := Lib.hid fun n2 h1 h2 => by omega
      clear hRx hRy HP HQ IH hT HT hww hN hdr HN z0 z1 zb
      generalize l.getD i dfU = x at *
      generalize m.getD i dfU = y at *
      generalize szU x = sx at *
      generalize cmpU x y = r at *
      unfold uV at kx
      go_wp2_with fail
      refine kx.mono ?_
      rintro en w4 ⟨n2, rfl, hC2, hn1, hn2, hF2⟩
      have HF3 := Lib.hid (HF2.out.trans hF2)
      have HC3 := Lib.hid hC2
      obtain ⟨m1, m2, m3, m4⟩ := HNN.out n2 hn1 hn2
      have HM := Lib.hid (show n ≤ n2 + (szUL l - szUL (l.drop (i + 1))) ∧ n2 ≤ n ∧ szUL (l.drop (i + 1)) ≤ n2 from ⟨m1, m2, m3⟩)
      have HM4 := Lib.hid m4
      clear kx hC2 hF2 w0 w1 w2 w3 v0 v1 v2 v3 hf0' hf1' hf2' hf3' m1 m3 m4 HNN
      by_cases hr0 : r = 0
      · subst hr0
        have HT3 := Lib.hid HT2.out
        rw [show lx 0 (cmpL (l.drop (i + 1)) (m.drop (i + 1))) = cmpL (l.drop (i + 1)) (m.drop (i + 1)) from if_pos rfl] at HT3
        go_wp2
        go_roundg (l.length - (i + 1))
        case measure => omega
        case rel => exact ⟨i + 1, n2, rfl, by omega, by go_num, HF3, HC3, HM, HT3⟩
      · have e1 : (r != 0) = true := bne_iff_ne.2 hr0
        have e1' : (r == 0) = false := beq_eq_false_iff_ne.2 hr0
        have hR2 : r = R := by rw [← HT2.out, lx, if_neg hr0]
        have HRR := Lib.hid hR2
        clear hR2 HT2
        go_wp2
        go_ret
        exact ⟨n2, by rw [← HRR.out]; rfl, HC3.out, HM4.out, by omega, HF3.out⟩
    · have hlt2 : ¬ ((i : Int) < l.length) := by omega
      have hR2 : R = 0 := by rw [← HT.out, List.drop_eq_nil_of_le (by omega)]; simp [cmpL]
      subst hR2
      have hN := HN.out
      have hN2 : n ≤ n' + szUL l ∧ n' ≤ n := by omega
      have HN2 := Lib.hid hN2
      clear hN hN2
      go_wp2
      go_ret
      exact ⟨n', rfl, HCr.out, HN2.out.1, HN2.out.2, HF.out⟩
set_option maxHeartbeats 4000000 in
theorem pc_step (u : U) (ih : CfOk u.l) : PcOk u := by
  intro v a a' b c n w hcl0 hn hz hbc hC ha hc
  obtain ⟨p, cap, rfl, _, hP⟩ := ha.parts
  obtain ⟨q, cap', rfl, _, hQ⟩ := hc.parts
  have hl := hP.max
  have hl' := hP.le
  have hm := hQ.max
  have hm' := hQ.le
  unfold maxLen at hl hm
  have hcl := lt_of hC
  have hpos := szU_pos u
  obtain ⟨b0, b1, bz, bb⟩ := box2 w (.cells #[.int .i64 u.k, .int .i64 u.n, .string (bs u.s), .slice p u.l.length cap] 25) (.cells #[.int .i64 v.k, .int .i64 v.n, .string (bs v.s), .slice q v.l.length cap'] 25)
  have hC0 := hC.stay bb
  have c0 := hC0.cell
  have f0 := hC0.free
  have hC1 := hC0.set (n - 1)
  have hF1 := Fx.set (S := fun k => k = c) (Fx.of bb) (p := ⟨c, 0, none⟩) (.inl rfl) (.int .i64 ((n - 1 : Nat) : Int))
  have d0 := (Below.heap_setCell ((w.alloc (.cells #[.int .i64 u.k, .int .i64 u.n, .string (bs u.s), .slice p u.l.length cap] 25)).alloc (.cells #[.int .i64 v.k, .int .i64 v.n, .string (bs v.s), .slice q v.l.length cap'] 25)) ⟨c, 0, none⟩ (.int .i64 ((n - 1 : Nat) : Int)) w.heap.size (by show w.heap.size ≠ c; omega)).trans b0
  have d1 := (Below.heap_setCell ((w.alloc (.cells #[.int .i64 u.k, .int .i64 u.n, .string (bs u.s), .slice p u.l.length cap] 25)).alloc (.cells #[.int .i64 v.k, .int .i64 v.n, .string (bs v.s), .slice q v.l.length cap'] 25)) ⟨c, 0, none⟩ (.int .i64 ((n - 1 : Nat) : Int)) (w.heap.size + 1) (by show w.heap.size + 1 ≠ c; omega)).trans b1
  have hne : ((n - 1 : Nat) : Int) = (n : Int) - 1 := by omega
  have n0 : ((n : Int) == 0) = false := beq_eq_false_iff_ne.2 (by omega)
  have hww := hF1.below (b := b) (by omega) (fun k hk => by omega)
  have hP1 := hP.stay hww
  have hQ1 := hQ.stay hww
  rw [hne] at hC1 hF1 d0 d1 hP1 hQ1
  obtain ⟨x0, x1, x2, x3, _⟩ := cells4 d0
  obtain ⟨y0, y1, y2, y3, _⟩ := cells4 d1
  have hcl4 := (cl_eq u).1 hcl0
  have HC1 := Lib.hid hC1
  have HF1 := Lib.hid hF1
  have hsz := szU_eq u
  have ki := cmpI_c
  have kt := fun W => cmpS_c u.s v.s W
  have hmf : ∀ (fn : Fn) (first cap : Array Value) (w : World), (Instr.makeFunc fn first cap).run Try.prog w = .ok (.func fn first cap) w := fun _ _ _ _ => rfl
  clear hcl
  unfold uV
  by_cases hk : u.k = v.k
  · by_cases h1 : u.k = 1 ∨ u.k = 2
    · have hr := cmp_n hk h1
      rw [hr]
      clear hr ha hc hP hQ b0 b1 ih bb kt hC hC0 hC1 hF1 d0 d1 hww hP1 hQ1 hsz hcl4 hcl0
      generalize u.l.length = l1 at *
      generalize v.l.length = l2 at *
      generalize bs u.s = s1 at *
      generalize bs v.s = s2 at *
      generalize u.n = n1 at *
      generalize v.n = n2 at *
      have HZ := Lib.hid hz
      generalize szU u = sz at *
      generalize u.k = k1 at *
      generalize v.k = k2 at *
      subst hk
      rcases h1 with rfl | rfl
      · go_enter Try.func37, Try.ntmps37
        go_wp2_with fail
        refine (ki _ _ _).mono ?_
        rintro e w2 ⟨rfl, rfl⟩
        go_wp2
        go_ret
        exact ⟨n - 1, rfl, HC1.out, by omega, by omega, HF1.out⟩
      · go_enter Try.func37, Try.ntmps37
        go_wp2_with fail
        refine (ki _ _ _).mono ?_
        rintro e w2 ⟨rfl, rfl⟩
        go_wp2
        go_ret
        exact ⟨n - 1, rfl, HC1.out, by omega, by omega, HF1.out⟩
    by_cases h3 : u.k = 3
    · have hr := cmp_s hk h3
      rw [hr]
      clear hr ha hc hP hQ b0 b1 ih bb ki hC hC0 hC1 hF1 d0 d1 hww hP1 hQ1 hsz hcl4 hcl0 h1
      generalize u.l.length = l1 at *
      generalize v.l.length = l2 at *
      generalize ordS u.s v.s = r at *
      generalize bs u.s = s1 at *
      generalize bs v.s = s2 at *
      generalize u.n = n1 at *
      generalize v.n = n2 at *
      generalize szU u = sz at *
      generalize u.k = k1 at *
      generalize v.k = k2 at *
      subst hk
      subst h3
      go_enter Try.func37, Try.ntmps37
      go_wp2_with fail
      refine (kt _).mono ?_
      rintro e w2 ⟨rfl, rfl⟩
      go_wp2
      go_ret
      exact ⟨n - 1, rfl, HC1.out, by omega, by omega, HF1.out⟩
    have e1 : (u.k == 1) = false := beq_eq_false_iff_ne.2 (fun e => h1 (.inl e))
    have e2 : (u.k == 2) = false := beq_eq_false_iff_ne.2 (fun e => h1 (.inr e))
    have e3 : (u.k == 3) = false := beq_eq_false_iff_ne.2 h3
    have e0 : (u.k != v.k) = false := by simp [hk]
    have hoz : ∀ a b : Int, ordI a b = 0 ↔ a = b := fun a b => ordI_zero
    by_cases hlen : u.l.length = v.l.length
    · have hz0 : ordI (u.l.length : Int) (v.l.length : Int) = 0 := ordI_zero.2 (by omega)
      have ki1 := fun W => ki (u.l.length : Int) (v.l.length : Int) W
      rw [hz0] at ki1
      by_cases hs : u.s = v.s
      · have hr := cmp_l hk (fun e => h1 (.inl e)) (fun e => h1 (.inr e)) h3 hlen hs
        rw [hr]
        have hs0 : ordS u.s v.s = 0 := ordS_zero.2 hs
        rw [hs0] at kt
        have h4 : u.k = 4 ∧ clL u.l := by
          rcases hcl4 with h | h | h | h
          · exact absurd (.inl h.1) h1
          · exact absurd (.inr h.1) h1
          · exact absurd h.1 h3
          · exact ⟨h.1, h.2.2⟩
        rw [if_pos h4.1] at hsz
        have kc := ih v.l p q cap cap' b c (n - 1) _ h4.2 (by omega) (by omega) hbc hC1 hP1 hQ1 hlen
        have HZ : Hid (szU u = 1 + szUL u.l) := Lib.hid hsz
        have Hz := Lib.hid hz
        clear hr ha hc hP hQ b0 b1 ih bb ki hC hC0 hC1 hF1 d0 d1 hww hP1 hQ1 hcl4 hcl0 hsz h1 h3 hz0 hs hs0 hoz hlen h4 hz
        generalize u.l = l at *
        generalize v.l = m at *
        generalize bs u.s = s1 at *
        generalize bs v.s = s2 at *
        generalize u.n = n1 at *
        generalize v.n = n2 at *
        generalize szU u = sz at *
        generalize cmpL l m = r at *
        generalize szUL l = zl at *
        generalize l.length = l1 at *
        generalize m.length = l2 at *
        generalize u.k = k1 at *
        generalize v.k = k2 at *
        subst hk
        go_enter Try.func37, Try.ntmps37
        go_wp2_with (first
          | (go_at_call 51; refine (ki1 _).mono ?_; rintro e w2 ⟨rfl, rfl⟩)
          | (go_at_call 52; refine (kt _).mono ?_; rintro e w2 ⟨rfl, rfl⟩)
          | (go_at_call 53; refine kc.mono ?_; rintro e w2 ⟨m2, rfl, hC2, hn1, hn2, hF2⟩))
        go_ret
        exact ⟨m2, rfl, hC2, by have := HZ.out; omega, by omega, HF1.out.trans hF2⟩
      · have hr := cmp_nm hk (fun e => h1 (.inl e)) (fun e => h1 (.inr e)) h3 hlen hs
        rw [hr]
        have hs0 : ordS u.s v.s ≠ 0 := fun e => hs (ordS_zero.1 e)
        have e5 : (ordS u.s v.s != 0) = true := bne_iff_ne.2 hs0
        have e6 : (ordS u.s v.s == 0) = false := beq_eq_false_iff_ne.2 hs0
        clear hr ha hc hP hQ b0 b1 ih bb ki hC hC0 hC1 hF1 d0 d1 hww hP1 hQ1 hsz hcl4 hcl0 h1 h3 hz0 hs hs0 hoz hlen
        generalize u.l.length = l1 at *
        generalize v.l.length = l2 at *
        generalize ordS u.s v.s = r at *
        generalize bs u.s = s1 at *
        generalize bs v.s = s2 at *
        generalize u.n = n1 at *
        generalize v.n = n2 at *
        generalize szU u = sz at *
        generalize u.k = k1 at *
        generalize v.k = k2 at *
        subst hk
        go_enter Try.func37, Try.ntmps37
        go_wp2_with (first
          | (go_at_call 51; refine (ki1 _).mono ?_; rintro e w2 ⟨rfl, rfl⟩)
          | (go_at_call 52; refine (kt _).mono ?_; rintro e w2 ⟨rfl, rfl⟩))
        go_ret
        exact ⟨n - 1, rfl, HC1.out, by omega, by omega, HF1.out⟩
    · have hz0 : ordI (u.l.length : Int) (v.l.length : Int) ≠ 0 := fun e => hlen (by have := ordI_zero.1 e; omega)
      have ki1 := fun W => ki (u.l.length : Int) (v.l.length : Int) W
      have e5 : (ordI (u.l.length : Int) (v.l.length : Int) != 0) = true := bne_iff_ne.2 hz0
      have e6 : (ordI (u.l.length : Int) (v.l.length : Int) == 0) = false := beq_eq_false_iff_ne.2 hz0
      have hr := cmp_len hk (fun e => h1 (.inl e)) (fun e => h1 (.inr e)) h3 hlen
      rw [hr]
      clear hr ha hc hP hQ b0 b1 ih bb ki hC hC0 hC1 hF1 d0 d1 hww hP1 hQ1 hsz hcl4 hcl0 h1 h3 hz0 hoz hlen kt
      generalize ordI (u.l.length : Int) (v.l.length : Int) = r at *
      generalize u.l.length = l1 at *
      generalize v.l.length = l2 at *
      generalize bs u.s = s1 at *
      generalize bs v.s = s2 at *
      generalize u.n = n1 at *
      generalize v.n = n2 at *
      generalize szU u = sz at *
      generalize u.k = k1 at *
      generalize v.k = k2 at *
      subst hk
      go_enter Try.func37, Try.ntmps37
      go_wp2_with (go_at_call 51; refine (ki1 _).mono ?_; rintro e w2 ⟨rfl, rfl⟩)
      go_ret
      exact ⟨n - 1, rfl, HC1.out, by omega, by omega, HF1.out⟩
  · have e0 : (u.k != v.k) = true := bne_iff_ne.2 hk
    have e00 : (u.k == v.k) = false := beq_eq_false_iff_ne.2 hk
    rw [cmp_k hk]
    clear ha hc hP hQ b0 b1 ih bb hC hC0 hC1 hF1 d0 d1 hww hP1 hQ1 hsz hcl4 hcl0 kt hk
    generalize u.l.length = l1 at *
    generalize v.l.length = l2 at *
    generalize bs u.s = s1 at *
    generalize bs v.s = s2 at *
    generalize u.n = n1 at *
    generalize v.n = n2 at *
    generalize szU u = sz at *
    generalize u.k = k1 at *
    generalize v.k = k2 at *
    go_enter Try.func37, Try.ntmps37
    go_wp2_with fail
    refine (ki _ _ _).mono ?_
    rintro e w2 ⟨rfl, rfl⟩
    go_wp2
    go_ret
    exact ⟨n - 1, rfl, HC1.out, by omega, by omega, HF1.out⟩
theorem pcmp_c (u : U) : PcOk u := all_parts (P := PcOk) (fun u ih => pc_step u (cf_step u.l ih)) u
set_option maxHeartbeats 2000000 in
/-- what comparing two terms gives -/
theorem compare_c {u v : U} {a a' : Value} {w : World} (hu : clU u) (hz : szU u ≤ 4000) (ha : Ru w.heap.size w u a) (hc : Ru w.heap.size w v a') :
    Calls Try.prog 21 #[uV u a, uV v a'] w fun e w' => e = .returned (.int .i64 (cmpU u v)) ∧ Below w.heap.size w w' := by
  obtain ⟨p, cap, rfl, _, hP⟩ := ha.parts
  obtain ⟨q, cap', rfl, _, hQ⟩ := hc.parts
  obtain ⟨b0, b1, bz, bb⟩ := box2 w (.cells #[.int .i64 u.k, .int .i64 u.n, .string (bs u.s), .slice p u.l.length cap] 25) (.cells #[.int .i64 v.k, .int .i64 v.n, .string (bs v.s), .slice q v.l.length cap'] 25)
  have hcb := allocB ((w.alloc (.cells #[.int .i64 u.k, .int .i64 u.n, .string (bs u.s), .slice p u.l.length cap] 25)).alloc (.cells #[.int .i64 v.k, .int .i64 v.n, .string (bs v.s), .slice q v.l.length cap'] 25)) (.cells #[.int .i64 4000] 60)
  have hC := heap_alloc_new ((w.alloc (.cells #[.int .i64 u.k, .int .i64 u.n, .string (bs u.s), .slice p u.l.length cap] 25)).alloc (.cells #[.int .i64 v.k, .int .i64 v.n, .string (bs v.s), .slice q v.l.length cap'] 25)) (.cells #[.int .i64 4000] 60)
  have hbb := bb.trans (hcb.mono bb.size)
  rw [bz] at hC
  obtain ⟨x0, x1, x2, x3, _⟩ := cells4 ((hcb.block w.heap.size (by omega)).trans b0)
  obtain ⟨y0, y1, y2, y3, _⟩ := cells4 ((hcb.block (w.heap.size + 1) (by omega)).trans b1)
  have kx := pcmp_c u v (.slice p u.l.length cap) (.slice q v.l.length cap') w.heap.size (w.heap.size + 1 + 1) 4000 _ hu (by omega) hz (by omega) hC (ha.stay hbb) (hc.stay hbb)
  have HB := Lib.hid hbb
  have HBz := Lib.hid bz
  unfold uV at kx ⊢
  clear ha hc hP hQ b0 b1 bz bb hcb hC hbb
  go_enter Try.func21, Try.ntmps21
  go_wp2_with fail
  refine kx.mono ?_
  rintro e w2 ⟨m, rfl, _, _, _, hF⟩
  have HB2 : Hid (Below w.heap.size w w2) := Lib.hid (HB.out.trans (hF.below (b := w.heap.size) HB.out.size (fun k hk => by omega)))
  clear kx hF x0 x1 x2 x3 y0 y1 y2 y3
  go_wp2
  go_ret
  exact ⟨rfl, HB2.out⟩
end Go.Proofs.Ytjccohcigopdfaa.tm
end
