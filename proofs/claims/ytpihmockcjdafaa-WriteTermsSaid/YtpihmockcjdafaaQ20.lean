/- What the marks of a text are.; The reference's Read.; The reference's One.; The law's own functions: same (two terms that are one), top. -/
import Derived.Test.YtpihmockcjdafaaQ11
import Derived.Test.YtpihmockcjdafaaQ13
import Derived.Test.YtpihmockcjdafaaQ19
import Derived.Test.YtpihmockcjdafaaQ6
import Derived.Deep.RegionHeld3
import Derived.Test.YtpihmockcjdafaaQ5
set_option linter.unusedVariables false
set_option linter.unusedSimpArgs false
section
/- What the marks of a text are. -/
namespace Go.Proofs.Ytpihmockcjdafaa.lx

def KM (t : Tok) : Prop := t.kind = 5 → t.text ∈ rr.marks
theorem km_snoc {ts : List Tok} {t : Tok} (h : ∀ x ∈ ts, KM x) (ht : KM t) : ∀ x ∈ ts ++ [t], KM x := fun x hx => by
  rcases List.mem_append.1 hx with h1 | h1
  · exact h x h1
  · rw [List.mem_singleton] at h1; subst h1; exact ht
theorem cl8 : ∀ b : UInt8, cl b = 8 → [b] ∈ rr.marks := by
  intro b
  have h : ∀ n, n < 256 → cls n = 8 → [n.toUInt8] ∈ rr.marks := by decide +kernel
  intro hb
  have := h b.toNat b.toNat_lt hb
  rwa [show b.toNat.toUInt8 = b from by simp] at this
theorem km_no {k : Nat} {x : List UInt8} {f n : Nat} (h : k ≠ 5) : KM ⟨k, x, f, n⟩ := fun e => absurd e h
theorem opening_km {ts ts' : List Tok} {n : Nat} {b : UInt8} {m' : Mode} (h : opening ts n b = .go ts' m') (hg : ∀ x ∈ ts, KM x) : ∀ x ∈ ts', KM x := by
  unfold opening at h
  split at h
  · cases h; exact hg
  split at h
  · cases h; exact km_snoc hg (km_no (by decide))
  split at h
  · rename_i h8
    cases h
    exact km_snoc hg fun _ => cl8 b h8
  split at h
  · cases h; exact hg
  · cases h; exact hg
theorem start_km {M : Nat} {ts ts' : List Tok} {n : Nat} {b : UInt8} {m' : Mode} (h : start M ts n b = .go ts' m') (hg : ∀ x ∈ ts, KM x) : ∀ x ∈ ts', KM x := by
  unfold start at h
  split at h
  · cases h; exact hg
  split at h
  · cases h; exact hg
  split at h
  · cases h; exact hg
  split at h
  · cases h
  split at h
  · cases h
  · exact opening_km h hg
theorem kind_km (c : Nat) (acc : List UInt8) (f n : Nat) : KM ⟨kindOf c, acc, f, n⟩ := km_no (by
  unfold kindOf
  split
  · decide
  · split <;> decide)
theorem step_km {M : Nat} {ts ts' : List Tok} {n : Nat} {b : UInt8} {m m' : Mode} (h : step M ts n b m = .go ts' m') (hg : ∀ x ∈ ts, KM x) : ∀ x ∈ ts', KM x := by
  cases m with
  | btw => exact start_km h hg
  | line => simp only [step] at h; split at h <;> cases h <;> exact hg
  | slash f =>
    simp only [step] at h
    split at h
    · cases h; exact hg
    split at h
    · cases h
    split at h
    · cases h; exact hg
    · exact start_km h (km_snoc hg (km_no (by decide)))
  | dot f =>
    simp only [step] at h
    split at h
    · cases h; exact hg
    · refine start_km h (km_snoc hg (km_no ?_))
      split <;> decide
  | rem f => simp only [step] at h; split at h <;> cases h <;> exact hg
  | star f => simp only [step] at h; (repeat' split at h) <;> cases h <;> exact hg
  | word c f acc =>
    simp only [step] at h
    split at h
    · cases h; exact hg
    · exact start_km h (km_snoc hg (kind_km _ _ _ _))
  | quo f acc => simp only [step] at h; (repeat' split at h) <;> cases h <;> exact hg
  | quoq f acc =>
    simp only [step] at h
    split at h
    · cases h; exact hg
    · exact start_km h (km_snoc hg (km_no (by decide)))
  | esc f acc => simp only [step] at h; (repeat' split at h) <;> cases h <;> exact hg
theorem ans_km {M : Nat} {out : List Tok} : ∀ (l : List UInt8) (ts : List Tok) (n : Nat) (m : Mode), (∀ x ∈ ts, KM x) → ans M l ts n m = .ok out → ∀ x ∈ out, KM x := by
  intro l
  induction l with
  | nil =>
    intro ts n m hg h
    cases m <;> simp only [ans_nil, fin] at h
    case slash f =>
      split at h <;> cases h
      exact km_snoc hg (km_no (by decide))
    case dot f => cases h; exact km_snoc hg (km_no (by decide))
    case word c f acc => cases h; exact km_snoc hg (kind_km _ _ _ _)
    case quoq f acc => cases h; exact km_snoc hg (km_no (by decide))
    all_goals first | (cases h; done) | (cases h; exact hg)
  | cons b l ih =>
    intro ts n m hg h
    rw [ans_cons] at h
    cases hs : step M ts n b m with
    | go ts' m' => rw [hs] at h; exact ih _ _ _ (step_km hs hg) h
    | bad p e => rw [hs] at h; cases h
theorem mark_toks (l : List UInt8) : ∀ x ∈ outToks (toksD l), x.kind = 5 → x.text ∈ rr.marks := by
  unfold toksD
  split
  · intro x hx; cases hx
  · unfold toks
    cases h : ans 1000 l [] 0 .btw with
    | ok ts => exact ans_km l [] 0 .btw (by simp) h
    | bad p e => intro x hx; cases hx
end Go.Proofs.Ytpihmockcjdafaa.lx
end
section
/- The reference's Read. -/
namespace Go.Proofs.Ytpihmockcjdafaa.rr
open Go.RowKit
open Go.Proofs.Ytpihmockcjdafaa.rd
open Go.Proofs.Ytpihmockcjdafaa.op (bs strC Both Tb bs_data)
open Go.Proofs.Ytpihmockcjdafaa.lx (Tok Tk Out toksD rtoks outToks outP outE tcell tcells cell_at ieq_yes ieq_no outE_bad good_toks mark_toks)
set_option maxRecDepth 20000

/-- how the loop stands: the reader r, the sentences v in blocks from a on -/
structure Zl (r a : Nat) (S : List UInt8) (tk : Value) (L : List Tok) (j : Nat) (v : Value) (l : List Sn) (w wr : World) : Prop where
  rd : ∃ b nv nm p, Rr r b S tk L j nv nm p 0 wr
  ss : Ss a wr v l
  bl : Below a w wr
  len : l.length ≤ j
  ar : a ≤ r
section
variable {r a j b p q : Nat} {S : List UInt8} {tk v nv : Value} {L : List Tok} {l : List Sn} {nm : List (List UInt8)} {w wr w2 : World}
theorem cells6 {B : Nat} {a0 a1 a2 a3 a4 a5 : Value} {t : TypeId} (h : w.heap[B]? = some (.cells #[a0, a1, a2, a3, a4, a5] t (0, 0))) (j : Nat) : w.cell? ⟨B, j, none⟩ = (#[a0, a1, a2, a3, a4, a5] : Array Value)[j]? := cell_at h j
/-- a new sentence: no names -/
theorem Zl.fresh (h : Zl r a S tk L j v l w wr) (hR : Rr r b S tk L j nv nm p 0 wr) : Rr r (wr.setCell ⟨r, 3, none⟩ (.slice none 0 0)).heap.size S tk L j (.slice none 0 0) [] p 0 (wr.setCell ⟨r, 3, none⟩ (.slice none 0 0)) ∧
    Ss a (wr.setCell ⟨r, 3, none⟩ (.slice none 0 0)) v l ∧ Below a w (wr.setCell ⟨r, 3, none⟩ (.slice none 0 0)) := by
  refine ⟨⟨by rw [heap_set_at hR.blk]; rfl, own_kept hR.toks (kt_set hR.blk (by decide)), World.ownsRow_nil _ _ _ _, hR.le, Nat.zero_le _,
    both_below hR.tb fun k hk => Below.heap_setCell _ _ _ _ (by have := hR.lo; show k ≠ r; omega), hR.lo, by have := hR.lt; simpa [World.setCell] using this, Nat.le_refl _, hR.good, hR.mks, hR.en⟩,
    h.ss.kept (kt_set hR.blk (by decide)) (kt_set hR.blk (by decide)) (kt_set hR.blk (by decide)), h.bl.setCell (p := ⟨r, 3, none⟩) h.ar _⟩
/-- a term has come -/
theorem Zl.got {t : T} {av nv6 : Value} {nm6 : List (List UInt8)} (hS : Ss a w2 v l) (hB : Below a w w2) (ha : a ≤ r) (hR : Rr r w2.heap.size S tk L j nv nm p 0 w2) {w6 : World} {i6 p6 k6 : Nat} (hF : Fr r w2.heap.size w2 w6) (hR6 : Rr r w2.heap.size S tk L i6 nv6 nm6 p6 k6 w6) (hT : Rp (fun k => w2.heap.size ≤ k) w6 t av) :
    Ss a w6 v l ∧ Below a w w6 ∧ Hg a w6 (t, nm6) (av, nv6) := by
  have hk : ∀ ty, ty ≠ 69 → Kt ty w2 w6 := fun ty hty k cs fr hk => by
    rw [hF.block k (lt_of hk) (fun e => by subst e; rw [hR.blk] at hk; cases hk; exact hty rfl) (.inl (lt_of hk))]; exact hk
  have hl := hR.lt
  have hz : a ≤ w2.heap.size := by omega
  exact ⟨hS.kept (hk _ (by decide)) (hk _ (by decide)) (hk _ (by decide)), hB.trans ((below hF hR).mono ha), hT.imp fun k _ hk => Nat.le_trans hz hk, World.ownsRow.mono hR6.names hz⟩
/-- one sentence more -/
theorem Zl.push {v' : Value} {w7 : World} {o : Obj} {t : Sn} {z : Value × Value} {zs : List (Value × Value)} (hR : Rr r b S tk L j nv nm p 0 w2) (hzs : zs.length = l.length) (hown : w2.ownsRow a 29 5 v l.length (scells (l.zip zs)))
    (hall : ∀ i (hi : i < l.length) (hz : i < zs.length), Hg a w2 l[i] zs[i]) (ht : Hg a w2 t z) (hgr : (w2.alloc o).grownBy w7 v.ownBlock) (hn : w7.ownsRow a 29 5 v' (l.length + 1) (scells (l.zip zs) ++ scell t z)) (hl : l.length + 1 ≤ j) (hb : Below a w w2) (ha : a ≤ r) (ha2 : 0 ≤ a) :
    Zl r a S tk L j v' (l ++ [t]) w w7 := by
  have hk := fun ty (hty : ty ≠ 29) => grown_ktv (t := ty) hown hgr hty
  have hlr := hR.lt
  have hbl := grown_belowv hown hgr (by omega)
  refine ⟨⟨b, nv, nm, p, hk _ (by decide) _ _ _ hR.blk, own_kept hR.toks (hk _ (by decide)), own_kept hR.names (hk _ (by decide)), hR.le, hR.nml, both_below hR.tb fun k hk => hbl.block k (by omega), hR.lo, hR.rb, Nat.le_trans hR.bz hbl.size, hR.good, hR.mks, hR.en⟩,
    ⟨zs ++ [z], by rw [List.length_append, List.length_append, hzs]; rfl, ?_, fun i hi hz => ?_⟩, hb.trans hbl, by rw [List.length_append, List.length_singleton]; omega, ha⟩
  · rw [List.length_append, List.length_singleton, ← scells_zip _ _ _ _ hzs]; exact hn
  · have hg : Hg a w2 (l ++ [t])[i] (zs ++ [z])[i] := by
      by_cases hil : i < l.length
      · rw [List.getElem_append_left hil, List.getElem_append_left (by omega)]; exact hall i hil (by omega)
      · have hie : i = l.length := by rw [List.length_append, List.length_singleton] at hi; omega
        subst hie
        simp [hzs]
        exact ht
    exact hg.kept (hk _ (by decide)) (hk _ (by decide))
theorem sent_ok {i6 : Nat} {nm6 : List (List UInt8)} {t : T} {n : Nat} (h : termP 65 1200 ((ab L).drop j, []) = .ok (t, ((ab L).drop i6, nm6))) (h6 : (tkAt L n i6).kind = 6) : sentP ((ab L).drop j) = .ok ((t, nm6), (ab L).drop (i6 + 1)) := by
  unfold sentP; rw [h]; rw [tkAt_kind] at h6; simp only [h6, if_true, tail_drop]
theorem sent_no {i6 : Nat} {nm6 : List (List UInt8)} {t : T} {n : Nat} (h : termP 65 1200 ((ab L).drop j, []) = .ok (t, ((ab L).drop i6, nm6))) (h6 : (tkAt L n i6).kind ≠ 6) : sentP ((ab L).drop j) = .error 50 := by
  unfold sentP; rw [h]; rw [tkAt_kind] at h6; simp only [h6, if_false]
theorem sent_bad {k : Nat} (h : termP 65 1200 ((ab L).drop j, []) = .error k) : sentP ((ab L).drop j) = .error k := by
  unfold sentP; rw [h]
end
theorem hgrD {W w7 : World} {o : Obj} {x : Option Nat} (h : (W.drew.alloc o).grownBy w7 x) : (W.alloc o).grownBy w7 x := ⟨h.os, h.tape, h.output, h.size, h.block⟩
theorem push_cells {r a b j p k B n : Nat} {S : List UInt8} {tk nv v : Value} {L : List Tok} {nm : List (List UInt8)} {xs : List Value} {x0 x1 x2 x3 : Value} {W w7 : World} {o : Obj} (hown : W.ownsRow a 29 5 v n xs) (hb : W.heap[B]? = some (.cells #[x0, x1, x2, x3] 24 (0, 0))) (hR : Rr r b S tk L j nv nm p k W) (hgr : (W.alloc o).grownBy w7 v.ownBlock) :
    w7.cell? ⟨B, 0, none⟩ = some x0 ∧ w7.cell? ⟨B, 1, none⟩ = some x1 ∧ w7.cell? ⟨B, 2, none⟩ = some x2 ∧ w7.cell? ⟨B, 3, none⟩ = some x3 ∧ w7.cell? ⟨r, 3, none⟩ = some nv := by
  have h1 := grown_ktv (t := 24) hown hgr (by decide) _ _ _ hb
  have h2 := grown_ktv (t := 69) hown hgr (by decide) _ _ _ hR.blk
  obtain ⟨y0, y1, y2, y3, _⟩ := cells4 h1
  exact ⟨y0, y1, y2, y3, by rw [cell_at h2]; rfl⟩
set_option maxHeartbeats 4000000 in
theorem rread_c (s : ByteArray) (w : World) (hb : Both w) (hp : 0 ≤ w.heap.size) (hz : s.size ≤ 9223372036854775807) :
    Calls Try.prog 20 #[.string s] w (NQ w (readP (toksD s.data.toList))) := by
  have kt := rtoks s w hz
  have hgd := good_toks s.data.toList
  have hmk := mark_toks s.data.toList
  have HB := Lib.hid hb
  have hll : s.data.toList.length = s.size := by simp
  have hbd := bs_data s
  rcases ho : toksD s.data.toList with ts | ⟨p, k⟩
  · rw [ho] at kt hgd hmk
    have hsz : s.size ≤ 4096 := by
      by_cases h : s.size ≤ 4096
      · exact h
      · unfold toksD at ho
        rw [if_pos (by simp; omega)] at ho; cases ho
    have hX0 : readP (.ok ts) = appE [] (sentsP ts.length ((ab ts).drop 0)) := by show sentsP ts.length (ab ts) = _; rw [List.drop_zero]; cases sentsP ts.length (ab ts) <;> rfl
    generalize readP (.ok ts) = X at hX0 ⊢
    have HX := Lib.hid hX0
    have Hgd := Lib.hid hgd
    have Hmk := Lib.hid hmk
    clear hb ho hX0 hgd hmk
    generalize hS : s.data.toList = S at *
    clear hS
    subst hbd
    go_enter Try.func20, Try.ntmps20
    go_wp2_with fail
    refine kt.mono ?_
    rintro en w1 ⟨v, rfl, hT, hb1⟩
    have hT2 := hT.mono (Nat.zero_le _)
    obtain ⟨va, vc, rfl⟩ := hT.shape
    have hs1 := hb1.size
    have HB1 := Lib.hid hb1
    have HT := Lib.hid hT2
    have hlen := Hgd.out.len
    clear kt hT hT2 hb1
    unfold outP outE
    rw [show outToks (Out.ok ts) = ts from rfl] at HT hlen ⊢
    have hW1 := (Below.refl w1.heap.size w1).alloc (Nat.le_refl _) (.cells #[.string (bs S), .slice va ts.length vc, .int .i64 0, .slice none 0 0, .int .i64 0, .int .i64 0] 69)
    have hW2 := hW1.alloc hW1.size (.cells #[] 29)
    have hb0 := heap_alloc_new w1 (.cells #[.string (bs S), .slice va ts.length vc, .int .i64 0, .slice none 0 0, .int .i64 0, .int .i64 0] 69)
    have hz0 := size_alloc w1 (.cells #[.string (bs S), .slice va ts.length vc, .int .i64 0, .slice none 0 0, .int .i64 0, .int .i64 0] 69)
    have hb1 := Lib.alloc_old (w1.alloc (.cells #[.string (bs S), .slice va ts.length vc, .int .i64 0, .slice none 0 0, .int .i64 0, .int .i64 0] 69)) (.cells #[] 29) w1.heap.size (by omega)
    have hb2 := heap_alloc_new (w1.alloc (.cells #[.string (bs S), .slice va ts.length vc, .int .i64 0, .slice none 0 0, .int .i64 0, .int .i64 0] 69)) (.cells #[] 29)
    rw [hz0] at hb2
    rw [hb0] at hb1
    have hz2 := size_alloc (w1.alloc (.cells #[.string (bs S), .slice va ts.length vc, .int .i64 0, .slice none 0 0, .int .i64 0, .int .i64 0] 69)) (.cells #[] 29)
    rw [hz0] at hz2
    have hsS : S.length ≤ 4096 := by omega
    change Hid (rd.Good ts) at Hgd
    change Hid (∀ x ∈ ts, x.kind = 5 → x.text ∈ marks) at Hmk
    have HZ := Lib.hid (show Zl w1.heap.size w.heap.size S (.slice va ts.length vc) ts 0 (.slice (some ⟨w1.heap.size + 1, 0, none⟩) 0 0) [] w ((w1.alloc (.cells #[.string (bs S), .slice va ts.length vc, .int .i64 0, .slice none 0 0, .int .i64 0, .int .i64 0] 69)).alloc (.cells #[] 29)) from
      ⟨⟨w1.heap.size + 1, .slice none 0 0, [], 0, hb1, own_kept HT.out (Kt.below hW2), World.ownsRow_nil _ _ _ _, Nat.zero_le _, Nat.le_refl _, HB.out.kept (HB1.out.trans (hW2.mono hs1)), by omega, by omega, by omega, Hgd.out, Hmk.out, by omega⟩,
        ⟨[], rfl, World.ownsRow.mono (own0 hb2) (by omega), fun i hi => absurd hi (Nat.not_lt_zero _)⟩, HB1.out.trans (hW2.mono hs1), Nat.le_refl _, hs1⟩)
    clear hW1 hW2 hb0 hz0 hb1 hb2 hz2
    go_wp2_with fail
    generalize World.alloc (World.alloc w1 _) _ = W at *
    have hrr : w.heap.size ≤ w1.heap.size := hs1
    clear HT HB HB1 hs1
    generalize w1.heap.size = r at *
    go_loopg [9] ts.length (fun k v wr => ∃ (j : Nat) (l : List Sn) (f : Nat), k = ts.length - j ∧ ts.length - j ≤ f ∧ Hid (Zl r w.heap.size S (.slice va ts.length vc) ts j v l w wr) ∧ Hid (X = appE l (sentsP f ((ab ts).drop j))))
    case atStart => exact ⟨0, [], ts.length, by omega, by omega, HZ, HX⟩
    case round =>
      clear HZ HX
      obtain ⟨j, l, f, hgk, hf, HZ, HX⟩ := hrel
      obtain ⟨b, nv, nm, p, hR⟩ := HZ.out.rd
      obtain ⟨xa, xc, rfl⟩ := HZ.out.ss.shape
      have hjl := hR.le
      have d2 : wr.cell? ⟨r, 2, none⟩ = some (.int .i64 (j : Nat)) := by rw [hR.cell]; rfl
      have d3 : wr.cell? ⟨r, 3, none⟩ = some nv := by rw [hR.cell]; rfl
      have hfr := hR.free
      by_cases hlt : j < ts.length
      · have hlt2 : (j : Int) < ts.length := by omega
        have hne : (ab ts).drop j ≠ [] := by
          intro h
          have := congrArg List.length h
          rw [List.length_drop, ab_len] at this
          simp at this; omega
        obtain ⟨f, rfl⟩ : ∃ f', f = f' + 1 := ⟨f - 1, by omega⟩
        obtain ⟨h1, h2, h3⟩ := HZ.out.fresh hR
        have kx : Calls Try.prog 35 #[.pointer (some ⟨r, 0, none⟩), .int .i64 1200, .int .i64 0] (wr.setCell ⟨r, 3, none⟩ (.slice none 0 0)) (SQ r (wr.setCell ⟨r, 3, none⟩ (.slice none 0 0)).heap.size S (.slice va ts.length vc) ts j (wr.setCell ⟨r, 3, none⟩ (.slice none 0 0)) (termP 65 1200 ((ab ts).drop j, []))) :=
          term_all 65 0 rfl 1200 j _ _ _ _ (by decide) (by decide) h1
        have HR0 := Lib.hid h1
        have HS0 := Lib.hid h2
        have HB0 := Lib.hid h3
        have har := HZ.out.ar
        have hlj := HZ.out.len
        have Hne := Lib.hid hne
        clear hR h1 h2 h3 hne HZ
        go_wp2_with fail
        generalize World.setCell wr ⟨r, 3, none⟩ _ = W2 at *
        refine kx.mono ?_
        rintro en w2 ⟨t, a2, i6, nv6, nm6, p6, k6, rfl, hT, hi6, hR6, hF6, hA⟩
        obtain ⟨ap, an, ac, rfl⟩ := hT.shape
        obtain ⟨na, nn, nc, rfl⟩ := own_shape hR6.names
        obtain ⟨g1, g2, g3⟩ := Zl.got HS0.out HB0.out har HR0.out hF6 hR6 hT
        have hbo := (Below.refl w2.heap.size w2).alloc (Nat.le_refl _) (.cells #[.int .i64 (t.k : Nat), .int .i64 t.n, .string (bs t.s), .slice ap an ac] 24)
        have HR6 := Lib.hid (hR6.stay hbo)
        have HS6 := Lib.hid (g1.stay hbo)
        have HB6 := Lib.hid (g2.trans (hbo.mono g2.size))
        have HG6 := Lib.hid (g3.kept (Kt.below hbo) (Kt.below hbo))
        have hbx := Lib.hid (heap_alloc_new w2 (.cells #[.int .i64 (t.k : Nat), .int .i64 t.n, .string (bs t.s), .slice ap an ac] 24))
        have c5 : (w2.alloc (.cells #[.int .i64 (t.k : Nat), .int .i64 t.n, .string (bs t.s), .slice ap an ac] 24)).cell? ⟨r, 5, none⟩ = some (.int .i64 (k6 : Nat)) := by rw [HR6.out.cell]; rfl
        have hle6 := hR6.le
        have hz2 := g2.size
        have hb2 := hR6.bz
        have hlr := hR6.lt
        clear hT hR6 hF6 g1 g2 g3 hbo kx HR0 HS0 HB0 d2 d3 hfr
        have hf := field_k
        by_cases hk6 : k6 = 0
        · subst hk6
          have hX := hA.ok rfl
          have kn := next_c HR6.out
          by_cases h6 : (tkAt ts S.length i6).kind = 6
          · have HXs := Lib.hid (HX.out.trans (sents_go f l Hne.out (sent_ok (n := S.length) hX h6)))
            have hil : i6 < ts.length := tk_lt (n := S.length) (by omega)
            obtain ⟨y0, y1⟩ := ieq_yes (a := (tkAt ts S.length i6).kind) 6 (by omega)
            clear hX hA HX
            generalize tkAt ts S.length i6 = T0 at *
            unfold tokV at kn
            clear h6
            go_wp2_with fail
            generalize World.alloc w2 _ = W3 at *
            refine kn.mono ?_
            rintro en w4 ⟨rfl, hb⟩
            have hR7 := HR6.out.stay hb
            have HR7 := Lib.hid (hR7.step hil)
            have hk2 := fun ty (h : ty ≠ 69) => kt_set (t := ty) (p := ⟨r, 2, none⟩) (v := .int .i64 ((i6 : Int) + 1)) hR7.blk h
            have hz4 := hb.size
            have HS7 := Lib.hid ((HS6.out.stay hb).kept (hk2 _ (by decide)) (hk2 _ (by decide)) (hk2 _ (by decide)))
            have HG7 := Lib.hid ((HG6.out.kept (Kt.below hb) (Kt.below hb)).kept (hk2 _ (by decide)) (hk2 _ (by decide)))
            have HB7 := Lib.hid ((HB6.out.trans (hb.mono HB6.out.size)).setCell (p := ⟨r, 2, none⟩) har (.int .i64 ((i6 : Int) + 1)))
            have hbx7 := Lib.hid (hk2 24 (by decide) _ _ _ ((hb.block _ (lt_of hbx.out)).trans hbx.out))
            have c5' : w4.cell? ⟨r, 5, none⟩ = some (.int .i64 0) := by rw [hR7.cell]; rfl
            have c2' : w4.cell? ⟨r, 2, none⟩ = some (.int .i64 (i6 : Nat)) := by rw [hR7.cell]; rfl
            have f2' := hR7.free 2
            have jw := wrap1' (n := i6) (by omega)
            clear hR7 hk2 hb kn c5 HR6 HS6 HB6 HG6 hbx
            go_wp2_with fail
            generalize World.setCell w4 ⟨r, 2, none⟩ _ = W5 at *
            have c3 : W5.cell? ⟨r, 3, none⟩ = some (.slice na nn nc) := by rw [HR7.out.cell]; rfl
            obtain ⟨t0, t1, t2, t3, _⟩ := cells4 hbx7.out
            obtain ⟨zs, hzl, hown, hall⟩ := HS7.out
            obtain ⟨i0, hi, hz0, hz1, hz2⟩ := info_parts sent_info3
            have Hown := Lib.hid hown
            have Hall := Lib.hid hall
            clear hown hall
            have hN1 : l.length + 1 ≤ 2000 := by omega
            have h5 : w.heap.size ≤ W5.heap.size := HB7.out.size
            go_region_held3 (fun w' => w'.cell? ⟨w2.heap.size, 0, none⟩ = some (.int .i64 (t.k : Nat)) ∧ w'.cell? ⟨w2.heap.size, 1, none⟩ = some (.int .i64 t.n) ∧ w'.cell? ⟨w2.heap.size, 2, none⟩ = some (.string (bs t.s)) ∧ w'.cell? ⟨w2.heap.size, 3, none⟩ = some (.slice ap an ac) ∧ w'.cell? ⟨r, 3, none⟩ = some (.slice na nn nc)) (first | exact ⟨u0, u1, u2, u3, u4⟩ | go_keep) ((refine step_append_lies _ rfl (.tmp 71) (.tmp 78) 49 rfl w.heap.size 29 i0 _ 5 80 Try.underlying49 hi hz0 hz1 hz2 rfl (by decide) (.slice xa l.length xc) l.length (scells (l.zip zs)) (by simp [Act.eval]) (World.ownsRow.alloc (w := W5.drew) Hown.out _) ⟨W5.heap.size, 0, none⟩ 1 1 (scell (t, nm6) (.slice ap an ac, .slice na nn nc)) (by simp [Act.eval]) rfl (snews W5.drew _ _) (snews_one _ _ rfl rfl) (by omega) (by unfold maxLen; omega) (by omega) (by simp; omega) _ rfl ?_; intro g7 cap7 w7 hn7 hgr7 hat7 hlt7; have HP7 := Lib.hid (Zl.push HR7.out hzl Hown.out Hall.out HG7.out (o := .cells (scell (t, nm6) (.slice ap an ac, .slice na nn nc)).toArray 29) (hgrD hgr7) hn7 (by omega) HB7.out har (by omega)); obtain ⟨u0, u1, u2, u3, u4⟩ := push_cells Hown.out hbx7.out HR7.out (hgrD hgr7); clear hn7 hgr7 hat7))
            all_goals
              obtain ⟨b8, nv8, nm8, p8, hR8⟩ := HP7.out.rd
              have hle8 := hR8.le
              clear hR8 u0 u1 u2 u3 u4
              go_wp2
              go_roundg (ts.length - (i6 + 1))
              case measure => omega
              case rel => exact ⟨i6 + 1, l ++ [(t, nm6)], f, rfl, by omega, HP7, Lib.hid HXs.out⟩
          · obtain ⟨y0, y1⟩ := ieq_no (a := (tkAt ts S.length i6).kind) 6 (by omega)
            have HXs := Lib.hid (HX.out.trans (sents_err f l Hne.out (sent_no (n := S.length) hX h6)))
            clear hX hA HX
            generalize tkAt ts S.length i6 = T0 at *
            unfold tokV at kn
            clear h6
            go_wp2_with fail
            generalize World.alloc w2 _ = W3 at *
            refine kn.mono ?_
            rintro en w4 ⟨rfl, hb⟩
            have HR7 := Lib.hid (HR6.out.stay hb)
            have HB7 := Lib.hid (HB6.out.trans (hb.mono HB6.out.size))
            clear hb kn c5 HR6 HS6 HB6 HG6 hbx
            go_wp2_with fail
            refine (wrong_c HR7.out).mono ?_
            rintro en w5 ⟨rfl, ⟨p7, hR⟩, hF⟩
            have HB8 := Lib.hid (HB7.out.trans ((below hF HR7.out).mono har))
            have c4' : w5.cell? ⟨r, 4, none⟩ = some (.int .i64 (p7 : Nat)) := by rw [hR.cell]; rfl
            have c5' : w5.cell? ⟨r, 5, none⟩ = some (.int .i64 50) := by rw [hR.cell]; rfl
            clear hR hF HR7 HB7
            go_wp2
            go_quiet (fail)
            go_wp2
            go_ret3
            rw [HXs.out]
            exact ⟨p7, rfl, HB8.out.trans (below_drawn _ _ _)⟩
        · have hX := hA.bad hk6
          have HXs := Lib.hid (HX.out.trans (sents_err f l Hne.out (sent_bad hX)))
          have hk2 : ((k6 : Int) == 0) = false := by rw [beq_eq_false_iff_ne]; omega
          have hk3 : ((k6 : Int) != 0) = true := by rw [bne, hk2]; rfl
          have c4' : (w2.alloc (.cells #[.int .i64 (t.k : Nat), .int .i64 t.n, .string (bs t.s), .slice ap an ac] 24)).cell? ⟨r, 4, none⟩ = some (.int .i64 (p6 : Nat)) := by rw [HR6.out.cell]; rfl
          clear hX hA HX HR6 HS6 HG6 hbx hk6
          go_wp2
          go_quiet (fail)
          go_wp2
          go_ret3
          rw [HXs.out]
          exact ⟨p6, rfl, HB6.out.trans (below_drawn _ _ _)⟩
      · have hlt2 : ¬ ((j : Int) < ts.length) := by omega
        have hX2 := Lib.hid (show X = .ok l by rw [HX.out, List.drop_eq_nil_of_le (by rw [ab_len]; omega)]; exact sents_nil f l)
        go_wp2
        go_ret3
        exact hX2.out ▸ ⟨_, rfl, HZ.out.ss, HZ.out.bl⟩
  · rw [ho] at kt
    have hk := outE_bad ho
    have hrp : readP (.bad p k) = .error k := rfl
    rw [hrp]
    clear hb hgd hrp ho hmk
    obtain ⟨x1, x2⟩ := ieq_no (a := k) 0 (by omega)
    go_enter Try.func20, Try.ntmps20
    go_wp2_with fail
    refine kt.mono ?_
    rintro en w1 ⟨v, rfl, hT, hb1⟩
    have HB1 := Lib.hid hb1
    obtain ⟨va, vc, rfl⟩ := hT.shape
    clear kt hT hb1
    unfold outP outE
    go_wp2
    go_ret3
    exact ⟨p, rfl, HB1.out⟩
end Go.Proofs.Ytpihmockcjdafaa.rr
end
section
/- The reference's One. -/
namespace Go.Proofs.Ytpihmockcjdafaa.rr
open Go.RowKit
open Go.Proofs.Ytpihmockcjdafaa.rd
open Go.Proofs.Ytpihmockcjdafaa.op (bs strC Both Tb bs_data)
open Go.Proofs.Ytpihmockcjdafaa.lx (Tok Tk Out toksD rtoks outToks outP outE cell_at ieq_yes ieq_no outToks_len outE_bad)
set_option maxRecDepth 20000

set_option maxHeartbeats 4000000 in
theorem rone_c (s : ByteArray) (w : World) (hb : Both w) (hp : 0 ≤ w.heap.size) (hz : s.size ≤ 9223372036854775800) :
    Calls Try.prog 11 #[.string s] w (OQ w (oneP s.data.toList)) := by
  have hrb0 := Lib.hid (heap_alloc_new w (.cells #[.int .i64 0, .int .i64 0, .string ⟨#[]⟩, .slice none 0 0, .slice none 0 0] 29))
  have hBa := (Below.refl w.heap.size w).alloc (Nat.le_refl _) (.cells #[.int .i64 0, .int .i64 0, .string ⟨#[]⟩, .slice none 0 0, .slice none 0 0] 29)
  have HBa := Lib.hid hBa
  have kt := rtoks s (w.alloc (.cells #[.int .i64 0, .int .i64 0, .string ⟨#[]⟩, .slice none 0 0, .slice none 0 0] 29)) (by omega)
  have hbd0 : (bs (endP s.data.toList)).data.toList = endP s.data.toList := rfl
  have hls : s.data.toList.length = s.size := by simp
  have hsz : (bs (endP s.data.toList)).size ≤ 9223372036854775807 := by
    have := endP_len s.data.toList
    show (endP s.data.toList).length ≤ _
    omega
  have kr := fun w hb hp => rread_c (bs (endP s.data.toList)) w hb hp hsz
  rw [hbd0] at kr
  have hX : oneP s.data.toList = match readP (toksD (endP s.data.toList)) with | .error k => .error k | .ok [x] => .ok x | .ok _ => .error 50 := rfl
  have hke := fun k h => read_err (o := toksD (endP s.data.toList)) rfl (k := k) h
  have HB := Lib.hid hb
  have hws := Lib.hid (size_alloc w (.cells #[.int .i64 0, .int .i64 0, .string ⟨#[]⟩, .slice none 0 0, .slice none 0 0] 29))
  have hap := app_data s s.data.toList rfl
  have hbd := bs_data s
  rcases ho : toksD s.data.toList with ts | ⟨p, k⟩
  · rw [ho] at kt
    have hl : ts.length ≤ 1000 := by have := outToks_len s.data.toList; rw [ho] at this; exact this
    have he : endP s.data.toList = if endsB ts = true then s.data.toList else s.data.toList ++ [32, 46] := by unfold endP; rw [ho]
    have hbe : bs (endP s.data.toList) = if endsB ts = true then s else s ++ ⟨#[32, 46]⟩ := by
      rw [he]; split
      · exact hbd
      · exact hap.symm
    rw [hbe] at kr
    generalize readP (toksD (endP s.data.toList)) = Y at *
    generalize oneP s.data.toList = X at *
    have HX := Lib.hid hX
    have Hke := Lib.hid hke
    clear hX hke hap hbd he hbe hbd0 hsz hb
    rcases ts.eq_nil_or_concat with h0 | h1
    · obtain rfl := h0
      have Kr := Lib.hid (show ∀ w, Both w → 0 ≤ w.heap.size → Calls Try.prog 20 #[.string (s ++ ⟨#[32, 46]⟩)] w (NQ w Y) from fun w h1 h2 => kr w h1 h2)
      clear kr ho
      go_enter Try.func11, Try.ntmps11
      go_wp2_with fail
      refine kt.mono ?_
      rintro en w1 ⟨v, rfl, hT, hb1⟩
      obtain ⟨va, vc, rfl⟩ := hT.shape
      have HB1 := Lib.hid (HBa.out.trans (hb1.mono HBa.out.size))
      have hrb1 := Lib.hid ((hb1.block w.heap.size (lt_of hrb0.out)).trans hrb0.out)
      have hz1 := lt_of hrb1.out
      have kr := Kr.out w1 (HB.out.kept HB1.out) (by have := HB1.out.size; omega)
      clear hb1 kt hT Kr
      unfold outP outE
      go_wp2_with fail
      refine kr.mono ?_
      clear kr
      rcases Y with k | l
      · rintro en w2 ⟨p, rfl, hb⟩
        have HB2 := Lib.hid (HB1.out.trans (hb.mono HB1.out.size))
        have hrb2 := Lib.hid ((hb.block w.heap.size hz1).trans hrb1.out)
        have hk := Hke.out k rfl
        obtain ⟨z1, z2⟩ := ieq_no (a := k) 0 (by omega)
        obtain ⟨r0, r1, r2, r3, r4, rf⟩ := cells5 hrb2.out
        clear hb Hke hk
        generalize hBe : w.heap.size = B at *
        have HBe := Lib.hid hBe
        clear hBe
        go_wp2
        (try simp only [Exit.inBlock, Exit.then])
        refine bodyPost_ret (ret_one rfl _ _ rfl (set5 hrb2.out _ _ _ _ _)) rfl ?_
        rw [HX.out]
        exact ⟨_, rfl, by rw [HBe.out]; exact below5 HB2.out (Nat.le_refl _) _ _ _ _ _⟩
      · rintro en w2 ⟨v, rfl, hs, hb⟩
        have HB2 := Lib.hid (HB1.out.trans (hb.mono HB1.out.size))
        have hrb2 := Lib.hid ((hb.block w.heap.size hz1).trans hrb1.out)
        obtain ⟨r0, r1, r2, r3, r4, rf⟩ := cells5 hrb2.out
        clear hb Hke
        rcases l with _ | ⟨x, l⟩
        · obtain ⟨xa, xc, rfl⟩ := hs.shape
          clear hs
          generalize hBe : w.heap.size = B at *
          have HBe := Lib.hid hBe
          clear hBe
          go_wp2
          (try simp only [Exit.inBlock, Exit.then])
          refine bodyPost_ret (ret_one rfl _ _ rfl (set5 hrb2.out _ _ _ _ _)) rfl ?_
          rw [HX.out]
          exact ⟨_, rfl, by rw [HBe.out]; exact below5 HB2.out (Nat.le_refl _) _ _ _ _ _⟩
        · obtain ⟨g, cap, a, nvs, rfl, hH, hcap, hgl, q0, q1, q2, q3, q4⟩ := hs.head
          rcases l with _ | ⟨y, l⟩
          · obtain ⟨ap, an, ac, rfl⟩ := hH.1.shape
            obtain ⟨na, nn, nc, rfl⟩ := own_shape hH.2
            have HH := Lib.hid hH
            have hz12 := HB1.out.size
            have hH2 := Lib.hid (show Hg w.heap.size w2 x (.slice ap an ac, .slice na nn nc) from ⟨hH.1.imp fun k _ hk => Nat.le_trans hz12 hk, World.ownsRow.mono hH.2 hz12⟩)
            clear hs hH HH
            simp only [List.length_nil, Nat.zero_add] at *
            generalize hBe : w.heap.size = B at *
            have HBe := Lib.hid hBe
            clear hBe
            go_wp2
            (try simp only [Exit.inBlock, Exit.then])
            refine bodyPost_ret (ret_one rfl _ _ rfl (set5 hrb2.out _ _ _ _ _)) rfl ?_
            rw [HX.out]
            exact ⟨_, _, rfl, by rw [HBe.out]; exact hH2.out.kept (kt5 hrb2.out _ _ _ _ _ _ (by decide)) (kt5 hrb2.out _ _ _ _ _ _ (by decide)), by rw [HBe.out]; exact below5 HB2.out (Nat.le_refl _) _ _ _ _ _⟩
          · have hn1 : (((l.length : Int) + 1 + 1) != 1) = true := by simp; omega
            clear hs hH q0 q1 q2 q3 q4
            simp only [List.length_cons] at *
            generalize hBe : w.heap.size = B at *
            have HBe := Lib.hid hBe
            clear hBe
            go_wp2
            (try simp only [Exit.inBlock, Exit.then])
            refine bodyPost_ret (ret_one rfl _ _ rfl (set5 hrb2.out _ _ _ _ _)) rfl ?_
            rw [HX.out]
            exact ⟨_, rfl, by rw [HBe.out]; exact below5 HB2.out (Nat.le_refl _) _ _ _ _ _⟩
    · obtain ⟨ini, t, rfl⟩ := h1
      rw [List.concat_eq_append] at *
      have hlast : endsB (ini ++ [t]) = (t.kind == 6) := by unfold endsB; rw [List.getLast?_concat]
      rw [hlast] at kr
      clear ho hlast
      by_cases h6 : t.kind = 6
      · have Kr := Lib.hid (show ∀ w, Both w → 0 ≤ w.heap.size → Calls Try.prog 20 #[.string s] w (NQ w Y) from fun w h1 h2 => by have := kr w h1 h2; rwa [if_pos (by simpa using h6)] at this)
        obtain ⟨x1, x2⟩ := ieq_yes (a := t.kind) 6 (by omega)
        clear kr h6
        go_enter Try.func11, Try.ntmps11
        go_wp2_with fail
        refine kt.mono ?_
        rintro en w1 ⟨v, rfl, hT, hb1⟩
        obtain ⟨g, cap, rfl, hcap, _, hgl, hcell⟩ := hT.row (by show 0 < (ini ++ [t]).length; simp)
        have c0 := (hcell ini.length (by show ini.length < (ini ++ [t]).length; simp)).1
        have hti : (outToks (.ok (ini ++ [t])))[ini.length]'(by show ini.length < (ini ++ [t]).length; simp) = t := by
          show (ini ++ [t])[ini.length]'_ = t
          simp
        rw [hti] at c0
        have hlen : (outToks (.ok (ini ++ [t]))).length = ini.length + 1 := by show (ini ++ [t]).length = _; simp
        have hl' : ini.length + 1 ≤ 1000 := by simpa using hl
        rw [hlen] at *
        clear hcell hti hlen hl
        generalize ini.length = N at *
        have i1 : IntKind.i64.wrap ((N : Int) + 1 - 1) = (N : Int) := by rw [IntWalk.i64_in _ (by omega)]; omega
        have i2 : (0 : Int) < (N : Int) + 1 := by omega
        have i3 : (0 : Int) ≤ (N : Int) := by omega
        have i4 : (N : Int) < (N : Int) + 1 := by omega
        have i5 : (N : Int) < ((N + 1 : Nat) : Int) := by omega
        have i6 : ((N : Int) + 1 == 0) = false := by rw [beq_eq_false_iff_ne]; omega
        have HB1 := Lib.hid (HBa.out.trans (hb1.mono HBa.out.size))
        have hrb1 := Lib.hid ((hb1.block w.heap.size (lt_of hrb0.out)).trans hrb0.out)
        have hz1 := lt_of hrb1.out
        have kr := Kr.out w1 (HB.out.kept HB1.out) (by have := HB1.out.size; omega)
        clear hb1 kt hT Kr
        unfold outP outE
        go_wp2_with fail
        refine kr.mono ?_
        clear kr
        rcases Y with k | l
        · rintro en w2 ⟨p, rfl, hb⟩
          have HB2 := Lib.hid (HB1.out.trans (hb.mono HB1.out.size))
          have hrb2 := Lib.hid ((hb.block w.heap.size hz1).trans hrb1.out)
          have hk := Hke.out k rfl
          obtain ⟨z1, z2⟩ := ieq_no (a := k) 0 (by omega)
          obtain ⟨r0, r1, r2, r3, r4, rf⟩ := cells5 hrb2.out
          clear hb Hke hk
          generalize hBe : w.heap.size = B at *
          have HBe := Lib.hid hBe
          clear hBe
          go_wp2
          (try simp only [Exit.inBlock, Exit.then])
          refine bodyPost_ret (ret_one rfl _ _ rfl (set5 hrb2.out _ _ _ _ _)) rfl ?_
          rw [HX.out]
          exact ⟨_, rfl, by rw [HBe.out]; exact below5 HB2.out (Nat.le_refl _) _ _ _ _ _⟩
        · rintro en w2 ⟨v, rfl, hs, hb⟩
          have HB2 := Lib.hid (HB1.out.trans (hb.mono HB1.out.size))
          have hrb2 := Lib.hid ((hb.block w.heap.size hz1).trans hrb1.out)
          obtain ⟨r0, r1, r2, r3, r4, rf⟩ := cells5 hrb2.out
          clear hb Hke
          rcases l with _ | ⟨x, l⟩
          · obtain ⟨xa, xc, rfl⟩ := hs.shape
            clear hs
            generalize hBe : w.heap.size = B at *
            have HBe := Lib.hid hBe
            clear hBe
            go_wp2
            (try simp only [Exit.inBlock, Exit.then])
            refine bodyPost_ret (ret_one rfl _ _ rfl (set5 hrb2.out _ _ _ _ _)) rfl ?_
            rw [HX.out]
            exact ⟨_, rfl, by rw [HBe.out]; exact below5 HB2.out (Nat.le_refl _) _ _ _ _ _⟩
          · obtain ⟨g, cap, a, nvs, rfl, hH, hcap, hgl, q0, q1, q2, q3, q4⟩ := hs.head
            rcases l with _ | ⟨y, l⟩
            · obtain ⟨ap, an, ac, rfl⟩ := hH.1.shape
              obtain ⟨na, nn, nc, rfl⟩ := own_shape hH.2
              have HH := Lib.hid hH
              have hz12 := HB1.out.size
              have hH2 := Lib.hid (show Hg w.heap.size w2 x (.slice ap an ac, .slice na nn nc) from ⟨hH.1.imp fun k _ hk => Nat.le_trans hz12 hk, World.ownsRow.mono hH.2 hz12⟩)
              clear hs hH HH
              simp only [List.length_nil, Nat.zero_add] at *
              generalize hBe : w.heap.size = B at *
              have HBe := Lib.hid hBe
              clear hBe
              go_wp2
              (try simp only [Exit.inBlock, Exit.then])
              refine bodyPost_ret (ret_one rfl _ _ rfl (set5 hrb2.out _ _ _ _ _)) rfl ?_
              rw [HX.out]
              exact ⟨_, _, rfl, by rw [HBe.out]; exact hH2.out.kept (kt5 hrb2.out _ _ _ _ _ _ (by decide)) (kt5 hrb2.out _ _ _ _ _ _ (by decide)), by rw [HBe.out]; exact below5 HB2.out (Nat.le_refl _) _ _ _ _ _⟩
            · have hn1 : (((l.length : Int) + 1 + 1) != 1) = true := by simp; omega
              clear hs hH q0 q1 q2 q3 q4
              simp only [List.length_cons] at *
              generalize hBe : w.heap.size = B at *
              have HBe := Lib.hid hBe
              clear hBe
              go_wp2
              (try simp only [Exit.inBlock, Exit.then])
              refine bodyPost_ret (ret_one rfl _ _ rfl (set5 hrb2.out _ _ _ _ _)) rfl ?_
              rw [HX.out]
              exact ⟨_, rfl, by rw [HBe.out]; exact below5 HB2.out (Nat.le_refl _) _ _ _ _ _⟩
      · have Kr := Lib.hid (show ∀ w, Both w → 0 ≤ w.heap.size → Calls Try.prog 20 #[.string (s ++ ⟨#[32, 46]⟩)] w (NQ w Y) from fun w h1 h2 => by have := kr w h1 h2; rwa [if_neg (by simpa using h6)] at this)
        obtain ⟨x1, x2⟩ := ieq_no (a := t.kind) 6 (by omega)
        clear kr h6
        go_enter Try.func11, Try.ntmps11
        go_wp2_with fail
        refine kt.mono ?_
        rintro en w1 ⟨v, rfl, hT, hb1⟩
        obtain ⟨g, cap, rfl, hcap, _, hgl, hcell⟩ := hT.row (by show 0 < (ini ++ [t]).length; simp)
        have c0 := (hcell ini.length (by show ini.length < (ini ++ [t]).length; simp)).1
        have hti : (outToks (.ok (ini ++ [t])))[ini.length]'(by show ini.length < (ini ++ [t]).length; simp) = t := by
          show (ini ++ [t])[ini.length]'_ = t
          simp
        rw [hti] at c0
        have hlen : (outToks (.ok (ini ++ [t]))).length = ini.length + 1 := by show (ini ++ [t]).length = _; simp
        have hl' : ini.length + 1 ≤ 1000 := by simpa using hl
        rw [hlen] at *
        clear hcell hti hlen hl
        generalize ini.length = N at *
        have i1 : IntKind.i64.wrap ((N : Int) + 1 - 1) = (N : Int) := by rw [IntWalk.i64_in _ (by omega)]; omega
        have i2 : (0 : Int) < (N : Int) + 1 := by omega
        have i3 : (0 : Int) ≤ (N : Int) := by omega
        have i4 : (N : Int) < (N : Int) + 1 := by omega
        have i5 : (N : Int) < ((N + 1 : Nat) : Int) := by omega
        have i6 : ((N : Int) + 1 == 0) = false := by rw [beq_eq_false_iff_ne]; omega
        have HB1 := Lib.hid (HBa.out.trans (hb1.mono HBa.out.size))
        have hrb1 := Lib.hid ((hb1.block w.heap.size (lt_of hrb0.out)).trans hrb0.out)
        have hz1 := lt_of hrb1.out
        have kr := Kr.out w1 (HB.out.kept HB1.out) (by have := HB1.out.size; omega)
        clear hb1 kt hT Kr
        unfold outP outE
        go_wp2_with fail
        refine kr.mono ?_
        clear kr
        rcases Y with k | l
        · rintro en w2 ⟨p, rfl, hb⟩
          have HB2 := Lib.hid (HB1.out.trans (hb.mono HB1.out.size))
          have hrb2 := Lib.hid ((hb.block w.heap.size hz1).trans hrb1.out)
          have hk := Hke.out k rfl
          obtain ⟨z1, z2⟩ := ieq_no (a := k) 0 (by omega)
          obtain ⟨r0, r1, r2, r3, r4, rf⟩ := cells5 hrb2.out
          clear hb Hke hk
          generalize hBe : w.heap.size = B at *
          have HBe := Lib.hid hBe
          clear hBe
          go_wp2
          (try simp only [Exit.inBlock, Exit.then])
          refine bodyPost_ret (ret_one rfl _ _ rfl (set5 hrb2.out _ _ _ _ _)) rfl ?_
          rw [HX.out]
          exact ⟨_, rfl, by rw [HBe.out]; exact below5 HB2.out (Nat.le_refl _) _ _ _ _ _⟩
        · rintro en w2 ⟨v, rfl, hs, hb⟩
          have HB2 := Lib.hid (HB1.out.trans (hb.mono HB1.out.size))
          have hrb2 := Lib.hid ((hb.block w.heap.size hz1).trans hrb1.out)
          obtain ⟨r0, r1, r2, r3, r4, rf⟩ := cells5 hrb2.out
          clear hb Hke
          rcases l with _ | ⟨x, l⟩
          · obtain ⟨xa, xc, rfl⟩ := hs.shape
            clear hs
            generalize hBe : w.heap.size = B at *
            have HBe := Lib.hid hBe
            clear hBe
            go_wp2
            (try simp only [Exit.inBlock, Exit.then])
            refine bodyPost_ret (ret_one rfl _ _ rfl (set5 hrb2.out _ _ _ _ _)) rfl ?_
            rw [HX.out]
            exact ⟨_, rfl, by rw [HBe.out]; exact below5 HB2.out (Nat.le_refl _) _ _ _ _ _⟩
          · obtain ⟨g, cap, a, nvs, rfl, hH, hcap, hgl, q0, q1, q2, q3, q4⟩ := hs.head
            rcases l with _ | ⟨y, l⟩
            · obtain ⟨ap, an, ac, rfl⟩ := hH.1.shape
              obtain ⟨na, nn, nc, rfl⟩ := own_shape hH.2
              have HH := Lib.hid hH
              have hz12 := HB1.out.size
              have hH2 := Lib.hid (show Hg w.heap.size w2 x (.slice ap an ac, .slice na nn nc) from ⟨hH.1.imp fun k _ hk => Nat.le_trans hz12 hk, World.ownsRow.mono hH.2 hz12⟩)
              clear hs hH HH
              simp only [List.length_nil, Nat.zero_add] at *
              generalize hBe : w.heap.size = B at *
              have HBe := Lib.hid hBe
              clear hBe
              go_wp2
              (try simp only [Exit.inBlock, Exit.then])
              refine bodyPost_ret (ret_one rfl _ _ rfl (set5 hrb2.out _ _ _ _ _)) rfl ?_
              rw [HX.out]
              exact ⟨_, _, rfl, by rw [HBe.out]; exact hH2.out.kept (kt5 hrb2.out _ _ _ _ _ _ (by decide)) (kt5 hrb2.out _ _ _ _ _ _ (by decide)), by rw [HBe.out]; exact below5 HB2.out (Nat.le_refl _) _ _ _ _ _⟩
            · have hn1 : (((l.length : Int) + 1 + 1) != 1) = true := by simp; omega
              clear hs hH q0 q1 q2 q3 q4
              simp only [List.length_cons] at *
              generalize hBe : w.heap.size = B at *
              have HBe := Lib.hid hBe
              clear hBe
              go_wp2
              (try simp only [Exit.inBlock, Exit.then])
              refine bodyPost_ret (ret_one rfl _ _ rfl (set5 hrb2.out _ _ _ _ _)) rfl ?_
              rw [HX.out]
              exact ⟨_, rfl, by rw [HBe.out]; exact below5 HB2.out (Nat.le_refl _) _ _ _ _ _⟩
  · rw [ho] at kt
    have he : endP s.data.toList = s.data.toList := by unfold endP; rw [ho]
    have hX2 : oneP s.data.toList = .error k := by unfold oneP; rw [he, ho]; rfl
    rw [hX2]
    have hk := outE_bad ho
    clear hX hke hap hbd he hbd0 hsz hb kr ho hX2
    obtain ⟨x1, x2⟩ := ieq_no (a := k) 0 (by omega)
    go_enter Try.func11, Try.ntmps11
    go_wp2_with fail
    refine kt.mono ?_
    rintro en w1 ⟨v, rfl, hT, hb1⟩
    obtain ⟨va, vc, rfl⟩ := hT.shape
    have HB1 := Lib.hid (HBa.out.trans (hb1.mono HBa.out.size))
    have hrb1 := Lib.hid ((hb1.block w.heap.size (lt_of hrb0.out)).trans hrb0.out)
    obtain ⟨r0, r1, r2, r3, r4, rf⟩ := cells5 hrb1.out
    clear hb1 kt hT hrb0 HBa hk
    generalize hBe : w.heap.size = B at *
    have HBe := Lib.hid hBe
    clear hBe
    unfold outP outE
    go_wp2
    (try simp only [Exit.inBlock, Exit.then])
    refine bodyPost_ret (ret_one rfl _ _ rfl (set5 hrb1.out _ _ _ _ _)) rfl ?_
    exact ⟨_, rfl, by rw [HBe.out]; exact below5 HB1.out (Nat.le_refl _) _ _ _ _ _⟩
end Go.Proofs.Ytpihmockcjdafaa.rr
end
section
/- The law's own functions: same (two terms that are one), top. -/
namespace Go.Proofs.Ytpihmockcjdafaa.ls
open Go.RowKit
open Go.Proofs.Ytpihmockcjdafaa.rd
open Go.Proofs.Ytpihmockcjdafaa.op (bs strC)
open Go.Proofs.Ytpihmockcjdafaa.lx (cell_at ieq_yes ieq_no)
set_option maxRecDepth 20000

/-- any block -/
def Any : Nat → Prop := fun _ => True
section
variable {D : Nat → Prop} {w w' : World} {s : List UInt8} {l : List T} {a : Value}
theorem any {t : T} (h : Rp D w t a) : Rp Any w t a := h.imp fun _ _ _ => trivial
theorem shapeL (h : Rp D w (.cmp s l) a) : ∃ p c, a = .slice p l.length c := by
  rw [Rp] at h
  obtain ⟨az, h1, _⟩ := h
  rcases h1.2 with ⟨e1, e2⟩ | ⟨g, cap, cur, e1, _⟩
  · exact ⟨none, 0, by rw [e1, e2]⟩
  · exact ⟨_, _, e1⟩
theorem lenL (h : Rp D w (.cmp s l) a) : l.length ≤ maxLen := by
  rw [Rp] at h
  obtain ⟨az, h1, _⟩ := h
  rcases h1.2 with ⟨e1, e2⟩ | ⟨g, cap, cur, e1, _, _, e4, e5, _⟩
  · rw [e2]; exact Nat.zero_le _
  · omega
theorem elem {i : Nat} (h : Rp D w (.cmp s l) a) (hi : i < l.length) : ∃ g cap p m c, a = .slice (some ⟨g, 0, none⟩) l.length cap ∧ l.length ≤ cap ∧ g < w.heap.size ∧
    Rp D w (l.getD i dfT) (.slice p m c) ∧ w.cell? ⟨g, i * 4, none⟩ = some (.int .i64 ((l.getD i dfT).k : Nat)) ∧ w.cell? ⟨g, i * 4 + 1, none⟩ = some (.int .i64 (l.getD i dfT).n) ∧
    w.cell? ⟨g, i * 4 + 2, none⟩ = some (.string (bs (l.getD i dfT).s)) ∧ w.cell? ⟨g, i * 4 + 3, none⟩ = some (.slice p m c) := by
  rw [Rp] at h
  obtain ⟨az, h1, h2, h3⟩ := h
  have hl := h3.len
  rcases h1.2 with ⟨_, e2⟩ | ⟨g, cap, cur, e1, _, e3, e4, _⟩
  · omega
  have hc := World.ownsRow.cells h1 (g := g) (by rw [e1]; rfl)
  have key : ∀ m u, m < 4 → (tv l[i] (az[i]'(by omega)))[m]? = some u → w.cell? ⟨g, i * 4 + m, none⟩ = some u := fun m u hm hu => by
    have h4 := tvs_get (l.zip az) i m (by simp; omega) hm
    rw [List.getElem_zip] at h4
    have := hc (i * 4 + m) u (by rw [h4]; exact hu)
    rwa [op.addr_add] at this
  have ee : l.getD i dfT = l[i] := by simp [hi]
  have hR := h3.get i hi (by omega)
  obtain ⟨p, m, c, he⟩ := hR.shape
  rw [ee]
  refine ⟨g, cap, p, m, c, e1, e4, lt_of e3, by rw [← he]; exact hR, key 0 _ (by omega) rfl, key 1 _ (by omega) rfl, key 2 _ (by omega) rfl, ?_⟩
  rw [← he]; exact key 3 _ (by omega) rfl
theorem elem_size {i : Nat} (hi : i < l.length) : SizeOf.sizeOf (l.getD i dfT) < SizeOf.sizeOf (T.cmp s l) := by
  have e : l.getD i dfT = l[i] := by simp [hi]
  rw [e]
  have := List.sizeOf_lt_of_mem (List.getElem_mem hi)
  simp only [T.cmp.sizeOf_spec]
  omega
end
theorem boxes (w : World) (o1 o2 : Obj) : ((w.alloc o1).alloc o2).heap[w.heap.size]? = some o1 ∧ ((w.alloc o1).alloc o2).heap[w.heap.size + 1]? = some o2 ∧ ((w.alloc o1).alloc o2).heap.size = w.heap.size + 1 + 1 ∧ Below w.heap.size w ((w.alloc o1).alloc o2) := by
  refine ⟨(Lib.alloc_old _ o2 _ (by simp)).trans (heap_alloc_new w o1), ?_, by simp, ((Below.refl _ w).alloc (Nat.le_refl _) o1).alloc (by simp) o2⟩
  have := heap_alloc_new (w.alloc o1) o2
  rwa [size_alloc] at this
abbrev tV (t : T) (a : Value) : Value := .agg #[.int .i64 (t.k : Nat), .int .i64 t.n, .string (bs t.s), a]
/-- a term's parts -/
def parts : T → List T
  | .leaf _ _ _ => []
  | .cmp _ l => l
/-- the slice a holds the parts -/
structure Pt (w : World) (l : List T) (a : Value) : Prop where
  shape : ∃ p c, a = .slice p l.length c
  len : l.length ≤ maxLen
  el : ∀ i, i < l.length → ∃ g cap p m c, a = .slice (some ⟨g, 0, none⟩) l.length cap ∧ l.length ≤ cap ∧ g < w.heap.size ∧
    Rp Any w (l.getD i dfT) (.slice p m c) ∧ w.cell? ⟨g, i * 4, none⟩ = some (.int .i64 ((l.getD i dfT).k : Nat)) ∧ w.cell? ⟨g, i * 4 + 1, none⟩ = some (.int .i64 (l.getD i dfT).n) ∧
    w.cell? ⟨g, i * 4 + 2, none⟩ = some (.string (bs (l.getD i dfT).s)) ∧ w.cell? ⟨g, i * 4 + 3, none⟩ = some (.slice p m c)
theorem pt {w : World} {t : T} {a : Value} (h : Rp Any w t a) : Pt w (parts t) a := by
  cases t with
  | leaf k n s => rw [Rp] at h; exact ⟨⟨none, 0, h⟩, Nat.zero_le _, fun i hi => absurd hi (Nat.not_lt_zero _)⟩
  | cmp s l => exact ⟨shapeL h, lenL h, fun i hi => elem h hi⟩
theorem parts_size {t : T} {i : Nat} (hi : i < (parts t).length) : SizeOf.sizeOf ((parts t).getD i dfT) < SizeOf.sizeOf t := by
  cases t with
  | leaf k n s => exact absurd hi (Nat.not_lt_zero _)
  | cmp s l => exact elem_size hi
mutual
/-- one more than the greatest number of a variable, below 0: one is too great -/
def topT : T → Int → Int
  | .leaf k N _, n => if n < 0 then n else if k = 1 then (if N < 0 ∨ N > n then -1 else max n (IntKind.i64.wrap (N + 1))) else n
  | .cmp _ l, n => if n < 0 then n else topL l n
def topL : List T → Int → Int
  | [], n => n
  | t :: l, n => topL l (topT t n)
end
theorem topT_eq (t : T) (n : Int) : topT t n = if n < 0 then n else if t.k = 1 then (if t.n < 0 ∨ t.n > n then -1 else max n (IntKind.i64.wrap (t.n + 1))) else topL (parts t) n := by
  cases t with
  | leaf k N s =>
    rw [topT]
    show (if n < 0 then n else if k = 1 then (if N < 0 ∨ N > n then -1 else max n (IntKind.i64.wrap (N + 1))) else n) = (if n < 0 then n else if k = 1 then (if N < 0 ∨ N > n then -1 else max n (IntKind.i64.wrap (N + 1))) else topL [] n)
    rw [topL]
  | cmp s l => rw [topT]; rfl
theorem topL_drop {l : List T} {i : Nat} (hi : i < l.length) (n : Int) : topL (l.drop i) n = topL (l.drop (i + 1)) (topT (l.getD i dfT) n) := by
  rw [List.drop_eq_getElem_cons hi, topL]; simp [hi]
end Go.Proofs.Ytpihmockcjdafaa.ls
end
