/- WriteLists: its walk.; What comes in: integers, names, terms.; The law's own function light: how many parts a term has, whatever they are. -/
import Derived.Test.YtpihmockcjdafaaQ26
import Derived.ChangeSlices
import Derived.Deep.Slices
import Derived.Deep.Strs
import Derived.WideShapes
import Derived.Test.YtpihmockcjdafaaQ22
set_option linter.unusedVariables false
set_option linter.unusedSimpArgs false
section
/- WriteLists: its walk. -/
namespace Go.Proofs.Ytpihmockcjdafaa.wr
open Go.RowKit
open Go.Proofs.Ytpihmockcjdafaa.rd
open Go.Proofs.Ytpihmockcjdafaa.ls (Any any)
open Go.Proofs.Ytpihmockcjdafaa.op (bs strC Both)
open Go.Proofs.Ytpihmockcjdafaa.nm (Fit)
open Go.Proofs.Ytpihmockcjdafaa.lx (Qn GM txT cell_at)
set_option maxRecDepth 20000

/-- the slice at a holds these integers -/
def IRow (w : World) (a : Option Addr) (cap : Nat) (z : List Int) : Prop :=
  z.length ≤ cap ∧ cap ≤ maxLen ∧ (∀ x ∈ z, Fit x) ∧ ∀ i (_ : i < z.length), ∃ x, a = some x ∧ x.block < w.heap.size ∧ w.cell? (x.add i) = some (.int .i64 (z.getD i 0))
theorem IRow.stay {w w' : World} {a : Option Addr} {cap : Nat} {z : List Int} (h : IRow w a cap z) (hb : Below w.heap.size w w') : IRow w' a cap z :=
  ⟨h.1, h.2.1, h.2.2.1, fun i hi => by
    obtain ⟨x, h1, h2, h3⟩ := h.2.2.2 i hi
    refine ⟨x, h1, Nat.lt_of_lt_of_le h2 hb.size, ?_⟩
    rw [← h3]
    unfold World.cell?
    have : (x.add i).block = x.block := by unfold Addr.add; split <;> rfl
    rw [this, hb.block _ h2]⟩
/-- a list's element and its rest in memory -/
theorem cons_rp {D : Nat → Prop} {W : World} {g : Nat} {n : Int} {t : T} {a : Value} (hd : D g) (h : W.heap[g]? = some (.cells #[.int .i64 2, .int .i64 n, .string ⟨#[]⟩, .slice none 0 0, .int .i64 (t.k : Nat), .int .i64 t.n, .string (bs t.s), a] 24 (0, 0))) (ht : Rp D W t a) :
    Rp D W (.cmp [46] [.leaf 2 n [], t]) (.slice (some ⟨g, 0, none⟩) 2 2) := by
  rw [Rp]
  refine ⟨[.slice none 0 0, a], ⟨rfl, .inr ⟨g, 2, _, rfl, Nat.zero_le _, h, Nat.le_refl _, by unfold maxLen; omega, rfl, rfl⟩⟩, fun g' hg' => ?_, ?_⟩
  · have : g = g' := by simpa [Value.ownBlock] using hg'
    rw [← this]; exact hd
  rw [Rps]
  refine ⟨.slice none 0 0, [a], rfl, by rw [Rp], ?_⟩
  rw [Rps]
  exact ⟨a, [], rfl, ht, by rw [Rps]⟩
theorem nums_drop {z : List Int} {i : Nat} (hi : i < z.length) (r : T) : numsT (z.drop i) r = .cmp [46] [.leaf 2 (z.getD i 0) [], numsT (z.drop (i + 1)) r] := by
  unfold numsT
  rw [List.drop_eq_getElem_cons hi, List.foldr_cons]
  simp [hi]
theorem nums_good {r : T} (hr : EndT r) : ∀ (l : List Int), (∀ n ∈ l, Fit n) → fxT (numsT l r) ∧ nkT (numsT l r) ∧ qnU (emb (numsT l r)) ∧ okU (emb (numsT l r)) ∧ szU (emb (numsT l r)) = 2 * l.length + 1 ∧ lvT (numsT l r) = l.length + 1
  | [], _ => by
    show fxT r ∧ nkT r ∧ qnU (emb r) ∧ okU (emb r) ∧ szU (emb r) = 1 ∧ lvT r = 1
    rcases hr with rfl | rfl
    · unfold nilT
      rw [fxT, nkT, emb, qnU, qnUL, okU, szU, lvT]
      exact ⟨fit0, by decide, ⟨.inl (by simp), trivial⟩, .inr (.inr (.inl ⟨rfl, by decide +kernel⟩)), by simp, rfl⟩
    · rw [fxT, nkT, emb, qnU, qnUL, okU, szU, lvT]
      exact ⟨by unfold Fit; omega, by decide, ⟨.inl (by simp), trivial⟩, .inl ⟨rfl, by decide⟩, by simp, rfl⟩
  | n :: l, h => by
    obtain ⟨h1, h2, h3, h4, h5, h6⟩ := nums_good hr l (fun x hx => h x (by simp [hx]))
    show fxT (.cmp [46] [.leaf 2 n [], numsT l r]) ∧ nkT (.cmp [46] [.leaf 2 n [], numsT l r]) ∧ qnU (emb (.cmp [46] [.leaf 2 n [], numsT l r])) ∧ okU (emb (.cmp [46] [.leaf 2 n [], numsT l r])) ∧ szU (emb (.cmp [46] [.leaf 2 n [], numsT l r])) = _ ∧ lvT (.cmp [46] [.leaf 2 n [], numsT l r]) = _
    simp only [fxT, fxL, nkT, nkL, emb, embL, qnU, qnUL, okU, okUL, szU, szUL, lvT, lvL]
    refine ⟨⟨h n (by simp), h1, trivial⟩, ⟨by decide, h2, trivial⟩, ⟨.inl (by simp), ⟨.inl (by simp), trivial⟩, h3, trivial⟩, .inr (.inr (.inr ⟨trivial, q46, by simp, .inr (.inl rfl), h4, trivial⟩)), ?_, ?_⟩
    · rw [h5]; simp; omega
    · rw [h6]; simp only [List.length_cons]; omega
set_option maxHeartbeats 8000000 in
theorem lists_w (a : Option Addr) (cap : Nat) (z : List Int) (op : Bool) (w : World) (hz : IRow w a cap z) (hg : GM w) :
    Calls Try.prog 4 #[.slice a z.length cap, .bool op] w fun e w' => e = .returned (.bool true) ∧ Below w.heap.size w w' := by
  have hm := hz.2.1
  have hle := hz.1
  unfold maxLen at hm
  by_cases hbig : z.length > 200
  · clear hg hz
    go_enter Try.func4, Try.ntmps4
    go_wp2
    go_ret
    exact ⟨rfl, Below.refl _ _⟩
  have hb1 : z.length ≤ 200 := by omega
  have hp := lx.heap_pos hg
  have HG := Lib.hid hg
  have HZ := Lib.hid hz
  clear hg hz
  by_cases hc : op = true ∧ 0 < z.length
  · obtain ⟨rfl, hc⟩ := hc
    have hc2 : (0 : Int) < (z.length : Int) := by omega
    have hx1 := heap_alloc_new w (.cells #[.int .i64 1, .int .i64 7, .string ⟨#[]⟩, .slice none 0 0] 24)
    have HB := Lib.hid ((Below.refl w.heap.size w).alloc (Nat.le_refl _) (.cells #[.int .i64 1, .int .i64 7, .string ⟨#[]⟩, .slice none 0 0] 24))
    have HX : Hid ((w.alloc (.cells #[.int .i64 1, .int .i64 7, .string ⟨#[]⟩, .slice none 0 0] 24)).heap[w.heap.size]? = some (Obj.cells #[.int .i64 ((T.leaf 1 7 []).k : Nat), .int .i64 (T.leaf 1 7 []).n, .string (bs (T.leaf 1 7 []).s), .slice none 0 0] 24 (0, 0))) := Lib.hid hx1
    have hr : EndT (.leaf 1 7 []) := .inr rfl
    have h0 : z = [] → (T.leaf 1 7 []) = nilT := fun e => by rw [e] at hc; exact absurd hc (by decide)
    have hrp : ∀ W, Rp (fun k => k ≠ w.heap.size) W (.leaf 1 7 []) (.slice none 0 0) := fun W => by rw [Rp]
    clear hx1
    go_enter Try.func4, Try.ntmps4
    go_wp2
    clear hc
    generalize (w.alloc (.cells #[.int .i64 1, .int .i64 7, .string ⟨#[]⟩, .slice none 0 0] 24)) = W at *
    generalize (T.leaf 1 7 []) = r at *
    have H0 := Lib.hid h0
    clear h0
    go_loopg [6] z.length (fun k v6 wr => ∃ (j : Nat) (vi : Int) (p : Option Addr) (m c : Nat), k = j ∧ j ≤ z.length ∧ vi = (j : Int) - 1 ∧ v6 = .int .i64 vi ∧ Hid (Below w.heap.size w wr) ∧ Hid (wr.heap[w.heap.size]? = some (.cells #[.int .i64 ((numsT (z.drop j) r).k : Nat), .int .i64 (numsT (z.drop j) r).n, .string (bs (numsT (z.drop j) r).s), .slice p m c] 24 (0, 0))) ∧ Hid (Rp (fun k => k ≠ w.heap.size) wr (numsT (z.drop j) r) (.slice p m c)))
    case atStart => exact ⟨z.length, _, none, 0, 0, rfl, Nat.le_refl _, rfl, by go_num, HB, by rw [List.drop_length]; exact HX, by rw [List.drop_length]; exact Lib.hid (hrp _)⟩
    case round =>
      obtain ⟨j, vi, p, m, c, hgk, hj, hvi, rfl, HW, HXW, HRW⟩ := hrel
      obtain ⟨x0, x1, x2, x3, xf⟩ := cells4 HXW.out
      have hlt0 := lt_of HXW.out
      rcases j with _ | i
      · obtain rfl : vi = -1 := by omega
        rw [List.drop_zero] at HXW HRW
        have hfit := HZ.out.2.2.1
        obtain ⟨n1, n2, n3, n4, n5, n6⟩ := nums_good hr z hfit
        obtain ⟨⟨q, hq⟩, hone, pr, hpr⟩ := lists_back hr hb1 hfit H0.out
        have hgd : goodU (emb (numsT z r)) := ⟨n4, by omega⟩
        have hlen := fx_len nm_nil hgd n3 (Ru.fx (ru_uV (any HRW.out) n1))
        rw [er_emb _ n4] at hlen
        have kwr := fun W (h : GM W) h2 => write_c (w := W) h (ru_uV (a := .slice p m c) (t := numsT z r) h2 n1) n3
        have krr := fun W h2 => rwrite_c (w := W) (ru_uV (a := .slice p m c) (t := numsT z r) h2 n1) n3
        rw [uV_emb, good_txt hgd] at kwr krr
        have ko := fun W => rr.rone_c (bs (txT [] (numsT z r))) W (both_t W) (Nat.zero_le _) (by rw [bs_sz]; omega)
        rw [show (bs (txT [] (numsT z r))).data.toList = txT [] (numsT z r) from rfl] at ko
        have kal := fun (u : T) c' W h1 h2 h3 => alike_all (numsT z r) u (.slice p m c) c' (.slice none 0 0) [] W n2 h1 h2 h3 (pw_nil _) (by rw [n6]; simp; omega)
        have hsz : (bs (txT [] (numsT z r))).size = q.length + 2 := by rw [bs_sz, hq]; simp
        have hbA : lx.bA (bs (txT [] (numsT z r))) 0 = 91 := by show (txT [] (numsT z r)).getD 0 0 = 91; rw [hq]; rfl
        have hbZ : lx.bA (bs (txT [] (numsT z r))) (q.length + 1) = 93 := by show (txT [] (numsT z r)).getD (q.length + 1) 0 = 93; rw [hq]; simp [List.getD_eq_getElem?_getD]
        have z1 : (bs (txT [] (numsT z r))).toList.isEmpty = false := by rw [isE, hq]; rfl
        have z2 : ¬ (bs (txT [] (numsT z r))).toList = [] := by rw [ByteArray.toList_eq]; show ¬ txT [] (numsT z r) = []; rw [hq]; simp
        have hql : q.length ≤ 4200000 := by have := hlen; rw [hq] at this; simp at this; omega
        have hq1 : IntKind.i64.wrap ((q.length : Int) + 2 - 1) = ((q.length + 1 : Nat) : Int) := by rw [IntWalk.i64_in _ (by omega)]; omega
        have hq2 : wrap64 ((q.length : Int) + 2 - 1) = ((q.length + 1 : Nat) : Int) := by unfold wrap64; omega
        have hnr : Hid (nkT (rnT [] (numsT z r) []).1) := Lib.hid (nk_rn _ _ _)
        generalize bs (txT [] (numsT z r)) = tx at *
        generalize rnT [] (numsT z r) [] = Y at *
        generalize oneP (txT [] (numsT z r)) = Z at *
        have e1 : (tx.toList != tx.toList) = false := by simp
        have hgt := lx.get_bA tx
        have HPR := Lib.hid hpr
        have HON := Lib.hid hone
        have HWR := Lib.hid kwr
        have HRR := Lib.hid krr
        have HAL := Lib.hid kal
        have HKO := Lib.hid ko
        clear hfit n1 n2 n3 n4 n5 n6 hq hone hpr hgd hlen kwr krr kal ko hgk hvi
        generalize numsT z r = tt at *
        clear x0 x1 x2 x3 xf
        obtain ⟨x0, x1, x2, x3, xf⟩ := cells4 HXW.out
        go_wp2_with fail
        refine (HWR.out _ (HG.out.below HW.out hp) (any HRW.out)).mono ?_
        rintro e w3 ⟨rfl, hb3⟩
        have HB3 := Lib.hid (HW.out.trans (hb3.mono HW.out.size))
        have HX3 := Lib.hid ((hb3.block _ (lt_of HXW.out)).trans HXW.out)
        have HR3 := Lib.hid ((any HRW.out).kept (Kt.below hb3))
        clear hb3 HW HXW HRW x0 x1 x2 x3 xf
        obtain ⟨x0, x1, x2, x3, _⟩ := cells4 HX3.out
        go_wp2_with fail
        refine (HRR.out _ HR3.out).mono ?_
        rintro e w4 ⟨rfl, hb4⟩
        have HB4 := Lib.hid (HB3.out.trans (hb4.mono HB3.out.size))
        have HX4 := Lib.hid ((hb4.block _ (lt_of HX3.out)).trans HX3.out)
        have HR4 := Lib.hid (HR3.out.kept (Kt.below hb4))
        clear hb4 HB3 HX3 HR3 x0 x1 x2 x3
        obtain ⟨x0, x1, x2, x3, _⟩ := cells4 HX4.out
        go_wp2_with fail
        refine (HKO.out _).mono ?_
        clear hq1 hq2 hgt z1 z2 hbA hbZ hsz
        rcases Z with k | y
        · rintro e w5 ⟨zz, rfl, hb5⟩
          have HB5 := Lib.hid (HB4.out.trans (hb5.mono HB4.out.size))
          obtain rfl : k = 33 := by
            rcases HON.out with h | h
            · cases h
            · cases h; rfl
          clear hb5 HON HWR HRR HAL HKO HR4 HX4 x0 x1 x2 x3
          go_wp2
          go_ret
          exact ⟨rfl, HB5.out.alloc HB5.out.size _⟩
        · rintro e w5 ⟨a2, nvs2, rfl, hH2, hb5⟩
          obtain ⟨p2, m2, c2, rfl⟩ := hH2.1.shape
          obtain ⟨q2, n2, d2, rfl⟩ := own_shape hH2.2
          obtain rfl : y = Y := by
            rcases HON.out with h | h
            · exact Except.ok.inj h
            · cases h
          have hb7 := (Below.refl w5.heap.size w5).alloc (Nat.le_refl _) (.cells #[.int .i64 (y.1.k : Nat), .int .i64 y.1.n, .string (bs y.1.s), .slice p2 m2 c2, .slice q2 n2 d2] 29)
          have hz7 := heap_alloc_new w5 (.cells #[.int .i64 (y.1.k : Nat), .int .i64 y.1.n, .string (bs y.1.s), .slice p2 m2 c2, .slice q2 n2 d2] 29)
          obtain ⟨f0, f1, f2, f3, _⟩ := cells5 hz7
          have hb8 := hb5.trans (hb7.mono hb5.size)
          have HB8 := Lib.hid (HB4.out.trans (hb8.mono HB4.out.size))
          have hX8 := (hb8.block _ (lt_of HX4.out)).trans HX4.out
          clear x0 x1 x2 x3
          obtain ⟨x0, x1, x2, x3, _⟩ := cells4 hX8
          have kal := HAL.out y.1 _ _ hnr.out (HR4.out.kept (Kt.below hb8)) ((any hH2.1).kept (Kt.below hb7))
          rw [HPR.out] at kal
          unfold ls.tV at kal
          clear hb5 hb7 hb8 hH2 hz7 hX8 HON HWR HRR HAL HKO HR4 HX4 HPR hnr HB4
          go_wp2_with fail
          refine kal.mono ?_
          rintro e w9 ⟨v9, rfl, _, hb9⟩
          have HB9 := Lib.hid (HB8.out.trans (hb9.mono HB8.out.size))
          clear hb9 kal
          go_wp2
          go_ret
          exact ⟨rfl, HB9.out⟩
      · obtain rfl : vi = (i : Int) := by omega
        have hiz : i < z.length := by omega
        have i4 : (0 : Int) ≤ (i : Int) := by omega
        have hi2 : (i : Int) < z.length := by omega
        obtain ⟨x, rfl, hxb, hxc⟩ := HZ.out.2.2.2 i hiz
        have hxr : wr.cell? (x.add i) = some (.int .i64 (z.getD i 0)) := by
          rw [← hxc]
          unfold World.cell?
          have : (x.add i).block = x.block := by unfold Addr.add; split <;> rfl
          rw [this, HW.out.block _ hxb]
        clear hxc hvi
        have hnd := nums_drop hiz r
        generalize z.getD i 0 = zi at *
        generalize hT : numsT (z.drop (i + 1)) r = tt at *
        have hO := heap_alloc_new wr (.cells #[.int .i64 2, .int .i64 zi, .string ⟨#[]⟩, .slice none 0 0, .int .i64 (tt.k : Nat), .int .i64 tt.n, .string (bs tt.s), .slice p m c] 24)
        have hXV := (Lib.alloc_old wr (.cells #[.int .i64 2, .int .i64 zi, .string ⟨#[]⟩, .slice none 0 0, .int .i64 (tt.k : Nat), .int .i64 tt.n, .string (bs tt.s), .slice p m c] 24) _ hlt0).trans HXW.out
        have hbV := (Below.refl wr.heap.size wr).alloc (Nat.le_refl _) (.cells #[.int .i64 2, .int .i64 zi, .string ⟨#[]⟩, .slice none 0 0, .int .i64 (tt.k : Nat), .int .i64 tt.n, .string (bs tt.s), .slice p m c] 24)
        have HO1 : Hid (((wr.alloc (.cells #[.int .i64 2, .int .i64 zi, .string ⟨#[]⟩, .slice none 0 0, .int .i64 (tt.k : Nat), .int .i64 tt.n, .string (bs tt.s), .slice p m c] 24)).drew).heap[wr.heap.size]? = some (Obj.cells #[.int .i64 2, .int .i64 zi, .string ⟨#[]⟩, .slice none 0 0, .int .i64 (tt.k : Nat), .int .i64 tt.n, .string (bs tt.s), .slice p m c] 24)) := Lib.hid hO
        have HXV : Hid (((wr.alloc (.cells #[.int .i64 2, .int .i64 zi, .string ⟨#[]⟩, .slice none 0 0, .int .i64 (tt.k : Nat), .int .i64 tt.n, .string (bs tt.s), .slice p m c] 24)).drew).heap[w.heap.size]? = some (.cells #[.int .i64 (tt.k : Nat), .int .i64 tt.n, .string (bs tt.s), .slice p m c] 24 (0, 0))) := Lib.hid hXV
        have HbV : Hid (Below wr.heap.size wr ((wr.alloc (.cells #[.int .i64 2, .int .i64 zi, .string ⟨#[]⟩, .slice none 0 0, .int .i64 (tt.k : Nat), .int .i64 tt.n, .string (bs tt.s), .slice p m c] 24)).drew)) := Lib.hid (hbV.trans ((drew1 _).mono hbV.size))
        have HND := Lib.hid hnd
        clear hO hXV hbV hnd hT
        go_wp2_with fail
        go_region
        all_goals
          generalize ((wr.alloc (.cells #[.int .i64 2, .int .i64 zi, .string ⟨#[]⟩, .slice none 0 0, .int .i64 (tt.k : Nat), .int .i64 tt.n, .string (bs tt.s), .slice p m c] 24)).drew) = V at *
          obtain ⟨b1, b2, b3⟩ := box4 HXV.out (.int .i64 4) (.int .i64 0) (.string ⟨#[46]⟩) (.slice (some ⟨wr.heap.size, 0, none⟩) 2 2)
          have hB2 : Hid (Below w.heap.size w _) := Lib.hid ((HW.out.trans (HbV.out.mono HW.out.size)).trans b3)
          have hO2 := (b2 wr.heap.size (by omega)).trans HO1.out
          have hkd : Kd (fun k => k ≠ w.heap.size) 24 wr _ := fun k cs fr hd hk => (b2 k hd).trans ((HbV.out.block k (lt_of hk)).trans hk)
          have hRt := Rp.keptD hkd HRW.out
          have hRc := cons_rp (D := fun k => k ≠ w.heap.size) (show wr.heap.size ≠ w.heap.size by omega) hO2 hRt
          rw [← HND.out] at hRc
          have hX2 : Hid (_ = some (Obj.cells #[.int .i64 ((numsT (z.drop i) r).k : Nat), .int .i64 (numsT (z.drop i) r).n, .string (bs (numsT (z.drop i) r).s), .slice (some ⟨wr.heap.size, 0, none⟩) 2 2] 24 (0, 0))) := Lib.hid (b1.trans (by rw [HND.out]; rfl))
          have hR2 := Lib.hid hRc
          obtain ⟨v0, v1, v2, v3, vf⟩ := cells4 HXV.out
          clear b1 b2 b3 hO2 hkd hRt hRc HXW HRW HW HND HO1 HXV HbV x0 x1 x2 x3 xf
          go_wp2
          go_roundg i
          case measure => omega
          case rel => exact ⟨i, (i : Int) - 1, some ⟨wr.heap.size, 0, none⟩, 2, 2, rfl, by omega, rfl, by go_num, hB2, hX2, hR2⟩
  · have hx1 := heap_alloc_new w (.cells #[.int .i64 3, .int .i64 0, .string ⟨#[91, 93]⟩, .slice none 0 0] 24)
    have hbA := (Below.refl w.heap.size w).alloc (Nat.le_refl _) (.cells #[.int .i64 3, .int .i64 0, .string ⟨#[91, 93]⟩, .slice none 0 0] 24)
    have HB := Lib.hid hbA
    have HX : Hid ((w.alloc (.cells #[.int .i64 3, .int .i64 0, .string ⟨#[91, 93]⟩, .slice none 0 0] 24)).heap[w.heap.size]? = some (Obj.cells #[.int .i64 (nilT.k : Nat), .int .i64 nilT.n, .string (bs nilT.s), .slice none 0 0] 24 (0, 0))) := Lib.hid hx1
    have hr : EndT nilT := .inl rfl
    have h0 : z = [] → nilT = nilT := fun _ => rfl
    have hrp : ∀ W, Rp (fun k => k ≠ w.heap.size) W nilT (.slice none 0 0) := fun W => by unfold nilT; rw [Rp]
    clear hx1 hbA
    generalize hr0 : nilT = r at HX hr hrp
    have h0 : z = [] → r = nilT := fun _ => hr0.symm
    have H0 := Lib.hid h0
    clear hr0 h0
    have hc' : op = false ∨ (op = true ∧ z.length = 0) := by
      cases op
      · exact .inl rfl
      · exact .inr ⟨rfl, by rcases Nat.eq_zero_or_pos z.length with h | h; exact h; exact absurd ⟨rfl, h⟩ hc⟩
    clear hc
    rcases hc' with rfl | ⟨rfl, hc⟩
    · go_enter Try.func4, Try.ntmps4
      go_wp2
      generalize (w.alloc (.cells #[.int .i64 3, .int .i64 0, .string ⟨#[91, 93]⟩, .slice none 0 0] 24)) = W at *
      go_loopg [6] z.length (fun k v6 wr => ∃ (j : Nat) (vi : Int) (p : Option Addr) (m c : Nat), k = j ∧ j ≤ z.length ∧ vi = (j : Int) - 1 ∧ v6 = .int .i64 vi ∧ Hid (Below w.heap.size w wr) ∧ Hid (wr.heap[w.heap.size]? = some (.cells #[.int .i64 ((numsT (z.drop j) r).k : Nat), .int .i64 (numsT (z.drop j) r).n, .string (bs (numsT (z.drop j) r).s), .slice p m c] 24 (0, 0))) ∧ Hid (Rp (fun k => k ≠ w.heap.size) wr (numsT (z.drop j) r) (.slice p m c)))
      case atStart => exact ⟨z.length, _, none, 0, 0, rfl, Nat.le_refl _, rfl, by go_num, HB, by rw [List.drop_length]; exact HX, by rw [List.drop_length]; exact Lib.hid (hrp _)⟩
      case round =>
        obtain ⟨j, vi, p, m, c, hgk, hj, hvi, rfl, HW, HXW, HRW⟩ := hrel
        obtain ⟨x0, x1, x2, x3, xf⟩ := cells4 HXW.out
        have hlt0 := lt_of HXW.out
        rcases j with _ | i
        · obtain rfl : vi = -1 := by omega
          rw [List.drop_zero] at HXW HRW
          have hfit := HZ.out.2.2.1
          obtain ⟨n1, n2, n3, n4, n5, n6⟩ := nums_good hr z hfit
          obtain ⟨⟨q, hq⟩, hone, pr, hpr⟩ := lists_back hr hb1 hfit H0.out
          have hgd : goodU (emb (numsT z r)) := ⟨n4, by omega⟩
          have hlen := fx_len nm_nil hgd n3 (Ru.fx (ru_uV (any HRW.out) n1))
          rw [er_emb _ n4] at hlen
          have kwr := fun W (h : GM W) h2 => write_c (w := W) h (ru_uV (a := .slice p m c) (t := numsT z r) h2 n1) n3
          have krr := fun W h2 => rwrite_c (w := W) (ru_uV (a := .slice p m c) (t := numsT z r) h2 n1) n3
          rw [uV_emb, good_txt hgd] at kwr krr
          have ko := fun W => rr.rone_c (bs (txT [] (numsT z r))) W (both_t W) (Nat.zero_le _) (by rw [bs_sz]; omega)
          rw [show (bs (txT [] (numsT z r))).data.toList = txT [] (numsT z r) from rfl] at ko
          have kal := fun (u : T) c' W h1 h2 h3 => alike_all (numsT z r) u (.slice p m c) c' (.slice none 0 0) [] W n2 h1 h2 h3 (pw_nil _) (by rw [n6]; simp; omega)
          have hsz : (bs (txT [] (numsT z r))).size = q.length + 2 := by rw [bs_sz, hq]; simp
          have hbA : lx.bA (bs (txT [] (numsT z r))) 0 = 91 := by show (txT [] (numsT z r)).getD 0 0 = 91; rw [hq]; rfl
          have hbZ : lx.bA (bs (txT [] (numsT z r))) (q.length + 1) = 93 := by show (txT [] (numsT z r)).getD (q.length + 1) 0 = 93; rw [hq]; simp [List.getD_eq_getElem?_getD]
          have z1 : (bs (txT [] (numsT z r))).toList.isEmpty = false := by rw [isE, hq]; rfl
          have z2 : ¬ (bs (txT [] (numsT z r))).toList = [] := by rw [ByteArray.toList_eq]; show ¬ txT [] (numsT z r) = []; rw [hq]; simp
          have hql : q.length ≤ 4200000 := by have := hlen; rw [hq] at this; simp at this; omega
          have hq1 : IntKind.i64.wrap ((q.length : Int) + 2 - 1) = ((q.length + 1 : Nat) : Int) := by rw [IntWalk.i64_in _ (by omega)]; omega
          have hq2 : wrap64 ((q.length : Int) + 2 - 1) = ((q.length + 1 : Nat) : Int) := by unfold wrap64; omega
          have hnr : Hid (nkT (rnT [] (numsT z r) []).1) := Lib.hid (nk_rn _ _ _)
          generalize bs (txT [] (numsT z r)) = tx at *
          generalize rnT [] (numsT z r) [] = Y at *
          generalize oneP (txT [] (numsT z r)) = Z at *
          have e1 : (tx.toList != tx.toList) = false := by simp
          have hgt := lx.get_bA tx
          have HPR := Lib.hid hpr
          have HON := Lib.hid hone
          have HWR := Lib.hid kwr
          have HRR := Lib.hid krr
          have HAL := Lib.hid kal
          have HKO := Lib.hid ko
          clear hfit n1 n2 n3 n4 n5 n6 hq hone hpr hgd hlen kwr krr kal ko hgk hvi
          generalize numsT z r = tt at *
          clear x0 x1 x2 x3 xf
          obtain ⟨x0, x1, x2, x3, xf⟩ := cells4 HXW.out
          go_wp2_with fail
          refine (HWR.out _ (HG.out.below HW.out hp) (any HRW.out)).mono ?_
          rintro e w3 ⟨rfl, hb3⟩
          have HB3 := Lib.hid (HW.out.trans (hb3.mono HW.out.size))
          have HX3 := Lib.hid ((hb3.block _ (lt_of HXW.out)).trans HXW.out)
          have HR3 := Lib.hid ((any HRW.out).kept (Kt.below hb3))
          clear hb3 HW HXW HRW x0 x1 x2 x3 xf
          obtain ⟨x0, x1, x2, x3, _⟩ := cells4 HX3.out
          go_wp2_with fail
          refine (HRR.out _ HR3.out).mono ?_
          rintro e w4 ⟨rfl, hb4⟩
          have HB4 := Lib.hid (HB3.out.trans (hb4.mono HB3.out.size))
          have HX4 := Lib.hid ((hb4.block _ (lt_of HX3.out)).trans HX3.out)
          have HR4 := Lib.hid (HR3.out.kept (Kt.below hb4))
          clear hb4 HB3 HX3 HR3 x0 x1 x2 x3
          obtain ⟨x0, x1, x2, x3, _⟩ := cells4 HX4.out
          go_wp2_with fail
          refine (HKO.out _).mono ?_
          clear hq1 hq2 hgt z1 z2 hbA hbZ hsz
          rcases Z with k | y
          · rintro e w5 ⟨zz, rfl, hb5⟩
            have HB5 := Lib.hid (HB4.out.trans (hb5.mono HB4.out.size))
            obtain rfl : k = 33 := by
              rcases HON.out with h | h
              · cases h
              · cases h; rfl
            clear hb5 HON HWR HRR HAL HKO HR4 HX4 x0 x1 x2 x3
            go_wp2
            go_ret
            exact ⟨rfl, HB5.out.alloc HB5.out.size _⟩
          · rintro e w5 ⟨a2, nvs2, rfl, hH2, hb5⟩
            obtain ⟨p2, m2, c2, rfl⟩ := hH2.1.shape
            obtain ⟨q2, n2, d2, rfl⟩ := own_shape hH2.2
            obtain rfl : y = Y := by
              rcases HON.out with h | h
              · exact Except.ok.inj h
              · cases h
            have hb7 := (Below.refl w5.heap.size w5).alloc (Nat.le_refl _) (.cells #[.int .i64 (y.1.k : Nat), .int .i64 y.1.n, .string (bs y.1.s), .slice p2 m2 c2, .slice q2 n2 d2] 29)
            have hz7 := heap_alloc_new w5 (.cells #[.int .i64 (y.1.k : Nat), .int .i64 y.1.n, .string (bs y.1.s), .slice p2 m2 c2, .slice q2 n2 d2] 29)
            obtain ⟨f0, f1, f2, f3, _⟩ := cells5 hz7
            have hb8 := hb5.trans (hb7.mono hb5.size)
            have HB8 := Lib.hid (HB4.out.trans (hb8.mono HB4.out.size))
            have hX8 := (hb8.block _ (lt_of HX4.out)).trans HX4.out
            clear x0 x1 x2 x3
            obtain ⟨x0, x1, x2, x3, _⟩ := cells4 hX8
            have kal := HAL.out y.1 _ _ hnr.out (HR4.out.kept (Kt.below hb8)) ((any hH2.1).kept (Kt.below hb7))
            rw [HPR.out] at kal
            unfold ls.tV at kal
            clear hb5 hb7 hb8 hH2 hz7 hX8 HON HWR HRR HAL HKO HR4 HX4 HPR hnr HB4
            go_wp2_with fail
            refine kal.mono ?_
            rintro e w9 ⟨v9, rfl, _, hb9⟩
            have HB9 := Lib.hid (HB8.out.trans (hb9.mono HB8.out.size))
            clear hb9 kal
            go_wp2
            go_ret
            exact ⟨rfl, HB9.out⟩
        · obtain rfl : vi = (i : Int) := by omega
          have hiz : i < z.length := by omega
          have i4 : (0 : Int) ≤ (i : Int) := by omega
          have hi2 : (i : Int) < z.length := by omega
          obtain ⟨x, rfl, hxb, hxc⟩ := HZ.out.2.2.2 i hiz
          have hxr : wr.cell? (x.add i) = some (.int .i64 (z.getD i 0)) := by
            rw [← hxc]
            unfold World.cell?
            have : (x.add i).block = x.block := by unfold Addr.add; split <;> rfl
            rw [this, HW.out.block _ hxb]
          clear hxc hvi
          have hnd := nums_drop hiz r
          generalize z.getD i 0 = zi at *
          generalize hT : numsT (z.drop (i + 1)) r = tt at *
          have hO := heap_alloc_new wr (.cells #[.int .i64 2, .int .i64 zi, .string ⟨#[]⟩, .slice none 0 0, .int .i64 (tt.k : Nat), .int .i64 tt.n, .string (bs tt.s), .slice p m c] 24)
          have hXV := (Lib.alloc_old wr (.cells #[.int .i64 2, .int .i64 zi, .string ⟨#[]⟩, .slice none 0 0, .int .i64 (tt.k : Nat), .int .i64 tt.n, .string (bs tt.s), .slice p m c] 24) _ hlt0).trans HXW.out
          have hbV := (Below.refl wr.heap.size wr).alloc (Nat.le_refl _) (.cells #[.int .i64 2, .int .i64 zi, .string ⟨#[]⟩, .slice none 0 0, .int .i64 (tt.k : Nat), .int .i64 tt.n, .string (bs tt.s), .slice p m c] 24)
          have HO1 : Hid (((wr.alloc (.cells #[.int .i64 2, .int .i64 zi, .string ⟨#[]⟩, .slice none 0 0, .int .i64 (tt.k : Nat), .int .i64 tt.n, .string (bs tt.s), .slice p m c] 24)).drew).heap[wr.heap.size]? = some (Obj.cells #[.int .i64 2, .int .i64 zi, .string ⟨#[]⟩, .slice none 0 0, .int .i64 (tt.k : Nat), .int .i64 tt.n, .string (bs tt.s), .slice p m c] 24)) := Lib.hid hO
          have HXV : Hid (((wr.alloc (.cells #[.int .i64 2, .int .i64 zi, .string ⟨#[]⟩, .slice none 0 0, .int .i64 (tt.k : Nat), .int .i64 tt.n, .string (bs tt.s), .slice p m c] 24)).drew).heap[w.heap.size]? = some (.cells #[.int .i64 (tt.k : Nat), .int .i64 tt.n, .string (bs tt.s), .slice p m c] 24 (0, 0))) := Lib.hid hXV
          have HbV : Hid (Below wr.heap.size wr ((wr.alloc (.cells #[.int .i64 2, .int .i64 zi, .string ⟨#[]⟩, .slice none 0 0, .int .i64 (tt.k : Nat), .int .i64 tt.n, .string (bs tt.s), .slice p m c] 24)).drew)) := Lib.hid (hbV.trans ((drew1 _).mono hbV.size))
          have HND := Lib.hid hnd
          clear hO hXV hbV hnd hT
          go_wp2_with fail
          go_region
          all_goals
            generalize ((wr.alloc (.cells #[.int .i64 2, .int .i64 zi, .string ⟨#[]⟩, .slice none 0 0, .int .i64 (tt.k : Nat), .int .i64 tt.n, .string (bs tt.s), .slice p m c] 24)).drew) = V at *
            obtain ⟨b1, b2, b3⟩ := box4 HXV.out (.int .i64 4) (.int .i64 0) (.string ⟨#[46]⟩) (.slice (some ⟨wr.heap.size, 0, none⟩) 2 2)
            have hB2 : Hid (Below w.heap.size w _) := Lib.hid ((HW.out.trans (HbV.out.mono HW.out.size)).trans b3)
            have hO2 := (b2 wr.heap.size (by omega)).trans HO1.out
            have hkd : Kd (fun k => k ≠ w.heap.size) 24 wr _ := fun k cs fr hd hk => (b2 k hd).trans ((HbV.out.block k (lt_of hk)).trans hk)
            have hRt := Rp.keptD hkd HRW.out
            have hRc := cons_rp (D := fun k => k ≠ w.heap.size) (show wr.heap.size ≠ w.heap.size by omega) hO2 hRt
            rw [← HND.out] at hRc
            have hX2 : Hid (_ = some (Obj.cells #[.int .i64 ((numsT (z.drop i) r).k : Nat), .int .i64 (numsT (z.drop i) r).n, .string (bs (numsT (z.drop i) r).s), .slice (some ⟨wr.heap.size, 0, none⟩) 2 2] 24 (0, 0))) := Lib.hid (b1.trans (by rw [HND.out]; rfl))
            have hR2 := Lib.hid hRc
            obtain ⟨v0, v1, v2, v3, vf⟩ := cells4 HXV.out
            clear b1 b2 b3 hO2 hkd hRt hRc HXW HRW HW HND HO1 HXV HbV x0 x1 x2 x3 xf
            go_wp2
            go_roundg i
            case measure => omega
            case rel => exact ⟨i, (i : Int) - 1, some ⟨wr.heap.size, 0, none⟩, 2, 2, rfl, by omega, rfl, by go_num, hB2, hX2, hR2⟩
    · have hc2 : ¬ (0 : Int) < (z.length : Int) := by omega
      have Hc := Lib.hid hc
      clear hc
      go_enter Try.func4, Try.ntmps4
      go_wp2
      clear hc2
      generalize (w.alloc (.cells #[.int .i64 3, .int .i64 0, .string ⟨#[91, 93]⟩, .slice none 0 0] 24)) = W at *
      go_loopg [6] z.length (fun k v6 wr => ∃ (j : Nat) (vi : Int) (p : Option Addr) (m c : Nat), k = j ∧ j ≤ z.length ∧ vi = (j : Int) - 1 ∧ v6 = .int .i64 vi ∧ Hid (Below w.heap.size w wr) ∧ Hid (wr.heap[w.heap.size]? = some (.cells #[.int .i64 ((numsT (z.drop j) r).k : Nat), .int .i64 (numsT (z.drop j) r).n, .string (bs (numsT (z.drop j) r).s), .slice p m c] 24 (0, 0))) ∧ Hid (Rp (fun k => k ≠ w.heap.size) wr (numsT (z.drop j) r) (.slice p m c)))
      case atStart => exact ⟨z.length, _, none, 0, 0, rfl, Nat.le_refl _, rfl, by go_num, HB, by rw [List.drop_length]; exact HX, by rw [List.drop_length]; exact Lib.hid (hrp _)⟩
      case round =>
        obtain ⟨j, vi, p, m, c, hgk, hj, hvi, rfl, HW, HXW, HRW⟩ := hrel
        obtain ⟨x0, x1, x2, x3, xf⟩ := cells4 HXW.out
        have hlt0 := lt_of HXW.out
        rcases j with _ | i
        · obtain rfl : vi = -1 := by omega
          rw [List.drop_zero] at HXW HRW
          have hfit := HZ.out.2.2.1
          obtain ⟨n1, n2, n3, n4, n5, n6⟩ := nums_good hr z hfit
          obtain ⟨⟨q, hq⟩, hone, pr, hpr⟩ := lists_back hr hb1 hfit H0.out
          have hgd : goodU (emb (numsT z r)) := ⟨n4, by omega⟩
          have hlen := fx_len nm_nil hgd n3 (Ru.fx (ru_uV (any HRW.out) n1))
          rw [er_emb _ n4] at hlen
          have kwr := fun W (h : GM W) h2 => write_c (w := W) h (ru_uV (a := .slice p m c) (t := numsT z r) h2 n1) n3
          have krr := fun W h2 => rwrite_c (w := W) (ru_uV (a := .slice p m c) (t := numsT z r) h2 n1) n3
          rw [uV_emb, good_txt hgd] at kwr krr
          have ko := fun W => rr.rone_c (bs (txT [] (numsT z r))) W (both_t W) (Nat.zero_le _) (by rw [bs_sz]; omega)
          rw [show (bs (txT [] (numsT z r))).data.toList = txT [] (numsT z r) from rfl] at ko
          have kal := fun (u : T) c' W h1 h2 h3 => alike_all (numsT z r) u (.slice p m c) c' (.slice none 0 0) [] W n2 h1 h2 h3 (pw_nil _) (by rw [n6]; simp; omega)
          have hsz : (bs (txT [] (numsT z r))).size = q.length + 2 := by rw [bs_sz, hq]; simp
          have hbA : lx.bA (bs (txT [] (numsT z r))) 0 = 91 := by show (txT [] (numsT z r)).getD 0 0 = 91; rw [hq]; rfl
          have hbZ : lx.bA (bs (txT [] (numsT z r))) (q.length + 1) = 93 := by show (txT [] (numsT z r)).getD (q.length + 1) 0 = 93; rw [hq]; simp [List.getD_eq_getElem?_getD]
          have z1 : (bs (txT [] (numsT z r))).toList.isEmpty = false := by rw [isE, hq]; rfl
          have z2 : ¬ (bs (txT [] (numsT z r))).toList = [] := by rw [ByteArray.toList_eq]; show ¬ txT [] (numsT z r) = []; rw [hq]; simp
          have hql : q.length ≤ 4200000 := by have := hlen; rw [hq] at this; simp at this; omega
          have hq1 : IntKind.i64.wrap ((q.length : Int) + 2 - 1) = ((q.length + 1 : Nat) : Int) := by rw [IntWalk.i64_in _ (by omega)]; omega
          have hq2 : wrap64 ((q.length : Int) + 2 - 1) = ((q.length + 1 : Nat) : Int) := by unfold wrap64; omega
          have hnr : Hid (nkT (rnT [] (numsT z r) []).1) := Lib.hid (nk_rn _ _ _)
          generalize bs (txT [] (numsT z r)) = tx at *
          generalize rnT [] (numsT z r) [] = Y at *
          generalize oneP (txT [] (numsT z r)) = Z at *
          have e1 : (tx.toList != tx.toList) = false := by simp
          have hgt := lx.get_bA tx
          have HPR := Lib.hid hpr
          have HON := Lib.hid hone
          have HWR := Lib.hid kwr
          have HRR := Lib.hid krr
          have HAL := Lib.hid kal
          have HKO := Lib.hid ko
          clear hfit n1 n2 n3 n4 n5 n6 hq hone hpr hgd hlen kwr krr kal ko hgk hvi
          generalize numsT z r = tt at *
          clear x0 x1 x2 x3 xf
          obtain ⟨x0, x1, x2, x3, xf⟩ := cells4 HXW.out
          go_wp2_with fail
          refine (HWR.out _ (HG.out.below HW.out hp) (any HRW.out)).mono ?_
          rintro e w3 ⟨rfl, hb3⟩
          have HB3 := Lib.hid (HW.out.trans (hb3.mono HW.out.size))
          have HX3 := Lib.hid ((hb3.block _ (lt_of HXW.out)).trans HXW.out)
          have HR3 := Lib.hid ((any HRW.out).kept (Kt.below hb3))
          clear hb3 HW HXW HRW x0 x1 x2 x3 xf
          obtain ⟨x0, x1, x2, x3, _⟩ := cells4 HX3.out
          go_wp2_with fail
          refine (HRR.out _ HR3.out).mono ?_
          rintro e w4 ⟨rfl, hb4⟩
          have HB4 := Lib.hid (HB3.out.trans (hb4.mono HB3.out.size))
          have HX4 := Lib.hid ((hb4.block _ (lt_of HX3.out)).trans HX3.out)
          have HR4 := Lib.hid (HR3.out.kept (Kt.below hb4))
          clear hb4 HB3 HX3 HR3 x0 x1 x2 x3
          obtain ⟨x0, x1, x2, x3, _⟩ := cells4 HX4.out
          go_wp2_with fail
          refine (HKO.out _).mono ?_
          clear hq1 hq2 hgt z1 z2 hbA hbZ hsz
          rcases Z with k | y
          · rintro e w5 ⟨zz, rfl, hb5⟩
            have HB5 := Lib.hid (HB4.out.trans (hb5.mono HB4.out.size))
            obtain rfl : k = 33 := by
              rcases HON.out with h | h
              · cases h
              · cases h; rfl
            clear hb5 HON HWR HRR HAL HKO HR4 HX4 x0 x1 x2 x3
            go_wp2
            go_ret
            exact ⟨rfl, HB5.out.alloc HB5.out.size _⟩
          · rintro e w5 ⟨a2, nvs2, rfl, hH2, hb5⟩
            obtain ⟨p2, m2, c2, rfl⟩ := hH2.1.shape
            obtain ⟨q2, n2, d2, rfl⟩ := own_shape hH2.2
            obtain rfl : y = Y := by
              rcases HON.out with h | h
              · exact Except.ok.inj h
              · cases h
            have hb7 := (Below.refl w5.heap.size w5).alloc (Nat.le_refl _) (.cells #[.int .i64 (y.1.k : Nat), .int .i64 y.1.n, .string (bs y.1.s), .slice p2 m2 c2, .slice q2 n2 d2] 29)
            have hz7 := heap_alloc_new w5 (.cells #[.int .i64 (y.1.k : Nat), .int .i64 y.1.n, .string (bs y.1.s), .slice p2 m2 c2, .slice q2 n2 d2] 29)
            obtain ⟨f0, f1, f2, f3, _⟩ := cells5 hz7
            have hb8 := hb5.trans (hb7.mono hb5.size)
            have HB8 := Lib.hid (HB4.out.trans (hb8.mono HB4.out.size))
            have hX8 := (hb8.block _ (lt_of HX4.out)).trans HX4.out
            clear x0 x1 x2 x3
            obtain ⟨x0, x1, x2, x3, _⟩ := cells4 hX8
            have kal := HAL.out y.1 _ _ hnr.out (HR4.out.kept (Kt.below hb8)) ((any hH2.1).kept (Kt.below hb7))
            rw [HPR.out] at kal
            unfold ls.tV at kal
            clear hb5 hb7 hb8 hH2 hz7 hX8 HON HWR HRR HAL HKO HR4 HX4 HPR hnr HB4
            go_wp2_with fail
            refine kal.mono ?_
            rintro e w9 ⟨v9, rfl, _, hb9⟩
            have HB9 := Lib.hid (HB8.out.trans (hb9.mono HB8.out.size))
            clear hb9 kal
            go_wp2
            go_ret
            exact ⟨rfl, HB9.out⟩
        · obtain rfl : vi = (i : Int) := by omega
          have hiz : i < z.length := by omega
          have i4 : (0 : Int) ≤ (i : Int) := by omega
          have hi2 : (i : Int) < z.length := by omega
          have := Hc.out
          omega
end Go.Proofs.Ytpihmockcjdafaa.wr
end
section
/- What comes in: integers, names, terms. -/
namespace Go.Proofs.Ytpihmockcjdafaa.wr
open Go.RowKit Go.ChangeShapes Go.WideShapes
open Go.Proofs.Ytpihmockcjdafaa.op (bs)
open Go.Proofs.Ytpihmockcjdafaa.nm (Fit)
open Go.Proofs.Ytpihmockcjdafaa.rd (lt_of)

theorem fit_of {n : Int} (h : (Lit.int .i64 n).wf = true) : Fit n := by
  have e1 : IntKind.i64.min = -9223372036854775808 := rfl
  have e2 : IntKind.i64.max = 9223372036854775807 := rfl
  simp [Lit.wf, e1, e2] at h
  unfold Fit; omega
section
variable {H : Type} {enc : TypeId × Value → H} {P : Program} {w : World}
theorem irow_of {t e : TypeId} {v : Value} {d : DataW H} {p : List MemPlace} {a : Option Addr} {len cap : Nat} (ht : P.underlying t = some (.slice e)) (he : P.underlying e = some (.int .i64)) (hc : P.cellsOf e = 1) (hv : v = .slice a len cap)
    (h : DataW.Trod enc P w 0 (fun _ => true) true t v d p) : ∃ z : List Int, z.length = len ∧ IRow w a cap z := by
  subst hv
  obtain ⟨fuel, hf⟩ := h
  rcases open_ints ht he hc hf with ⟨hcs, _⟩ | ⟨ad, len', cap', zs, hcs, hb, hl, hm, hn, _, hcell, hwf⟩
  · simp [Value.cells] at hcs
    obtain ⟨rfl, rfl, rfl⟩ := hcs
    exact ⟨[], rfl, Nat.le_refl _, Nat.zero_le _, (fun x hx => nomatch hx), fun i hi => absurd hi (Nat.not_lt_zero _)⟩
  · simp [Value.cells] at hcs
    obtain ⟨rfl, rfl, rfl⟩ := hcs
    simp only [if_true] at hn
    refine ⟨zs.take len, by rw [List.length_take]; omega, by rw [List.length_take]; omega, hm, fun x hx => fit_of (hwf x (List.mem_of_mem_take hx)), fun i hi => ?_⟩
    rw [List.length_take] at hi
    have hc := hcell i (by omega)
    refine ⟨ad, rfl, by have h := World.block_lt_of_cell? w _ hc; unfold Addr.add at h; split at h <;> exact h, ?_⟩
    rw [hc]
    simp [List.getD_eq_getElem?_getD, List.getElem?_take_of_lt (show i < len by omega)]
theorem nr_of {t e : TypeId} {v : Value} {d : DataW H} {p : List MemPlace} {a : Option Addr} {len cap : Nat} (ht : P.underlying t = some (.slice e)) (he : P.underlying e = some .string) (hc : P.cellsOf e = 1) (hv : v = .slice a len cap)
    (h : DataW.Trod enc P w 0 (fun _ => true) true t v d p) : ∃ nm : List (List UInt8), nm.length = len ∧ Nr w.heap.size w nm a cap ∧ ∀ x ∈ nm, x.length ≤ maxLen := by
  subst hv
  obtain ⟨fuel, hf⟩ := h
  rcases Deep.open_strs ht he hc hf with ⟨hcs, _⟩ | ⟨ad, len', cap', m, Sx, hcs, hb, hl, hm, hmm, _, hS⟩
  · simp [Value.cells] at hcs
    obtain ⟨rfl, rfl, rfl⟩ := hcs
    exact ⟨[], rfl, ⟨Nat.le_refl _, Nat.zero_le _, fun i hi => absurd hi (Nat.not_lt_zero _)⟩, fun x hx => nomatch hx⟩
  · simp [Value.cells] at hcs
    obtain ⟨rfl, rfl, rfl⟩ := hcs
    simp only [if_true] at hmm
    subst hmm
    refine ⟨(List.range len).map fun i => (Sx i).data.toList, by simp, ⟨by simpa using hl, hm, fun i hi => ?_⟩, fun x hx => ?_⟩
    · have hi' : i < len := by simpa using hi
      obtain ⟨h1, h2⟩ := hS i (by omega)
      obtain ⟨b, o, sp⟩ := ad
      have hspot : sp = none := by
        have h0 := (hS 0 (by omega)).1
        simpa [Addr.add] using World.cell?_spot h0
      subst hspot
      refine ⟨b, o, rfl, by have := World.block_lt_of_cell? w _ h1; simpa [add_plain] using this, ?_⟩
      rw [← add_plain, h1]
      simp [hi', bs]
    · obtain ⟨i, hi, rfl⟩ := List.mem_map.1 hx
      have := (hS i (by have := List.mem_range.1 hi; omega)).2
      simpa using this
end
instance : Inhabited U := ⟨dfU⟩
theorem sliceU {b : Nat} {w : World} {ad : Addr} {len cap : Nat} {k n : Int} {s : List UInt8} (hl : len ≤ cap) (hm : cap ≤ maxLen) (hn : Fit n) (h : ∀ i, i < len → ∃ u, El b w (some ad) i u) : ∃ l : List U, Ru b w (.mk k n s l) (.slice (some ad) len cap) := by
  obtain ⟨F, hF⟩ := Deep.choose_lt h
  have hlen : ((List.range len).map F).length = len := by simp
  refine ⟨(List.range len).map F, Ru.shut ⟨some ad, cap, by show _ = Value.slice _ ((List.range len).map F).length _; rw [hlen], by show ((List.range len).map F).length ≤ _; rw [hlen]; exact hl, hm, hn, (rus_iff _ 0).2 fun i hi => ?_⟩⟩
  change i < ((List.range len).map F).length at hi
  rw [hlen] at hi
  rw [Nat.zero_add]
  have e : (((List.range len).map F).getD i dfU) = F i := by simp [hi]
  show El b w (some ad) i (((List.range len).map F).getD i dfU)
  rw [e]; exact hF i hi
theorem term_cells : Try.prog.cellsOf 24 = 4 := by kernel_rfl
theorem int_cells : Try.prog.cellsOf 3 = 1 := by kernel_rfl
theorem str_cells : Try.prog.cellsOf 9 = 1 := by kernel_rfl
theorem sl_cells : Try.prog.cellsOf 22 = 1 := by kernel_rfl
set_option maxRecDepth 100000 in
/-- a term that comes in -/
theorem term_of {H : Type} {enc : TypeId × Value → H} {w : World} : ∀ (fuel : Nat) (cs : List Value) (x : DataW H × List MemPlace), DataW.trod enc Try.prog w 0 (fun _ => true) true fuel 24 cs = some x →
    ∃ (u : U) (a : Value), cs = [.int .i64 u.k, .int .i64 u.n, .string (bs u.s), a] ∧ Ru w.heap.size w u a := by
  intro fuel
  induction fuel using Nat.strongRecOn with
  | ind fuel ih =>
    intro cs x h
    obtain ⟨xs, n, rfl, _, hlen, hxl, hf⟩ := DataW.trod_struct Try.underlying24 h
    rw [term_cells] at hlen
    match cs, hlen with
    | [c0, c1, c2, c3], _ =>
      have hxs : xs.length = 4 := hxl
      have h0 := hf 0 _ rfl
      have h1 := hf 1 _ rfl
      have h2 := hf 2 _ rfl
      have h3 := hf 3 _ rfl
      rw [List.getElem?_eq_getElem (by omega)] at h0 h1 h2 h3
      change DataW.trod enc Try.prog w 0 (fun _ => true) true n 3 (([c0, c1, c2, c3].drop 0).take (Try.prog.cellsOf 3)) = _ at h0
      change DataW.trod enc Try.prog w 0 (fun _ => true) true n 3 (([c0, c1, c2, c3].drop 1).take (Try.prog.cellsOf 3)) = _ at h1
      change DataW.trod enc Try.prog w 0 (fun _ => true) true n 9 (([c0, c1, c2, c3].drop 2).take (Try.prog.cellsOf 9)) = _ at h2
      change DataW.trod enc Try.prog w 0 (fun _ => true) true n 22 (([c0, c1, c2, c3].drop 3).take (Try.prog.cellsOf 22)) = _ at h3
      rw [int_cells] at h0 h1
      rw [str_cells] at h2
      rw [sl_cells] at h3
      change DataW.trod enc Try.prog w 0 (fun _ => true) true n 3 [c0] = _ at h0
      change DataW.trod enc Try.prog w 0 (fun _ => true) true n 3 [c1] = _ at h1
      change DataW.trod enc Try.prog w 0 (fun _ => true) true n 9 [c2] = _ at h2
      change DataW.trod enc Try.prog w 0 (fun _ => true) true n 22 [c3] = _ at h3
      obtain ⟨k, e0, _, _⟩ := DataW.trod_int Try.underlying3 h0
      obtain ⟨m, e1, _, w1⟩ := DataW.trod_int Try.underlying3 h1
      obtain ⟨s, e2, _, _⟩ := DataW.trod_string Try.underlying9 h2
      obtain rfl : c0 = .int .i64 k := by simpa using e0
      obtain rfl : c1 = .int .i64 m := by simpa using e1
      obtain rfl : c2 = .string s := by simpa using e2
      have hs : bs s.data.toList = s := Lib.mk_data s
      rcases DataW.trod_slice Try.underlying22 h3 with ⟨e3, _⟩ | ⟨ad, len, cap, elems, rest, n', rfl, e3, _, _, hl, hm, hle, hel, _, _⟩
      · obtain rfl : c3 = .slice none 0 0 := by simpa using e3
        exact ⟨.mk k m s.data.toList [], .slice none 0 0, by show _ = [_, _, Value.string (bs s.data.toList), _]; rw [hs]; rfl, Ru.shut ⟨none, 0, rfl, Nat.le_refl _, Nat.zero_le _, fit_of w1, by show Rus _ _ [] _ _; rw [Rus]; trivial⟩⟩
      · obtain rfl : c3 = .slice (some ad) len cap := by simpa using e3
        have hcell : ∀ i, i < len → ∃ cs' y, w.cells? 0 (ad.add (i * 4)) 4 = some cs' ∧ DataW.trod enc Try.prog w 0 (fun _ => true) true n' 24 cs' = some y := fun i hi => by
          have := hel i hi
          rw [List.getElem?_eq_getElem (by omega), term_cells] at this
          obtain ⟨cs', g1, g2⟩ := Option.bind_eq_some_iff.1 this
          exact ⟨cs', _, g1, g2⟩
        have hspot : 0 < len → ad.spot = none := fun h0 => by
          obtain ⟨cs', y, g1, g2⟩ := hcell 0 h0
          obtain ⟨_, gl, gc⟩ := World.cells?_some g1
          have := gc 0 (by omega)
          rw [List.getElem?_eq_getElem (by omega)] at this
          have h' := World.cell?_spot this
          simpa [Addr.add] using h'
        obtain ⟨l, hR⟩ := sliceU (b := w.heap.size) (w := w) (ad := ad) (len := len) (cap := cap) (n := m) (k := k) (s := s.data.toList) hl hm (fit_of w1) (fun i hi => by
          obtain ⟨cs', y, g1, g2⟩ := hcell i hi
          obtain ⟨u, a, rfl, hu⟩ := ih n' (by omega) cs' y g2
          obtain ⟨_, gl, gc⟩ := World.cells?_some g1
          obtain ⟨b, o, sp⟩ := ad
          have hsp : sp = none := hspot (by omega)
          subst hsp
          have g0 := gc 0 (by omega)
          have g1' := gc 1 (by omega)
          have g2' := gc 2 (by omega)
          have g3 := gc 3 (by omega)
          rw [add_plain, add_plain] at g0 g1' g2' g3
          refine ⟨u, b, o, a, rfl, World.block_lt_of_cell? w _ g0, g0, g1', g2', g3, hu⟩)
        exact ⟨.mk k m s.data.toList l, .slice (some ad) len cap, by show _ = [_, _, Value.string (bs s.data.toList), _]; rw [hs]; rfl, hR⟩
end Go.Proofs.Ytpihmockcjdafaa.wr
end
section
/- The law's own function light: how many parts a term has, whatever they are. -/
namespace Go.Proofs.Ytpihmockcjdafaa.wr
open Go.RowKit
open Go.Proofs.Ytpihmockcjdafaa.rd
open Go.Proofs.Ytpihmockcjdafaa.op (bs strC)
open Go.Proofs.Ytpihmockcjdafaa.lx (Qn)
open Go.Proofs.Ytpihmockcjdafaa.nm (Fit)
set_option maxRecDepth 20000

mutual
def szA : U → Nat
  | .mk _ _ _ l => 1 + szAL l
def szAL : List U → Nat
  | [] => 0
  | u :: l => szA u + szAL l
end
mutual
def smU : U → Prop
  | .mk _ _ s l => s.length ≤ 1024 ∧ smUL l
def smUL : List U → Prop
  | [] => True
  | u :: l => smU u ∧ smUL l
end
theorem szA_eq (u : U) : szA u = 1 + szAL u.l := by cases u; rw [szA]; rfl
theorem smU_iff (u : U) : smU u ↔ u.s.length ≤ 1024 ∧ smUL u.l := by cases u; rw [smU]; exact Iff.rfl
theorem szAL_len : ∀ (l : List U), l.length ≤ szAL l
  | [] => Nat.le_refl _
  | u :: l => by
    have := szAL_len l
    cases u; simp only [szAL, szA, List.length_cons]; omega
mutual
theorem sm_qn : ∀ (u : U), smU u → qnU u
  | .mk k n s l, h => by
    rw [smU] at h
    rw [qnU]
    exact ⟨.inl (by omega), sm_qnL l h.2⟩
theorem sm_qnL : ∀ (l : List U), smUL l → qnUL l
  | [], _ => by rw [qnUL]; trivial
  | u :: l, h => by
    rw [smUL] at h
    rw [qnUL]
    exact ⟨sm_qn u h.1, sm_qnL l h.2⟩
end
open Classical in
noncomputable def lightU (u : U) (n : Int) : Int := if smU u ∧ (szA u : Int) ≤ n then n - szA u else -1
abbrev LiOk (u : U) : Prop := ∀ (n : Int) (a : Value) (w : World), -1 ≤ n → n ≤ 100000 → Ru w.heap.size w u a →
  Calls Try.prog 13 #[uV u a, .int .i64 n] w fun e w' => e = .returned (.int .i64 (lightU u n)) ∧ Below w.heap.size w w'
theorem light_no {u : U} {n : Int} (h : ¬ (smU u ∧ (szA u : Int) ≤ n)) : lightU u n = -1 := by unfold lightU; rw [if_neg h]
theorem light_yes {u : U} {n : Int} (h : smU u) (k : (szA u : Int) ≤ n) : lightU u n = n - szA u := by unfold lightU; rw [if_pos ⟨h, k⟩]
set_option maxHeartbeats 4000000 in
theorem light_step (u : U) (ih : ∀ i, i < u.l.length → LiOk (u.l.getD i dfU)) : LiOk u := by
  intro n a w hn0 hn ha
  obtain ⟨p, cap, rfl, hf, hP⟩ := ha.parts
  have hm := hP.max
  have hle := hP.le
  have hb0 := heap_alloc_new w (.cells #[.int .i64 u.k, .int .i64 u.n, .string (bs u.s), .slice p u.l.length cap] 24)
  have hbb := (Below.refl w.heap.size w).alloc (Nat.le_refl _) (.cells #[.int .i64 u.k, .int .i64 u.n, .string (bs u.s), .slice p u.l.length cap] 24)
  have hB0 := Lib.hid hb0
  have HBB := Lib.hid hbb
  have hOk := Lib.hid (smU_iff u)
  have hSz := Lib.hid (szA_eq u)
  have IH := Lib.hid ih
  have HP := Lib.hid hP
  have hlen := szAL_len u.l
  have hNo := Lib.hid (light_no (u := u) (n := n))
  have hYes := Lib.hid (light_yes (u := u) (n := n))
  have hss : (bs u.s).size = u.s.length := by simp [bs, ByteArray.size]
  unfold uV
  unfold maxLen at hm
  generalize lightU u n = R at *
  clear ih ha hb0 hbb hP hf
  by_cases h0 : n ≤ 0
  · obtain rfl : R = -1 := hNo.out (by rw [hSz.out]; omega)
    generalize bs u.s = ss at *
    clear hss
    go_enter Try.func13, Try.ntmps13
    go_wp2
    go_ret
    exact ⟨rfl, HBB.out⟩
  have i1 : IntKind.i64.wrap (n - 1) = n - 1 := IntWalk.i64_in _ (by omega)
  by_cases hl : n < (u.l.length : Int)
  · obtain rfl : R = -1 := hNo.out (by rw [hSz.out]; omega)
    generalize bs u.s = ss at *
    clear hss
    go_enter Try.func13, Try.ntmps13
    go_wp2
    go_ret
    exact ⟨rfl, HBB.out⟩
  by_cases hs : 1024 < u.s.length
  · obtain rfl : R = -1 := hNo.out (by rw [hOk.out]; omega)
    have hs2 : (1024 : Int) < ((bs u.s).size : Int) := by rw [hss]; omega
    generalize bs u.s = ss at *
    clear hss hs
    go_enter Try.func13, Try.ntmps13
    go_wp2
    go_ret
    exact ⟨rfl, HBB.out⟩
  have hs2 : ¬ (1024 : Int) < ((bs u.s).size : Int) := by rw [hss]; omega
  have Hr : Hid ((smU u ↔ smUL u.l) ∧ szA u = 1 + szAL u.l) := Lib.hid ⟨by rw [hOk.out]; exact ⟨fun h => h.2, fun h => ⟨by omega, h⟩⟩, hSz.out⟩
  generalize bs u.s = ss at *
  clear hss hs hOk hSz
  go_enter Try.func13, Try.ntmps13
  go_wp2
  generalize (w.alloc (.cells #[.int .i64 u.k, .int .i64 u.n, .string ss, .slice p u.l.length cap] 24)) = w1 at *
  clear hs2
  go_loopg [1, 5] u.l.length (fun k v1 v5 wr => ∃ (i : Nat) (m : Int), k = u.l.length - i ∧ i ≤ u.l.length ∧ v1 = .int .i64 m ∧ v5 = .int .i64 i ∧ -1 ≤ m ∧ m ≤ 100000 ∧ Hid (Below w1.heap.size w1 wr) ∧
    Hid ((m = -1 ∧ R = -1) ∨ (0 ≤ m ∧ (smUL u.l ↔ smUL (u.l.drop i)) ∧ m - szAL (u.l.drop i) = n - 1 - szAL u.l)))
  case atStart => exact ⟨0, n - 1, by omega, by omega, rfl, rfl, by omega, by omega, Lib.hid (Below.refl _ _), Lib.hid (.inr ⟨by omega, Iff.rfl, rfl⟩)⟩
  case round =>
    obtain ⟨i, m, hgk, hi, rfl, rfl, hm0, hm1, HW, HI⟩ := hrel
    have hbx := (HW.out.block w.heap.size (lt_of hB0.out)).trans hB0.out
    obtain ⟨x0, x1, x2, x3, _⟩ := cells4 hbx
    clear hbx
    by_cases hlt : i < u.l.length
    · have hlt2 : (i : Int) < u.l.length := by omega
      by_cases hneg : m < 0
      · have hR : R = -1 := by rcases HI.out with h | h; exact h.2; omega
        obtain rfl : m = -1 := by omega
        clear hneg
        go_wp2
        go_ret
        exact ⟨by subst hR; rfl, HBB.out.trans (HW.out.mono HBB.out.size)⟩
      · have hnn : 0 ≤ m := by omega
        have i4 : (0 : Int) ≤ (i : Int) := by omega
        obtain ⟨ho, hs⟩ : (smUL u.l ↔ smUL (u.l.drop i)) ∧ m - szAL (u.l.drop i) = n - 1 - szAL u.l := by rcases HI.out with h | h; omega; exact h.2
        have hww : Below w.heap.size w wr := HBB.out.trans (HW.out.mono HBB.out.size)
        obtain ⟨g, o, a, hpe, hgl, d0, d1, d2, d3, hR⟩ := (HP.out.stay hww).el i hlt
        subst hpe
        obtain ⟨p', cap', rfl, _, _⟩ := hR.parts
        have hd := drop_cons hlt
        have kx := IH.out i hlt m (.slice p' (u.l.getD i dfU).l.length cap') wr hm0 hm1 (hR.up hww.size)
        generalize hx : u.l.getD i dfU = x at *
        have hsz : szAL (u.l.drop i) = szA x + szAL (u.l.drop (i + 1)) := by rw [hd, szAL]
        have hob : smUL (u.l.drop i) ↔ smU x ∧ smUL (u.l.drop (i + 1)) := by rw [hd, smUL]
        have HI2 : Hid ((lightU x m = -1 ∧ R = -1) ∨ (0 ≤ lightU x m ∧ (smUL u.l ↔ smUL (u.l.drop (i + 1))) ∧ lightU x m - szAL (u.l.drop (i + 1)) = n - 1 - szAL u.l)) := Lib.hid (by
          by_cases hx2 : smU x ∧ (szA x : Int) ≤ m
          · right
            rw [light_yes hx2.1 hx2.2]
            exact ⟨by omega, by rw [ho, hob]; exact ⟨fun h => h.2, fun h => ⟨hx2.1, h⟩⟩, by omega⟩
          · left
            refine ⟨light_no hx2, hNo.out fun ⟨h1, h2⟩ => hx2 ⟨(hob.1 (ho.1 (Hr.out.1.1 h1))).1, ?_⟩⟩
            have := Hr.out.2
            omega)
        have hz : -1 ≤ lightU x m ∧ lightU x m ≤ 100000 := by
          unfold lightU; split <;> omega
        unfold uV at kx
        clear hR hww hd hx hsz hob HI ho hs IH HP hNo hYes hlen
        generalize lightU x m = m2 at *
        go_wp2_with fail
        refine kx.mono ?_
        rintro e w3 ⟨rfl, hb3⟩
        have HW3 := Lib.hid (HW.out.trans (hb3.mono HW.out.size))
        clear hb3 kx
        go_wp2
        go_roundg (u.l.length - (i + 1))
        case measure => omega
        case rel => exact ⟨i + 1, m2, rfl, by omega, rfl, by go_num, hz.1, hz.2, HW3, HI2⟩
    · have hlt2 : ¬ ((i : Int) < u.l.length) := by omega
      have hnil : u.l.drop i = [] := List.drop_eq_nil_of_le (by omega)
      have hR : R = m := by
        rcases HI.out with ⟨h1, h2⟩ | ⟨h1, h2, h3⟩
        · omega
        · rw [hnil] at h2 h3
          have h4 : smUL u.l := h2.2 (by rw [smUL]; trivial)
          rw [szAL] at h3
          have h5 := Hr.out.2
          rw [hYes.out (Hr.out.1.2 h4) (by omega)]; omega
      clear HI hnil
      go_wp2
      go_ret
      exact ⟨by subst hR; rfl, HBB.out.trans (HW.out.mono HBB.out.size)⟩
theorem light_all (u : U) : LiOk u := by
  have key : ∀ n u, SizeOf.sizeOf u ≤ n → LiOk u := by
    intro n
    induction n with
    | zero => intro u h; exact light_step u fun i hi => absurd (part_size hi) (by omega)
    | succ n ih => intro u h; exact light_step u fun i hi => ih _ (by have := part_size hi; omega)
  exact key _ u (Nat.le_refl _)
end Go.Proofs.Ytpihmockcjdafaa.wr
end
