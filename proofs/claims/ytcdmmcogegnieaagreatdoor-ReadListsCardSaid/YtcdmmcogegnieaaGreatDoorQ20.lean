/- The program's ended, One.; The reference's One.; The law's own functions: same (two terms that are one), top.; The law's own function sames: two rows of sentences that are one. -/
import Derived.Test.YtcdmmcogegnieaaGreatDoorQ19
import Derived.Test.YtcdmmcogegnieaaGreatDoorQ8
import Derived.Deep.RegionHeld3
set_option linter.unusedVariables false
set_option linter.unusedSimpArgs false
section
/- The program's ended, One. -/
namespace Go.Proofs.YtcdmmcogegnieaaGreatDoor.rd
open Go.RowKit
open Go.Proofs.YtcdmmcogegnieaaGreatDoor.op (bs strC Both Tb bs_data)
open Go.Proofs.YtcdmmcogegnieaaGreatDoor.lx (Tok Tk Out toksD ltoks rtoks GM outToks outP outE cell_at ieq_yes ieq_no outToks_len good_toks outE_bad)
set_option maxRecDepth 20000

/-- do the tokens end a sentence -/
def endsB (ts : List Tok) : Bool := match ts.getLast? with
  | some t => t.kind == 6
  | none => false
/-- a text that ends its last sentence -/
def endP (l : List UInt8) : List UInt8 := match toksD l with
  | .bad _ _ => l
  | .ok ts => if endsB ts = true then l else l ++ [32, 46]
theorem app_data (s : ByteArray) (l : List UInt8) (h : l = s.data.toList) : s ++ ⟨#[32, 46]⟩ = bs (l ++ [32, 46]) := by
  subst h; apply ByteArray.ext; unfold bs; simp
set_option maxHeartbeats 2000000 in
theorem ended_c (s : ByteArray) (w : World) (hg : GM w) (hz : s.size ≤ 9223372036854775800) :
    Calls Tryz.prog 18 #[.string s] w fun en w' => en = .returned (.string (bs (endP s.data.toList))) ∧ Below w.heap.size w w' := by
  have kt := ltoks s w hg (by omega)
  have hgd := good_toks s.data.toList
  have hap := app_data s s.data.toList rfl
  have hbd := bs_data s
  rcases ho : toksD s.data.toList with ts | ⟨p, k⟩
  · rw [ho] at kt hgd
    have hl := hgd.len
    change ts.length ≤ 1000 at hl
    have he : endP s.data.toList = if endsB ts = true then s.data.toList else s.data.toList ++ [32, 46] := by unfold endP; rw [ho]
    rw [he]
    rcases hts : ts.eq_nil_or_concat with h0 | h1
    · obtain rfl := h0
      have hX : bs (if endsB [] = true then s.data.toList else s.data.toList ++ [32, 46]) = s ++ ⟨#[32, 46]⟩ := by rw [hap]; rfl
      rw [hX]
      clear hX hap hbd hgd ho he hts
      go_enter Tryz.func18, Tryz.ntmps18
      go_wp2_with fail
      refine kt.mono ?_
      rintro en w1 ⟨v, rfl, hT, hb1⟩
      obtain ⟨va, vc, rfl⟩ := hT.shape
      have HB1 := Lib.hid hb1
      clear kt hT hb1
      unfold outP outE outToks
      go_wp2
      go_ret
      exact ⟨rfl, HB1.out⟩
    · obtain ⟨ini, t, rfl⟩ := h1
      rw [List.concat_eq_append] at *
      have hlast : endsB (ini ++ [t]) = (t.kind == 6) := by unfold endsB; rw [List.getLast?_concat]
      rw [hlast]
      clear he hgd ho hts hlast
      by_cases h6 : t.kind = 6
      · have hX : bs (if (t.kind == 6) = true then s.data.toList else s.data.toList ++ [32, 46]) = s := by rw [if_pos (by simpa using h6)]; exact hbd
        rw [hX]
        obtain ⟨x1, x2⟩ := ieq_yes (a := t.kind) 6 (by omega)
        clear hX hap hbd h6
        go_enter Tryz.func18, Tryz.ntmps18
        go_wp2_with fail
        refine kt.mono ?_
        rintro en w1 ⟨v, rfl, hT, hb1⟩
        have HB1 := Lib.hid hb1
        obtain ⟨g, cap, rfl, hcap, _, hgl, hcell⟩ := hT.row (by show 0 < (ini ++ [t]).length; simp)
        have c0 := (hcell ini.length (by show ini.length < (ini ++ [t]).length; simp)).1
        have hti : (outToks (.ok (ini ++ [t])))[ini.length]'(by show ini.length < (ini ++ [t]).length; simp) = t := by
          show (ini ++ [t])[ini.length]'_ = t
          simp
        rw [hti] at c0
        have hlen : (outToks (.ok (ini ++ [t]))).length = ini.length + 1 := by show (ini ++ [t]).length = _; simp
        have hl' : ini.length + 1 ≤ 1000 := by simpa using hl
        rw [hlen] at *
        clear hcell hti kt hT hb1 hlen hl
        generalize ini.length = N at *
        have i1 : IntKind.i64.wrap ((N : Int) + 1 - 1) = (N : Int) := by rw [IntWalk.i64_in _ (by omega)]; omega
        have i2 : (0 : Int) < (N : Int) + 1 := by omega
        have i3 : (0 : Int) ≤ (N : Int) := by omega
        have i4 : (N : Int) < (N : Int) + 1 := by omega
        have i5 : (N : Int) < ((N + 1 : Nat) : Int) := by omega
        unfold outP outE
        go_wp2
        go_ret
        exact ⟨rfl, HB1.out⟩
      · have hX : bs (if (t.kind == 6) = true then s.data.toList else s.data.toList ++ [32, 46]) = s ++ ⟨#[32, 46]⟩ := by rw [if_neg (by simpa using h6)]; exact hap.symm
        rw [hX]
        obtain ⟨x1, x2⟩ := ieq_no (a := t.kind) 6 (by omega)
        clear hX hap hbd h6
        go_enter Tryz.func18, Tryz.ntmps18
        go_wp2_with fail
        refine kt.mono ?_
        rintro en w1 ⟨v, rfl, hT, hb1⟩
        have HB1 := Lib.hid hb1
        obtain ⟨g, cap, rfl, hcap, _, hgl, hcell⟩ := hT.row (by show 0 < (ini ++ [t]).length; simp)
        have c0 := (hcell ini.length (by show ini.length < (ini ++ [t]).length; simp)).1
        have hti : (outToks (.ok (ini ++ [t])))[ini.length]'(by show ini.length < (ini ++ [t]).length; simp) = t := by
          show (ini ++ [t])[ini.length]'_ = t
          simp
        rw [hti] at c0
        have hlen : (outToks (.ok (ini ++ [t]))).length = ini.length + 1 := by show (ini ++ [t]).length = _; simp
        have hl' : ini.length + 1 ≤ 1000 := by simpa using hl
        rw [hlen] at *
        clear hcell hti kt hT hb1 hlen hl
        generalize ini.length = N at *
        have i1 : IntKind.i64.wrap ((N : Int) + 1 - 1) = (N : Int) := by rw [IntWalk.i64_in _ (by omega)]; omega
        have i2 : (0 : Int) < (N : Int) + 1 := by omega
        have i3 : (0 : Int) ≤ (N : Int) := by omega
        have i4 : (N : Int) < (N : Int) + 1 := by omega
        have i5 : (N : Int) < ((N + 1 : Nat) : Int) := by omega
        unfold outP outE
        go_wp2
        go_ret
        exact ⟨rfl, HB1.out⟩
  · rw [ho] at kt
    have he : endP s.data.toList = s.data.toList := by unfold endP; rw [ho]
    rw [he, hbd]
    have hk := outE_bad ho
    clear hgd hap hbd ho he
    obtain ⟨x1, x2⟩ := ieq_no (a := k) 0 (by omega)
    go_enter Tryz.func18, Tryz.ntmps18
    go_wp2_with fail
    refine kt.mono ?_
    rintro en w1 ⟨v, rfl, hT, hb1⟩
    have HB1 := Lib.hid hb1
    obtain ⟨va, vc, rfl⟩ := hT.shape
    clear kt hT hb1
    unfold outP outE
    go_wp2
    go_ret
    exact ⟨rfl, HB1.out⟩

/-- the one sentence of a text, or the error -/
noncomputable def oneP (l : List UInt8) : Except Nat Sn := match readP (toksD (endP l)) with
  | .error k => .error k
  | .ok [x] => .ok x
  | .ok _ => .error 50
/-- what One gives -/
def OQ (w : World) (x : Except Nat Sn) (en : Ending) (w' : World) : Prop :=
  match x with
  | .ok x => ∃ a nvs, en = .returned (.tuple #[.agg #[.int .i64 (x.1.k : Nat), .int .i64 x.1.n, .string (bs x.1.s), a, nvs], .int .i64 0, .int .i64 0]) ∧ Hg w.heap.size w' x (a, nvs) ∧ Below w.heap.size w w'
  | .error k => ∃ p : Int, en = .returned (.tuple #[.agg #[.int .i64 0, .int .i64 0, .string ⟨#[]⟩, .slice none 0 0, .slice none 0 0], .int .i64 p, .int .i64 (k : Nat)]) ∧ Below w.heap.size w w'
theorem ret_one {fn : Func} {p u v : Tmp} (h : fn.results = #[.cell p 27, .tmp u, .tmp v]) (tmps : Array Value) (w : World) {g : Nat} {a b c d e : Value} (hp : tmps.getD p undef = .pointer (some ⟨g, 0, none⟩)) (hg : w.heap[g]? = some (.cells #[a, b, c, d, e] 27 (0, 0))) :
    (results fn tmps).run Tryz.prog w = .ok (.tuple #[.agg #[a, b, c, d, e], tmps.getD u undef, tmps.getD v undef]) w := by
  have hp' : tmps[p]?.getD undef = .pointer (some ⟨g, 0, none⟩) := by simpa using hp
  simp [results, h, hp', asAddr, run_loadVar_row w g 27 27 _ _ _ hg Tryz.underlying27 rfl sent_info, Result.andThen]
theorem endP_len (l : List UInt8) : (endP l).length ≤ l.length + 2 := by
  unfold endP
  split
  · omega
  · split
    · omega
    · simp
theorem below5 {B g : Nat} {w W : World} (h : Below B w W) (hg : B ≤ g) (a b c d e : Value) : Below B w (((((W.setCell ⟨g, 0, none⟩ a).setCell ⟨g, 1, none⟩ b).setCell ⟨g, 2, none⟩ c).setCell ⟨g, 3, none⟩ d).setCell ⟨g, 4, none⟩ e) :=
  ((((h.setCell (p := ⟨g, 0, none⟩) hg _).setCell (p := ⟨g, 1, none⟩) hg _).setCell (p := ⟨g, 2, none⟩) hg _).setCell (p := ⟨g, 3, none⟩) hg _).setCell (p := ⟨g, 4, none⟩) hg _
theorem kt5 {W : World} {B : Nat} {a0 a1 a2 a3 a4 : Value} (hB : W.heap[B]? = some (.cells #[a0, a1, a2, a3, a4] 27 (0, 0))) (x0 x1 x2 x3 x4 : Value) (ty : TypeId) (hty : ty ≠ 27) :
    Kt ty W (((((W.setCell ⟨B, 0, none⟩ x0).setCell ⟨B, 1, none⟩ x1).setCell ⟨B, 2, none⟩ x2).setCell ⟨B, 3, none⟩ x3).setCell ⟨B, 4, none⟩ x4) := by
  have p1 := heap_set_at (j := 0) (v := x0) hB
  have p2 := heap_set_at (j := 1) (v := x1) p1
  have p3 := heap_set_at (j := 2) (v := x2) p2
  have p4 := heap_set_at (j := 3) (v := x3) p3
  exact ((((kt_set (p := ⟨B, 0, none⟩) hB hty).trans (kt_set (p := ⟨B, 1, none⟩) p1 hty)).trans (kt_set (p := ⟨B, 2, none⟩) p2 hty)).trans (kt_set (p := ⟨B, 3, none⟩) p3 hty)).trans (kt_set (p := ⟨B, 4, none⟩) p4 hty)
/-- the first sentence's cells -/
theorem Ss.head {B : Nat} {w : World} {v : Value} {x : Sn} {l : List Sn} (h : Ss B w v (x :: l)) : ∃ g cap a nvs, v = .slice (some ⟨g, 0, none⟩) (l.length + 1) cap ∧ Hg B w x (a, nvs) ∧ l.length + 1 ≤ cap ∧ g < w.heap.size ∧
    w.cell? ⟨g, 0, none⟩ = some (.int .i64 (x.1.k : Nat)) ∧ w.cell? ⟨g, 1, none⟩ = some (.int .i64 x.1.n) ∧ w.cell? ⟨g, 2, none⟩ = some (.string (bs x.1.s)) ∧ w.cell? ⟨g, 3, none⟩ = some a ∧ w.cell? ⟨g, 4, none⟩ = some nvs := by
  obtain ⟨zs, h1, h2, h3⟩ := h
  rcases zs with _ | ⟨⟨a, nvs⟩, zs⟩
  · simp at h1
  rcases h2.2 with ⟨_, h4⟩ | ⟨g, cap, cur, h4, _, h5, h6, _⟩
  · simp at h4
  have hc := World.ownsRow.cells h2 (g := g) (by rw [h4]; rfl)
  have key : ∀ j u, j < 5 → (scell x (a, nvs))[j]? = some u → w.cell? ⟨g, j, none⟩ = some u := fun j u hj hu => by
    have := hc j u (by
      have := scells_get ((x :: l).zip ((a, nvs) :: zs)) 0 j (by simp) hj
      rw [Nat.zero_mul, Nat.zero_add] at this
      rw [this]; exact hu)
    rwa [op.addr_add] at this
  exact ⟨g, cap, a, nvs, h4, h3 0 (by simp) (by simp), h6, lt_of h5, key 0 _ (by omega) rfl, key 1 _ (by omega) rfl, key 2 _ (by omega) rfl, key 3 _ (by omega) rfl, key 4 _ (by omega) rfl⟩
set_option maxHeartbeats 2000000 in
theorem one_c (s : ByteArray) (w : World) (hb : Both w) (hg : GM w) (hz : s.size ≤ 9223372036854775800) :
    Calls Tryz.prog 9 #[.string s] w (OQ w (oneP s.data.toList)) := by
  have h2 := lx.heap_pos hg
  have hrb0 := Lib.hid (heap_alloc_new w (.cells #[.int .i64 0, .int .i64 0, .string ⟨#[]⟩, .slice none 0 0, .slice none 0 0] 27))
  have hBa := (Below.refl w.heap.size w).alloc (Nat.le_refl _) (.cells #[.int .i64 0, .int .i64 0, .string ⟨#[]⟩, .slice none 0 0, .slice none 0 0] 27)
  have HBa := Lib.hid hBa
  have ke := ended_c s _ (hg.below hBa h2) hz
  have hbd : (bs (endP s.data.toList)).data.toList = endP s.data.toList := rfl
  have hsz : (bs (endP s.data.toList)).size ≤ 9223372036854775807 := by
    have := endP_len s.data.toList
    show (endP s.data.toList).length ≤ _
    have h3 : s.data.toList.length = s.size := by simp
    omega
  have kr := fun w hb hg => read_c (bs (endP s.data.toList)) w hb hg hsz
  rw [hbd] at kr
  have hX : oneP s.data.toList = match readP (toksD (endP s.data.toList)) with | .error k => .error k | .ok [x] => .ok x | .ok _ => .error 50 := rfl
  have hke := fun k h => read_err (o := toksD (endP s.data.toList)) rfl (k := k) h
  have HB := Lib.hid hb
  have HG := Lib.hid hg
  have hws := Lib.hid (size_alloc w (.cells #[.int .i64 0, .int .i64 0, .string ⟨#[]⟩, .slice none 0 0, .slice none 0 0] 27))
  clear hb hg hsz hbd hBa
  generalize readP (toksD (endP s.data.toList)) = Y at *
  generalize oneP s.data.toList = X at *
  generalize bs (endP s.data.toList) = bl at *
  have Kr := Lib.hid kr
  have HX := Lib.hid hX
  have Hke := Lib.hid hke
  clear kr hX hke
  go_enter Tryz.func9, Tryz.ntmps9
  go_wp2_with fail
  refine ke.mono ?_
  rintro en w1 ⟨rfl, hb1⟩
  have HB1 := Lib.hid (HBa.out.trans (hb1.mono HBa.out.size))
  have hrb1 := Lib.hid ((hb1.block w.heap.size (lt_of hrb0.out)).trans hrb0.out)
  clear hb1 ke
  have kr := Kr.out w1 (HB.out.kept HB1.out) (HG.out.below HB1.out h2)
  go_wp2_with fail
  refine kr.mono ?_
  clear kr Kr
  have hz1 := lt_of hrb1.out
  rcases Y with k | l
  · rintro en w2 ⟨p, rfl, hb⟩
    have HB2 := Lib.hid (HB1.out.trans (hb.mono HB1.out.size))
    have hrb2 := Lib.hid ((hb.block w.heap.size hz1).trans hrb1.out)
    have hk := Hke.out k rfl
    obtain ⟨x1, x2⟩ := ieq_no (a := k) 0 (by omega)
    obtain ⟨r0, r1, r2, r3, r4, rf⟩ := cells5 hrb2.out
    clear hb Hke hk
    generalize hBe : w.heap.size = B at *
    have HBe := Lib.hid hBe
    clear hBe
    go_wp2
    (try simp only [Exit.inBlock, Exit.then])
    refine bodyPost_ret (ret_one rfl _ _ rfl (set5 hrb2.out _ _ _ _ _)) rfl ?_
    rw [HX.out]
    exact ⟨_, rfl, by rw [HBe.out]; exact below5 HB2.out (Nat.le_refl _) _ _ _ _ _⟩
  · rintro en w2 ⟨v, rfl, hs, hb⟩
    have HB2 := Lib.hid (HB1.out.trans (hb.mono HB1.out.size))
    have hrb2 := Lib.hid ((hb.block w.heap.size hz1).trans hrb1.out)
    obtain ⟨r0, r1, r2, r3, r4, rf⟩ := cells5 hrb2.out
    clear hb Hke
    rcases l with _ | ⟨x, l⟩
    · obtain ⟨xa, xc, rfl⟩ := hs.shape
      clear hs
      generalize hBe : w.heap.size = B at *
      have HBe := Lib.hid hBe
      clear hBe
      go_wp2
      (try simp only [Exit.inBlock, Exit.then])
      refine bodyPost_ret (ret_one rfl _ _ rfl (set5 hrb2.out _ _ _ _ _)) rfl ?_
      rw [HX.out]
      exact ⟨_, rfl, by rw [HBe.out]; exact below5 HB2.out (Nat.le_refl _) _ _ _ _ _⟩
    · obtain ⟨g, cap, a, nvs, rfl, hH, hcap, hgl, q0, q1, q2, q3, q4⟩ := hs.head
      rcases l with _ | ⟨y, l⟩
      · obtain ⟨ap, an, ac, rfl⟩ := hH.1.shape
        obtain ⟨na, nn, nc, rfl⟩ := own_shape hH.2
        have HH := Lib.hid hH
        have hz12 := HB1.out.size
        have hH2 := Lib.hid (show Hg w.heap.size w2 x (.slice ap an ac, .slice na nn nc) from ⟨hH.1.imp fun k _ hk => Nat.le_trans hz12 hk, World.ownsRow.mono hH.2 hz12⟩)
        clear hs hH HH
        simp only [List.length_nil, Nat.zero_add] at *
        generalize hBe : w.heap.size = B at *
        have HBe := Lib.hid hBe
        clear hBe
        go_wp2
        (try simp only [Exit.inBlock, Exit.then])
        refine bodyPost_ret (ret_one rfl _ _ rfl (set5 hrb2.out _ _ _ _ _)) rfl ?_
        rw [HX.out]
        exact ⟨_, _, rfl, by rw [HBe.out]; exact hH2.out.kept (kt5 hrb2.out _ _ _ _ _ _ (by decide)) (kt5 hrb2.out _ _ _ _ _ _ (by decide)), by rw [HBe.out]; exact below5 HB2.out (Nat.le_refl _) _ _ _ _ _⟩
      · have hn1 : (((l.length : Int) + 1 + 1) != 1) = true := by simp; omega
        clear hs hH q0 q1 q2 q3 q4
        simp only [List.length_cons] at *
        generalize hBe : w.heap.size = B at *
        have HBe := Lib.hid hBe
        clear hBe
        go_wp2
        (try simp only [Exit.inBlock, Exit.then])
        refine bodyPost_ret (ret_one rfl _ _ rfl (set5 hrb2.out _ _ _ _ _)) rfl ?_
        rw [HX.out]
        exact ⟨_, rfl, by rw [HBe.out]; exact below5 HB2.out (Nat.le_refl _) _ _ _ _ _⟩
end Go.Proofs.YtcdmmcogegnieaaGreatDoor.rd
end
section
/- The reference's One. -/
namespace Go.Proofs.YtcdmmcogegnieaaGreatDoor.rr
open Go.RowKit
open Go.Proofs.YtcdmmcogegnieaaGreatDoor.rd
open Go.Proofs.YtcdmmcogegnieaaGreatDoor.op (bs strC Both Tb bs_data)
open Go.Proofs.YtcdmmcogegnieaaGreatDoor.lx (Tok Tk Out toksD rtoks outToks outP outE cell_at ieq_yes ieq_no outToks_len outE_bad)
set_option maxRecDepth 20000

set_option maxHeartbeats 4000000 in
theorem rone_c (s : ByteArray) (w : World) (hb : Both w) (hp : 2 ≤ w.heap.size) (hz : s.size ≤ 9223372036854775800) :
    Calls Tryz.prog 10 #[.string s] w (OQ w (oneP s.data.toList)) := by
  have hrb0 := Lib.hid (heap_alloc_new w (.cells #[.int .i64 0, .int .i64 0, .string ⟨#[]⟩, .slice none 0 0, .slice none 0 0] 27))
  have hBa := (Below.refl w.heap.size w).alloc (Nat.le_refl _) (.cells #[.int .i64 0, .int .i64 0, .string ⟨#[]⟩, .slice none 0 0, .slice none 0 0] 27)
  have HBa := Lib.hid hBa
  have kt := rtoks s (w.alloc (.cells #[.int .i64 0, .int .i64 0, .string ⟨#[]⟩, .slice none 0 0, .slice none 0 0] 27)) (by omega)
  have hbd0 : (bs (endP s.data.toList)).data.toList = endP s.data.toList := rfl
  have hls : s.data.toList.length = s.size := by simp
  have hsz : (bs (endP s.data.toList)).size ≤ 9223372036854775807 := by
    have := endP_len s.data.toList
    show (endP s.data.toList).length ≤ _
    omega
  have kr := fun w hb hp => rread_c (bs (endP s.data.toList)) w hb hp hsz
  rw [hbd0] at kr
  have hX : oneP s.data.toList = match readP (toksD (endP s.data.toList)) with | .error k => .error k | .ok [x] => .ok x | .ok _ => .error 50 := rfl
  have hke := fun k h => read_err (o := toksD (endP s.data.toList)) rfl (k := k) h
  have HB := Lib.hid hb
  have hws := Lib.hid (size_alloc w (.cells #[.int .i64 0, .int .i64 0, .string ⟨#[]⟩, .slice none 0 0, .slice none 0 0] 27))
  have hap := app_data s s.data.toList rfl
  have hbd := bs_data s
  rcases ho : toksD s.data.toList with ts | ⟨p, k⟩
  · rw [ho] at kt
    have hl : ts.length ≤ 1000 := by have := outToks_len s.data.toList; rw [ho] at this; exact this
    have he : endP s.data.toList = if endsB ts = true then s.data.toList else s.data.toList ++ [32, 46] := by unfold endP; rw [ho]
    have hbe : bs (endP s.data.toList) = if endsB ts = true then s else s ++ ⟨#[32, 46]⟩ := by
      rw [he]; split
      · exact hbd
      · exact hap.symm
    rw [hbe] at kr
    generalize readP (toksD (endP s.data.toList)) = Y at *
    generalize oneP s.data.toList = X at *
    have HX := Lib.hid hX
    have Hke := Lib.hid hke
    clear hX hke hap hbd he hbe hbd0 hsz hb
    rcases ts.eq_nil_or_concat with h0 | h1
    · obtain rfl := h0
      have Kr := Lib.hid (show ∀ w, Both w → 2 ≤ w.heap.size → Calls Tryz.prog 15 #[.string (s ++ ⟨#[32, 46]⟩)] w (NQ w Y) from fun w h1 h2 => kr w h1 h2)
      clear kr ho
      go_enter Tryz.func10, Tryz.ntmps10
      go_wp2_with fail
      refine kt.mono ?_
      rintro en w1 ⟨v, rfl, hT, hb1⟩
      obtain ⟨va, vc, rfl⟩ := hT.shape
      have HB1 := Lib.hid (HBa.out.trans (hb1.mono HBa.out.size))
      have hrb1 := Lib.hid ((hb1.block w.heap.size (lt_of hrb0.out)).trans hrb0.out)
      have hz1 := lt_of hrb1.out
      have kr := Kr.out w1 (HB.out.kept HB1.out) (by have := HB1.out.size; omega)
      clear hb1 kt hT Kr
      unfold outP outE
      go_wp2_with fail
      refine kr.mono ?_
      clear kr
      rcases Y with k | l
      · rintro en w2 ⟨p, rfl, hb⟩
        have HB2 := Lib.hid (HB1.out.trans (hb.mono HB1.out.size))
        have hrb2 := Lib.hid ((hb.block w.heap.size hz1).trans hrb1.out)
        have hk := Hke.out k rfl
        obtain ⟨z1, z2⟩ := ieq_no (a := k) 0 (by omega)
        obtain ⟨r0, r1, r2, r3, r4, rf⟩ := cells5 hrb2.out
        clear hb Hke hk
        generalize hBe : w.heap.size = B at *
        have HBe := Lib.hid hBe
        clear hBe
        go_wp2
        (try simp only [Exit.inBlock, Exit.then])
        refine bodyPost_ret (ret_one rfl _ _ rfl (set5 hrb2.out _ _ _ _ _)) rfl ?_
        rw [HX.out]
        exact ⟨_, rfl, by rw [HBe.out]; exact below5 HB2.out (Nat.le_refl _) _ _ _ _ _⟩
      · rintro en w2 ⟨v, rfl, hs, hb⟩
        have HB2 := Lib.hid (HB1.out.trans (hb.mono HB1.out.size))
        have hrb2 := Lib.hid ((hb.block w.heap.size hz1).trans hrb1.out)
        obtain ⟨r0, r1, r2, r3, r4, rf⟩ := cells5 hrb2.out
        clear hb Hke
        rcases l with _ | ⟨x, l⟩
        · obtain ⟨xa, xc, rfl⟩ := hs.shape
          clear hs
          generalize hBe : w.heap.size = B at *
          have HBe := Lib.hid hBe
          clear hBe
          go_wp2
          (try simp only [Exit.inBlock, Exit.then])
          refine bodyPost_ret (ret_one rfl _ _ rfl (set5 hrb2.out _ _ _ _ _)) rfl ?_
          rw [HX.out]
          exact ⟨_, rfl, by rw [HBe.out]; exact below5 HB2.out (Nat.le_refl _) _ _ _ _ _⟩
        · obtain ⟨g, cap, a, nvs, rfl, hH, hcap, hgl, q0, q1, q2, q3, q4⟩ := hs.head
          rcases l with _ | ⟨y, l⟩
          · obtain ⟨ap, an, ac, rfl⟩ := hH.1.shape
            obtain ⟨na, nn, nc, rfl⟩ := own_shape hH.2
            have HH := Lib.hid hH
            have hz12 := HB1.out.size
            have hH2 := Lib.hid (show Hg w.heap.size w2 x (.slice ap an ac, .slice na nn nc) from ⟨hH.1.imp fun k _ hk => Nat.le_trans hz12 hk, World.ownsRow.mono hH.2 hz12⟩)
            clear hs hH HH
            simp only [List.length_nil, Nat.zero_add] at *
            generalize hBe : w.heap.size = B at *
            have HBe := Lib.hid hBe
            clear hBe
            go_wp2
            (try simp only [Exit.inBlock, Exit.then])
            refine bodyPost_ret (ret_one rfl _ _ rfl (set5 hrb2.out _ _ _ _ _)) rfl ?_
            rw [HX.out]
            exact ⟨_, _, rfl, by rw [HBe.out]; exact hH2.out.kept (kt5 hrb2.out _ _ _ _ _ _ (by decide)) (kt5 hrb2.out _ _ _ _ _ _ (by decide)), by rw [HBe.out]; exact below5 HB2.out (Nat.le_refl _) _ _ _ _ _⟩
          · have hn1 : (((l.length : Int) + 1 + 1) != 1) = true := by simp; omega
            clear hs hH q0 q1 q2 q3 q4
            simp only [List.length_cons] at *
            generalize hBe : w.heap.size = B at *
            have HBe := Lib.hid hBe
            clear hBe
            go_wp2
            (try simp only [Exit.inBlock, Exit.then])
            refine bodyPost_ret (ret_one rfl _ _ rfl (set5 hrb2.out _ _ _ _ _)) rfl ?_
            rw [HX.out]
            exact ⟨_, rfl, by rw [HBe.out]; exact below5 HB2.out (Nat.le_refl _) _ _ _ _ _⟩
    · obtain ⟨ini, t, rfl⟩ := h1
      rw [List.concat_eq_append] at *
      have hlast : endsB (ini ++ [t]) = (t.kind == 6) := by unfold endsB; rw [List.getLast?_concat]
      rw [hlast] at kr
      clear ho hlast
      by_cases h6 : t.kind = 6
      · have Kr := Lib.hid (show ∀ w, Both w → 2 ≤ w.heap.size → Calls Tryz.prog 15 #[.string s] w (NQ w Y) from fun w h1 h2 => by have := kr w h1 h2; rwa [if_pos (by simpa using h6)] at this)
        obtain ⟨x1, x2⟩ := ieq_yes (a := t.kind) 6 (by omega)
        clear kr h6
        go_enter Tryz.func10, Tryz.ntmps10
        go_wp2_with fail
        refine kt.mono ?_
        rintro en w1 ⟨v, rfl, hT, hb1⟩
        obtain ⟨g, cap, rfl, hcap, _, hgl, hcell⟩ := hT.row (by show 0 < (ini ++ [t]).length; simp)
        have c0 := (hcell ini.length (by show ini.length < (ini ++ [t]).length; simp)).1
        have hti : (outToks (.ok (ini ++ [t])))[ini.length]'(by show ini.length < (ini ++ [t]).length; simp) = t := by
          show (ini ++ [t])[ini.length]'_ = t
          simp
        rw [hti] at c0
        have hlen : (outToks (.ok (ini ++ [t]))).length = ini.length + 1 := by show (ini ++ [t]).length = _; simp
        have hl' : ini.length + 1 ≤ 1000 := by simpa using hl
        rw [hlen] at *
        clear hcell hti hlen hl
        generalize ini.length = N at *
        have i1 : IntKind.i64.wrap ((N : Int) + 1 - 1) = (N : Int) := by rw [IntWalk.i64_in _ (by omega)]; omega
        have i2 : (0 : Int) < (N : Int) + 1 := by omega
        have i3 : (0 : Int) ≤ (N : Int) := by omega
        have i4 : (N : Int) < (N : Int) + 1 := by omega
        have i5 : (N : Int) < ((N + 1 : Nat) : Int) := by omega
        have i6 : ((N : Int) + 1 == 0) = false := by rw [beq_eq_false_iff_ne]; omega
        have HB1 := Lib.hid (HBa.out.trans (hb1.mono HBa.out.size))
        have hrb1 := Lib.hid ((hb1.block w.heap.size (lt_of hrb0.out)).trans hrb0.out)
        have hz1 := lt_of hrb1.out
        have kr := Kr.out w1 (HB.out.kept HB1.out) (by have := HB1.out.size; omega)
        clear hb1 kt hT Kr
        unfold outP outE
        go_wp2_with fail
        refine kr.mono ?_
        clear kr
        rcases Y with k | l
        · rintro en w2 ⟨p, rfl, hb⟩
          have HB2 := Lib.hid (HB1.out.trans (hb.mono HB1.out.size))
          have hrb2 := Lib.hid ((hb.block w.heap.size hz1).trans hrb1.out)
          have hk := Hke.out k rfl
          obtain ⟨z1, z2⟩ := ieq_no (a := k) 0 (by omega)
          obtain ⟨r0, r1, r2, r3, r4, rf⟩ := cells5 hrb2.out
          clear hb Hke hk
          generalize hBe : w.heap.size = B at *
          have HBe := Lib.hid hBe
          clear hBe
          go_wp2
          (try simp only [Exit.inBlock, Exit.then])
          refine bodyPost_ret (ret_one rfl _ _ rfl (set5 hrb2.out _ _ _ _ _)) rfl ?_
          rw [HX.out]
          exact ⟨_, rfl, by rw [HBe.out]; exact below5 HB2.out (Nat.le_refl _) _ _ _ _ _⟩
        · rintro en w2 ⟨v, rfl, hs, hb⟩
          have HB2 := Lib.hid (HB1.out.trans (hb.mono HB1.out.size))
          have hrb2 := Lib.hid ((hb.block w.heap.size hz1).trans hrb1.out)
          obtain ⟨r0, r1, r2, r3, r4, rf⟩ := cells5 hrb2.out
          clear hb Hke
          rcases l with _ | ⟨x, l⟩
          · obtain ⟨xa, xc, rfl⟩ := hs.shape
            clear hs
            generalize hBe : w.heap.size = B at *
            have HBe := Lib.hid hBe
            clear hBe
            go_wp2
            (try simp only [Exit.inBlock, Exit.then])
            refine bodyPost_ret (ret_one rfl _ _ rfl (set5 hrb2.out _ _ _ _ _)) rfl ?_
            rw [HX.out]
            exact ⟨_, rfl, by rw [HBe.out]; exact below5 HB2.out (Nat.le_refl _) _ _ _ _ _⟩
          · obtain ⟨g, cap, a, nvs, rfl, hH, hcap, hgl, q0, q1, q2, q3, q4⟩ := hs.head
            rcases l with _ | ⟨y, l⟩
            · obtain ⟨ap, an, ac, rfl⟩ := hH.1.shape
              obtain ⟨na, nn, nc, rfl⟩ := own_shape hH.2
              have HH := Lib.hid hH
              have hz12 := HB1.out.size
              have hH2 := Lib.hid (show Hg w.heap.size w2 x (.slice ap an ac, .slice na nn nc) from ⟨hH.1.imp fun k _ hk => Nat.le_trans hz12 hk, World.ownsRow.mono hH.2 hz12⟩)
              clear hs hH HH
              simp only [List.length_nil, Nat.zero_add] at *
              generalize hBe : w.heap.size = B at *
              have HBe := Lib.hid hBe
              clear hBe
              go_wp2
              (try simp only [Exit.inBlock, Exit.then])
              refine bodyPost_ret (ret_one rfl _ _ rfl (set5 hrb2.out _ _ _ _ _)) rfl ?_
              rw [HX.out]
              exact ⟨_, _, rfl, by rw [HBe.out]; exact hH2.out.kept (kt5 hrb2.out _ _ _ _ _ _ (by decide)) (kt5 hrb2.out _ _ _ _ _ _ (by decide)), by rw [HBe.out]; exact below5 HB2.out (Nat.le_refl _) _ _ _ _ _⟩
            · have hn1 : (((l.length : Int) + 1 + 1) != 1) = true := by simp; omega
              clear hs hH q0 q1 q2 q3 q4
              simp only [List.length_cons] at *
              generalize hBe : w.heap.size = B at *
              have HBe := Lib.hid hBe
              clear hBe
              go_wp2
              (try simp only [Exit.inBlock, Exit.then])
              refine bodyPost_ret (ret_one rfl _ _ rfl (set5 hrb2.out _ _ _ _ _)) rfl ?_
              rw [HX.out]
              exact ⟨_, rfl, by rw [HBe.out]; exact below5 HB2.out (Nat.le_refl _) _ _ _ _ _⟩
      · have Kr := Lib.hid (show ∀ w, Both w → 2 ≤ w.heap.size → Calls Tryz.prog 15 #[.string (s ++ ⟨#[32, 46]⟩)] w (NQ w Y) from fun w h1 h2 => by have := kr w h1 h2; rwa [if_neg (by simpa using h6)] at this)
        obtain ⟨x1, x2⟩ := ieq_no (a := t.kind) 6 (by omega)
        clear kr h6
        go_enter Tryz.func10, Tryz.ntmps10
        go_wp2_with fail
        refine kt.mono ?_
        rintro en w1 ⟨v, rfl, hT, hb1⟩
        obtain ⟨g, cap, rfl, hcap, _, hgl, hcell⟩ := hT.row (by show 0 < (ini ++ [t]).length; simp)
        have c0 := (hcell ini.length (by show ini.length < (ini ++ [t]).length; simp)).1
        have hti : (outToks (.ok (ini ++ [t])))[ini.length]'(by show ini.length < (ini ++ [t]).length; simp) = t := by
          show (ini ++ [t])[ini.length]'_ = t
          simp
        rw [hti] at c0
        have hlen : (outToks (.ok (ini ++ [t]))).length = ini.length + 1 := by show (ini ++ [t]).length = _; simp
        have hl' : ini.length + 1 ≤ 1000 := by simpa using hl
        rw [hlen] at *
        clear hcell hti hlen hl
        generalize ini.length = N at *
        have i1 : IntKind.i64.wrap ((N : Int) + 1 - 1) = (N : Int) := by rw [IntWalk.i64_in _ (by omega)]; omega
        have i2 : (0 : Int) < (N : Int) + 1 := by omega
        have i3 : (0 : Int) ≤ (N : Int) := by omega
        have i4 : (N : Int) < (N : Int) + 1 := by omega
        have i5 : (N : Int) < ((N + 1 : Nat) : Int) := by omega
        have i6 : ((N : Int) + 1 == 0) = false := by rw [beq_eq_false_iff_ne]; omega
        have HB1 := Lib.hid (HBa.out.trans (hb1.mono HBa.out.size))
        have hrb1 := Lib.hid ((hb1.block w.heap.size (lt_of hrb0.out)).trans hrb0.out)
        have hz1 := lt_of hrb1.out
        have kr := Kr.out w1 (HB.out.kept HB1.out) (by have := HB1.out.size; omega)
        clear hb1 kt hT Kr
        unfold outP outE
        go_wp2_with fail
        refine kr.mono ?_
        clear kr
        rcases Y with k | l
        · rintro en w2 ⟨p, rfl, hb⟩
          have HB2 := Lib.hid (HB1.out.trans (hb.mono HB1.out.size))
          have hrb2 := Lib.hid ((hb.block w.heap.size hz1).trans hrb1.out)
          have hk := Hke.out k rfl
          obtain ⟨z1, z2⟩ := ieq_no (a := k) 0 (by omega)
          obtain ⟨r0, r1, r2, r3, r4, rf⟩ := cells5 hrb2.out
          clear hb Hke hk
          generalize hBe : w.heap.size = B at *
          have HBe := Lib.hid hBe
          clear hBe
          go_wp2
          (try simp only [Exit.inBlock, Exit.then])
          refine bodyPost_ret (ret_one rfl _ _ rfl (set5 hrb2.out _ _ _ _ _)) rfl ?_
          rw [HX.out]
          exact ⟨_, rfl, by rw [HBe.out]; exact below5 HB2.out (Nat.le_refl _) _ _ _ _ _⟩
        · rintro en w2 ⟨v, rfl, hs, hb⟩
          have HB2 := Lib.hid (HB1.out.trans (hb.mono HB1.out.size))
          have hrb2 := Lib.hid ((hb.block w.heap.size hz1).trans hrb1.out)
          obtain ⟨r0, r1, r2, r3, r4, rf⟩ := cells5 hrb2.out
          clear hb Hke
          rcases l with _ | ⟨x, l⟩
          · obtain ⟨xa, xc, rfl⟩ := hs.shape
            clear hs
            generalize hBe : w.heap.size = B at *
            have HBe := Lib.hid hBe
            clear hBe
            go_wp2
            (try simp only [Exit.inBlock, Exit.then])
            refine bodyPost_ret (ret_one rfl _ _ rfl (set5 hrb2.out _ _ _ _ _)) rfl ?_
            rw [HX.out]
            exact ⟨_, rfl, by rw [HBe.out]; exact below5 HB2.out (Nat.le_refl _) _ _ _ _ _⟩
          · obtain ⟨g, cap, a, nvs, rfl, hH, hcap, hgl, q0, q1, q2, q3, q4⟩ := hs.head
            rcases l with _ | ⟨y, l⟩
            · obtain ⟨ap, an, ac, rfl⟩ := hH.1.shape
              obtain ⟨na, nn, nc, rfl⟩ := own_shape hH.2
              have HH := Lib.hid hH
              have hz12 := HB1.out.size
              have hH2 := Lib.hid (show Hg w.heap.size w2 x (.slice ap an ac, .slice na nn nc) from ⟨hH.1.imp fun k _ hk => Nat.le_trans hz12 hk, World.ownsRow.mono hH.2 hz12⟩)
              clear hs hH HH
              simp only [List.length_nil, Nat.zero_add] at *
              generalize hBe : w.heap.size = B at *
              have HBe := Lib.hid hBe
              clear hBe
              go_wp2
              (try simp only [Exit.inBlock, Exit.then])
              refine bodyPost_ret (ret_one rfl _ _ rfl (set5 hrb2.out _ _ _ _ _)) rfl ?_
              rw [HX.out]
              exact ⟨_, _, rfl, by rw [HBe.out]; exact hH2.out.kept (kt5 hrb2.out _ _ _ _ _ _ (by decide)) (kt5 hrb2.out _ _ _ _ _ _ (by decide)), by rw [HBe.out]; exact below5 HB2.out (Nat.le_refl _) _ _ _ _ _⟩
            · have hn1 : (((l.length : Int) + 1 + 1) != 1) = true := by simp; omega
              clear hs hH q0 q1 q2 q3 q4
              simp only [List.length_cons] at *
              generalize hBe : w.heap.size = B at *
              have HBe := Lib.hid hBe
              clear hBe
              go_wp2
              (try simp only [Exit.inBlock, Exit.then])
              refine bodyPost_ret (ret_one rfl _ _ rfl (set5 hrb2.out _ _ _ _ _)) rfl ?_
              rw [HX.out]
              exact ⟨_, rfl, by rw [HBe.out]; exact below5 HB2.out (Nat.le_refl _) _ _ _ _ _⟩
  · rw [ho] at kt
    have he : endP s.data.toList = s.data.toList := by unfold endP; rw [ho]
    have hX2 : oneP s.data.toList = .error k := by unfold oneP; rw [he, ho]; rfl
    rw [hX2]
    have hk := outE_bad ho
    clear hX hke hap hbd he hbd0 hsz hb kr ho hX2
    obtain ⟨x1, x2⟩ := ieq_no (a := k) 0 (by omega)
    go_enter Tryz.func10, Tryz.ntmps10
    go_wp2_with fail
    refine kt.mono ?_
    rintro en w1 ⟨v, rfl, hT, hb1⟩
    obtain ⟨va, vc, rfl⟩ := hT.shape
    have HB1 := Lib.hid (HBa.out.trans (hb1.mono HBa.out.size))
    have hrb1 := Lib.hid ((hb1.block w.heap.size (lt_of hrb0.out)).trans hrb0.out)
    obtain ⟨r0, r1, r2, r3, r4, rf⟩ := cells5 hrb1.out
    clear hb1 kt hT hrb0 HBa hk
    generalize hBe : w.heap.size = B at *
    have HBe := Lib.hid hBe
    clear hBe
    unfold outP outE
    go_wp2
    (try simp only [Exit.inBlock, Exit.then])
    refine bodyPost_ret (ret_one rfl _ _ rfl (set5 hrb1.out _ _ _ _ _)) rfl ?_
    exact ⟨_, rfl, by rw [HBe.out]; exact below5 HB1.out (Nat.le_refl _) _ _ _ _ _⟩
end Go.Proofs.YtcdmmcogegnieaaGreatDoor.rr
end
section
/- The law's own functions: same (two terms that are one), top. -/
namespace Go.Proofs.YtcdmmcogegnieaaGreatDoor.ls
open Go.RowKit
open Go.Proofs.YtcdmmcogegnieaaGreatDoor.rd
open Go.Proofs.YtcdmmcogegnieaaGreatDoor.op (bs strC)
open Go.Proofs.YtcdmmcogegnieaaGreatDoor.lx (cell_at ieq_yes ieq_no)
set_option maxRecDepth 20000

/-- any block -/
def Any : Nat → Prop := fun _ => True
section
variable {D : Nat → Prop} {w w' : World} {s : List UInt8} {l : List T} {a : Value}
theorem any {t : T} (h : Rp D w t a) : Rp Any w t a := h.imp fun _ _ _ => trivial
theorem shapeL (h : Rp D w (.cmp s l) a) : ∃ p c, a = .slice p l.length c := by
  rw [Rp] at h
  obtain ⟨az, h1, _⟩ := h
  rcases h1.2 with ⟨e1, e2⟩ | ⟨g, cap, cur, e1, _⟩
  · exact ⟨none, 0, by rw [e1, e2]⟩
  · exact ⟨_, _, e1⟩
theorem lenL (h : Rp D w (.cmp s l) a) : l.length ≤ maxLen := by
  rw [Rp] at h
  obtain ⟨az, h1, _⟩ := h
  rcases h1.2 with ⟨e1, e2⟩ | ⟨g, cap, cur, e1, _, _, e4, e5, _⟩
  · rw [e2]; exact Nat.zero_le _
  · omega
theorem elem {i : Nat} (h : Rp D w (.cmp s l) a) (hi : i < l.length) : ∃ g cap p m c, a = .slice (some ⟨g, 0, none⟩) l.length cap ∧ l.length ≤ cap ∧ g < w.heap.size ∧
    Rp D w (l.getD i dfT) (.slice p m c) ∧ w.cell? ⟨g, i * 4, none⟩ = some (.int .i64 ((l.getD i dfT).k : Nat)) ∧ w.cell? ⟨g, i * 4 + 1, none⟩ = some (.int .i64 (l.getD i dfT).n) ∧
    w.cell? ⟨g, i * 4 + 2, none⟩ = some (.string (bs (l.getD i dfT).s)) ∧ w.cell? ⟨g, i * 4 + 3, none⟩ = some (.slice p m c) := by
  rw [Rp] at h
  obtain ⟨az, h1, h2, h3⟩ := h
  have hl := h3.len
  rcases h1.2 with ⟨_, e2⟩ | ⟨g, cap, cur, e1, _, e3, e4, _⟩
  · omega
  have hc := World.ownsRow.cells h1 (g := g) (by rw [e1]; rfl)
  have key : ∀ m u, m < 4 → (tv l[i] (az[i]'(by omega)))[m]? = some u → w.cell? ⟨g, i * 4 + m, none⟩ = some u := fun m u hm hu => by
    have h4 := tvs_get (l.zip az) i m (by simp; omega) hm
    rw [List.getElem_zip] at h4
    have := hc (i * 4 + m) u (by rw [h4]; exact hu)
    rwa [op.addr_add] at this
  have ee : l.getD i dfT = l[i] := by simp [hi]
  have hR := h3.get i hi (by omega)
  obtain ⟨p, m, c, he⟩ := hR.shape
  rw [ee]
  refine ⟨g, cap, p, m, c, e1, e4, lt_of e3, by rw [← he]; exact hR, key 0 _ (by omega) rfl, key 1 _ (by omega) rfl, key 2 _ (by omega) rfl, ?_⟩
  rw [← he]; exact key 3 _ (by omega) rfl
theorem elem_size {i : Nat} (hi : i < l.length) : SizeOf.sizeOf (l.getD i dfT) < SizeOf.sizeOf (T.cmp s l) := by
  have e : l.getD i dfT = l[i] := by simp [hi]
  rw [e]
  have := List.sizeOf_lt_of_mem (List.getElem_mem hi)
  simp only [T.cmp.sizeOf_spec]
  omega
end
theorem boxes (w : World) (o1 o2 : Obj) : ((w.alloc o1).alloc o2).heap[w.heap.size]? = some o1 ∧ ((w.alloc o1).alloc o2).heap[w.heap.size + 1]? = some o2 ∧ ((w.alloc o1).alloc o2).heap.size = w.heap.size + 1 + 1 ∧ Below w.heap.size w ((w.alloc o1).alloc o2) := by
  refine ⟨(Lib.alloc_old _ o2 _ (by simp)).trans (heap_alloc_new w o1), ?_, by simp, ((Below.refl _ w).alloc (Nat.le_refl _) o1).alloc (by simp) o2⟩
  have := heap_alloc_new (w.alloc o1) o2
  rwa [size_alloc] at this
abbrev tV (t : T) (a : Value) : Value := .agg #[.int .i64 (t.k : Nat), .int .i64 t.n, .string (bs t.s), a]
abbrev SameOk (t : T) : Prop := ∀ (a c : Value) (w : World), Rp Any w t a → Rp Any w t c →
    Calls Tryz.prog 12 #[tV t a, tV t c] w fun en w' => en = .returned (.bool true) ∧ Below w.heap.size w w'
/-- a term's parts -/
def parts : T → List T
  | .leaf _ _ _ => []
  | .cmp _ l => l
/-- the slice a holds the parts -/
structure Pt (w : World) (l : List T) (a : Value) : Prop where
  shape : ∃ p c, a = .slice p l.length c
  len : l.length ≤ maxLen
  el : ∀ i, i < l.length → ∃ g cap p m c, a = .slice (some ⟨g, 0, none⟩) l.length cap ∧ l.length ≤ cap ∧ g < w.heap.size ∧
    Rp Any w (l.getD i dfT) (.slice p m c) ∧ w.cell? ⟨g, i * 4, none⟩ = some (.int .i64 ((l.getD i dfT).k : Nat)) ∧ w.cell? ⟨g, i * 4 + 1, none⟩ = some (.int .i64 (l.getD i dfT).n) ∧
    w.cell? ⟨g, i * 4 + 2, none⟩ = some (.string (bs (l.getD i dfT).s)) ∧ w.cell? ⟨g, i * 4 + 3, none⟩ = some (.slice p m c)
theorem pt {w : World} {t : T} {a : Value} (h : Rp Any w t a) : Pt w (parts t) a := by
  cases t with
  | leaf k n s => rw [Rp] at h; exact ⟨⟨none, 0, h⟩, Nat.zero_le _, fun i hi => absurd hi (Nat.not_lt_zero _)⟩
  | cmp s l => exact ⟨shapeL h, lenL h, fun i hi => elem h hi⟩
theorem parts_size {t : T} {i : Nat} (hi : i < (parts t).length) : SizeOf.sizeOf ((parts t).getD i dfT) < SizeOf.sizeOf t := by
  cases t with
  | leaf k n s => exact absurd hi (Nat.not_lt_zero _)
  | cmp s l => exact elem_size hi
set_option maxHeartbeats 4000000 in
theorem same_step (t : T) (ih : ∀ i, i < (parts t).length → SameOk ((parts t).getD i dfT)) : SameOk t := by
  intro a c w ha hc
  have PA := pt ha
  have PC := pt hc
  have hN := PA.len
  unfold maxLen at hN
  obtain ⟨pa, ca, rfl⟩ := PA.shape
  obtain ⟨pc, cc, rfl⟩ := PC.shape
  unfold tV
  obtain ⟨b0, b1, bz, bb⟩ := boxes w (.cells #[.int .i64 (t.k : Nat), .int .i64 t.n, .string (bs t.s), .slice pa (parts t).length ca] 25) (.cells #[.int .i64 (t.k : Nat), .int .i64 t.n, .string (bs t.s), .slice pc (parts t).length cc] 25)
  have HB := Lib.hid bb
  have HA := Lib.hid PA
  have HC := Lib.hid PC
  have IH := Lib.hid ih
  have e1 : ((t.k : Int) != (t.k : Int)) = false := by simp
  have e2 : (t.n != t.n) = false := by simp
  generalize t.k = kk at *
  generalize t.n = nn at *
  generalize bs t.s = ss at *
  have e3 : (ss.data.toList != ss.data.toList) = false := by simp
  have hB0 := Lib.hid b0
  have hB1 := Lib.hid b1
  have hBz := Lib.hid bz
  clear ha hc PA PC ih b0 b1 bz bb
  generalize parts t = l at *
  have e4 : ((l.length : Int) != (l.length : Int)) = false := by simp
  go_enter Tryz.func12, Tryz.ntmps12
  go_wp2
  generalize World.alloc (World.alloc w _) _ = W at *
  clear e1 e2 e3 e4
  go_loopg [5] l.length (fun k v wr => ∃ i : Nat, k = l.length - i ∧ i ≤ l.length ∧ v = .int .i64 i ∧ Hid (Below W.heap.size W wr))
  case atStart => exact ⟨0, by omega, by omega, rfl, Lib.hid (Below.refl _ _)⟩
  case round =>
    obtain ⟨i, hgk, hi, rfl, HW⟩ := hrel
    have hbo0 := (HW.out.block w.heap.size (lt_of hB0.out)).trans hB0.out
    have hbo1 := (HW.out.block (w.heap.size + 1) (lt_of hB1.out)).trans hB1.out
    obtain ⟨x0, x1, x2, x3, _⟩ := cells4 hbo0
    obtain ⟨y0, y1, y2, y3, _⟩ := cells4 hbo1
    clear hbo0 hbo1
    by_cases hlt : i < l.length
    · have hlt2 : (i : Int) < l.length := by omega
      obtain ⟨g, cap, p, m, c, hv, hcap, hgl, hR, d0, d1, d2, d3⟩ := HA.out.el i hlt
      obtain ⟨rfl, rfl⟩ : pa = some ⟨g, 0, none⟩ ∧ ca = cap := by simp at hv; exact hv
      obtain ⟨g', cap', p', m', c', hv', hcap', hgl', hR', f0, f1, f2, f3⟩ := HC.out.el i hlt
      obtain ⟨rfl, rfl⟩ : pc = some ⟨g', 0, none⟩ ∧ cc = cap' := by simp at hv'; exact hv'
      have hww : Below w.heap.size w wr := HB.out.trans (HW.out.mono HB.out.size)
      have xc : ∀ (q : Nat) (hq : q < w.heap.size) (j : Nat), wr.cell? ⟨q, j, none⟩ = w.cell? ⟨q, j, none⟩ := fun q hq j => World.cell?_of_block (hww.block q hq)
      rw [← xc g hgl] at d0 d1 d2 d3
      rw [← xc g' hgl'] at f0 f1 f2 f3
      have kx := fun n => IH.out i hlt (.slice p m c) (.slice p' m' c') (wr.drewN n) ((hR.kept (Kt.below hww)).kept (Kt.below (below_drawn _ _ _))) ((hR'.kept (Kt.below hww)).kept (Kt.below (below_drawn _ _ _)))
      have hbz : w.heap.size + 1 < wr.heap.size := Nat.lt_of_lt_of_le (lt_of hB1.out) HW.out.size
      have hbk : Hid (∀ w2, Below wr.heap.size wr w2 → ∀ (q : Nat), q < wr.heap.size → ∀ (j : Nat), w2.cell? ⟨q, j, none⟩ = wr.cell? ⟨q, j, none⟩) := Lib.hid fun w2 h q hq j => World.cell?_of_block (h.block q hq)
      have hg1 : g < wr.heap.size := Nat.lt_of_lt_of_le hgl hww.size
      have hg2 : g' < wr.heap.size := Nat.lt_of_lt_of_le hgl' hww.size
      clear hR hR' hww xc hv hv' HA HC IH
      have i4 : (0 : Int) ≤ (i : Int) := by omega
      generalize l.getD i dfT = tx at *
      go_wp2_with fail
      unfold tV at kx
      go_region_held3 (fun w' => w'.cell? ⟨w.heap.size, 3, none⟩ = some (.slice (some ⟨g, 0, none⟩) l.length ca) ∧ w'.cell? ⟨w.heap.size + 1, 3, none⟩ = some (.slice (some ⟨g', 0, none⟩) l.length cc) ∧
        w'.cell? ⟨g, i * 4, none⟩ = some (.int .i64 (tx.k : Nat)) ∧ w'.cell? ⟨g, i * 4 + 1, none⟩ = some (.int .i64 tx.n) ∧ w'.cell? ⟨g, i * 4 + 2, none⟩ = some (.string (bs tx.s)) ∧ w'.cell? ⟨g, i * 4 + 3, none⟩ = some (.slice p m c) ∧
        w'.cell? ⟨g', i * 4, none⟩ = some (.int .i64 (tx.k : Nat)) ∧ w'.cell? ⟨g', i * 4 + 1, none⟩ = some (.int .i64 tx.n) ∧ w'.cell? ⟨g', i * 4 + 2, none⟩ = some (.string (bs tx.s)) ∧ w'.cell? ⟨g', i * 4 + 3, none⟩ = some (.slice p' m' c'))
        (first | exact ⟨(q1 _ (by omega) _).trans x3, (q1 _ hbz _).trans y3, (q1 _ hg1 _).trans d0, (q1 _ hg1 _).trans d1, (q1 _ hg1 _).trans d2, (q1 _ hg1 _).trans d3, (q1 _ hg2 _).trans f0, (q1 _ hg2 _).trans f1, (q1 _ hg2 _).trans f2, (q1 _ hg2 _).trans f3⟩ | go_keep)
        ((go_at_call 12; (refine (kx _).mono ?_); rintro en w2 ⟨rfl, hb⟩; have HW2 := Lib.hid ((below_drawn wr.heap.size wr _).trans hb); have q1 := hbk.out w2 HW2.out; clear hb))
      all_goals
        clear kx
        go_wp2
        go_roundg (l.length - (i + 1))
        case measure => omega
        case rel => exact ⟨i + 1, rfl, by omega, by go_num, Lib.hid (HW.out.trans (HW2.out.mono HW.out.size))⟩
    · have hlt2 : ¬ ((i : Int) < l.length) := by omega
      go_wp2
      go_ret
      exact ⟨rfl, HB.out.trans (HW.out.mono HB.out.size)⟩
theorem same_all (t : T) : SameOk t := by
  have key : ∀ n t, SizeOf.sizeOf t ≤ n → SameOk t := by
    intro n
    induction n with
    | zero => intro t h; exact same_step t fun i hi => absurd (parts_size hi) (by omega)
    | succ n ih => intro t h; exact same_step t fun i hi => ih _ (by have := parts_size hi; omega)
  exact key _ t (Nat.le_refl _)

mutual
/-- one more than the greatest number of a variable, below 0: one is too great -/
def topT : T → Int → Int
  | .leaf k N _, n => if n < 0 then n else if k = 1 then (if N < 0 ∨ N > n then -1 else max n (IntKind.i64.wrap (N + 1))) else n
  | .cmp _ l, n => if n < 0 then n else topL l n
def topL : List T → Int → Int
  | [], n => n
  | t :: l, n => topL l (topT t n)
end
theorem topT_eq (t : T) (n : Int) : topT t n = if n < 0 then n else if t.k = 1 then (if t.n < 0 ∨ t.n > n then -1 else max n (IntKind.i64.wrap (t.n + 1))) else topL (parts t) n := by
  cases t with
  | leaf k N s =>
    rw [topT]
    show (if n < 0 then n else if k = 1 then (if N < 0 ∨ N > n then -1 else max n (IntKind.i64.wrap (N + 1))) else n) = (if n < 0 then n else if k = 1 then (if N < 0 ∨ N > n then -1 else max n (IntKind.i64.wrap (N + 1))) else topL [] n)
    rw [topL]
  | cmp s l => rw [topT]; rfl
theorem topL_drop {l : List T} {i : Nat} (hi : i < l.length) (n : Int) : topL (l.drop i) n = topL (l.drop (i + 1)) (topT (l.getD i dfT) n) := by
  rw [List.drop_eq_getElem_cons hi, topL]; simp [hi]
abbrev TopOk (t : T) : Prop := ∀ (n : Int) (a : Value) (w : World), Rp Any w t a →
    Calls Tryz.prog 17 #[tV t a, .int .i64 n] w fun en w' => en = .returned (.int .i64 (topT t n)) ∧ Below w.heap.size w w'
set_option maxHeartbeats 4000000 in
theorem top_step (t : T) (ih : ∀ i, i < (parts t).length → TopOk ((parts t).getD i dfT)) : TopOk t := by
  intro n a w ha
  have PA := pt ha
  have hN := PA.len
  unfold maxLen at hN
  obtain ⟨pa, ca, rfl⟩ := PA.shape
  unfold tV
  have hb0 := heap_alloc_new w (.cells #[.int .i64 (t.k : Nat), .int .i64 t.n, .string (bs t.s), .slice pa (parts t).length ca] 25)
  have hbb := (Below.refl w.heap.size w).alloc (Nat.le_refl _) (.cells #[.int .i64 (t.k : Nat), .int .i64 t.n, .string (bs t.s), .slice pa (parts t).length ca] 25)
  have HB := Lib.hid hbb
  have HA := Lib.hid PA
  have IH := Lib.hid ih
  have hB0 := Lib.hid hb0
  have HT := Lib.hid (topT_eq t n)
  have hmax : ∀ a b : Int, max a b = if a ≤ b then b else a := fun a b => by omega
  generalize topT t n = R at *
  generalize t.k = kk at *
  generalize t.n = nn at *
  generalize bs t.s = ss at *
  clear ha PA ih hb0 hbb
  generalize parts t = l at *
  by_cases h0 : n < 0
  · have hR : R = n := by rw [HT.out, if_pos h0]
    rw [hR]
    go_enter Tryz.func17, Tryz.ntmps17
    go_wp2
    go_ret
    exact ⟨rfl, HB.out⟩
  by_cases h1 : kk = 1
  · obtain ⟨y0, y1⟩ := ieq_yes (a := kk) 1 (by omega)
    by_cases h2 : nn < 0
    · have hR : R = -1 := by rw [HT.out, if_neg h0, if_pos h1, if_pos (.inl h2)]
      rw [hR]
      clear h1 hR HT
      go_enter Tryz.func17, Tryz.ntmps17
      go_wp2
      go_ret
      exact ⟨rfl, HB.out⟩
    by_cases h3 : n < nn
    · have hR : R = -1 := by rw [HT.out, if_neg h0, if_pos h1, if_pos (.inr h3)]
      rw [hR]
      clear h1 hR HT
      go_enter Tryz.func17, Tryz.ntmps17
      go_wp2
      go_ret
      exact ⟨rfl, HB.out⟩
    · have hR : R = max n (IntKind.i64.wrap (nn + 1)) := by rw [HT.out, if_neg h0, if_pos h1, if_neg (by omega)]
      have HR := Lib.hid hR
      clear h1 hR HT
      go_enter Tryz.func17, Tryz.ntmps17
      go_wp2
      all_goals
        go_ret
        refine ⟨?_, HB.out⟩
        show Ending.returned (.int .i64 _) = _
        rw [HR.out, IntWalk.i64_left]
        congr 2
        omega
  · have hR : R = topL l n := by rw [HT.out, if_neg h0, if_neg h1]
    obtain ⟨y0, y1⟩ := ieq_no (a := kk) 1 (by omega)
    have HR := Lib.hid hR
    clear hR HT h1
    go_enter Tryz.func17, Tryz.ntmps17
    go_wp2
    generalize World.alloc w _ = W at *
    go_loopg [1, 5] l.length (fun k v1 v5 wr => ∃ (i : Nat) (m : Int), k = l.length - i ∧ i ≤ l.length ∧ v1 = .int .i64 m ∧ v5 = .int .i64 i ∧ Hid (R = topL (l.drop i) m) ∧ Hid (Below W.heap.size W wr))
    case atStart => exact ⟨0, n, by omega, by omega, rfl, rfl, HR, Lib.hid (Below.refl _ _)⟩
    case round =>
      clear HR
      obtain ⟨i, m, hgk, hi, rfl, rfl, HR, HW⟩ := hrel
      have hbo0 := (HW.out.block w.heap.size (lt_of hB0.out)).trans hB0.out
      obtain ⟨x0, x1, x2, x3, _⟩ := cells4 hbo0
      clear hbo0
      by_cases hlt : i < l.length
      · have hlt2 : (i : Int) < l.length := by omega
        obtain ⟨g, cap, p, mm, c, hv, hcap, hgl, hRp, d0, d1, d2, d3⟩ := HA.out.el i hlt
        obtain ⟨rfl, rfl⟩ : pa = some ⟨g, 0, none⟩ ∧ ca = cap := by simp at hv; exact hv
        have hww : Below w.heap.size w wr := HB.out.trans (HW.out.mono HB.out.size)
        have xc : ∀ (j : Nat), wr.cell? ⟨g, j, none⟩ = w.cell? ⟨g, j, none⟩ := fun j => World.cell?_of_block (hww.block g hgl)
        rw [← xc] at d0 d1 d2 d3
        have kx := IH.out i hlt m (.slice p mm c) wr (hRp.kept (Kt.below hww))
        have HR2 := Lib.hid (HR.out.trans (topL_drop hlt m))
        unfold tV at kx
        clear hRp hww xc hv HA IH HR
        have i4 : (0 : Int) ≤ (i : Int) := by omega
        generalize l.getD i dfT = tx at *
        go_wp2_with fail
        refine kx.mono ?_
        rintro en w2 ⟨rfl, hb⟩
        have HW2 := Lib.hid (HW.out.trans (hb.mono HW.out.size))
        clear hb kx
        go_wp2
        go_roundg (l.length - (i + 1))
        case measure => omega
        case rel => exact ⟨i + 1, _, rfl, by omega, rfl, by go_num, HR2, HW2⟩
      · have hlt2 : ¬ ((i : Int) < l.length) := by omega
        have hm := Lib.hid (show R = m by rw [HR.out, List.drop_eq_nil_of_le (by omega), topL])
        go_wp2
        go_ret
        refine ⟨?_, HB.out.trans (HW.out.mono HB.out.size)⟩
        show Ending.returned (.int .i64 _) = _
        rw [hm.out]
theorem top_all (t : T) : TopOk t := by
  have key : ∀ n t, SizeOf.sizeOf t ≤ n → TopOk t := by
    intro n
    induction n with
    | zero => intro t h; exact top_step t fun i hi => absurd (parts_size hi) (by omega)
    | succ n ih => intro t h; exact top_step t fun i hi => ih _ (by have := parts_size hi; omega)
  exact key _ t (Nat.le_refl _)
end Go.Proofs.YtcdmmcogegnieaaGreatDoor.ls
end
section
/- The law's own function sames: two rows of sentences that are one. -/
namespace Go.Proofs.YtcdmmcogegnieaaGreatDoor.ls
open Go.RowKit
open Go.Proofs.YtcdmmcogegnieaaGreatDoor.rd
open Go.Proofs.YtcdmmcogegnieaaGreatDoor.op (bs strC)
open Go.Proofs.YtcdmmcogegnieaaGreatDoor.lx (cell_at ieq_yes ieq_no)
set_option maxRecDepth 20000

def dfS : Sn := (dfT, [])
structure Se (w : World) (g i : Nat) (x : Sn) (p : Option Addr) (m c : Nat) (q : Option Addr) (cq : Nat) : Prop where
  tm : Rp Any w x.1 (.slice p m c)
  c0 : w.cell? ⟨g, i * 5, none⟩ = some (.int .i64 (x.1.k : Nat))
  c1 : w.cell? ⟨g, i * 5 + 1, none⟩ = some (.int .i64 x.1.n)
  c2 : w.cell? ⟨g, i * 5 + 2, none⟩ = some (.string (bs x.1.s))
  c3 : w.cell? ⟨g, i * 5 + 3, none⟩ = some (.slice p m c)
  c4 : w.cell? ⟨g, i * 5 + 4, none⟩ = some (.slice q x.2.length cq)
  nl : x.2.length ≤ maxLen
  nm : ∀ k, k < x.2.length → ∃ gq, q = some ⟨gq, 0, none⟩ ∧ x.2.length ≤ cq ∧ gq < w.heap.size ∧ w.cell? ⟨gq, k, none⟩ = some (.string (bs (x.2.getD k [])))
theorem ss_len {B : Nat} {w : World} {v : Value} {l : List Sn} (h : Ss B w v l) : l.length ≤ maxLen := by
  obtain ⟨zs, h1, h2, h3⟩ := h
  rcases h2.2 with ⟨e1, e2⟩ | ⟨g, cap, cur, e1, _, _, e4, e5, _⟩
  · rw [e2]; exact Nat.zero_le _
  · omega
theorem names_el {B : Nat} {w : World} {nm : List (List UInt8)} {q : Option Addr} {n cq : Nat} (h : w.ownsRow B 9 1 (.slice q n cq) nm.length (strC (nm.map bs))) : n = nm.length ∧ nm.length ≤ maxLen ∧
    ∀ k, k < nm.length → ∃ gq, q = some ⟨gq, 0, none⟩ ∧ nm.length ≤ cq ∧ gq < w.heap.size ∧ w.cell? ⟨gq, k, none⟩ = some (.string (bs (nm.getD k []))) := by
  rcases h.2 with ⟨e1, e2⟩ | ⟨g, cap, cur, e1, _, e3, e4, e5, _⟩
  · simp at e1
    exact ⟨by omega, by rw [e2]; exact Nat.zero_le _, fun k hk => by omega⟩
  · simp at e1
    obtain ⟨rfl, rfl, rfl⟩ := e1
    refine ⟨rfl, by omega, fun k hk => ⟨g, rfl, e4, lt_of e3, ?_⟩⟩
    have hc := World.ownsRow.cells h (g := g) rfl
    have := hc k (.string (bs (nm.getD k []))) (by simp [strC, hk])
    rwa [op.addr_add] at this
theorem ss_el {B : Nat} {w : World} {v : Value} {l : List Sn} (h : Ss B w v l) {i : Nat} (hi : i < l.length) : ∃ g cap p m c q cq, v = .slice (some ⟨g, 0, none⟩) l.length cap ∧ l.length ≤ cap ∧ g < w.heap.size ∧ Se w g i (l.getD i dfS) p m c q cq := by
  obtain ⟨zs, h1, h2, h3⟩ := h
  rcases h2.2 with ⟨_, e2⟩ | ⟨g, cap, cur, e1, _, e3, e4, _⟩
  · omega
  have hc := World.ownsRow.cells h2 (g := g) (by rw [e1]; rfl)
  have key : ∀ m u, m < 5 → (scell l[i] (zs[i]'(by omega)))[m]? = some u → w.cell? ⟨g, i * 5 + m, none⟩ = some u := fun m u hm hu => by
    have h4 := scells_get (l.zip zs) i m (by simp; omega) hm
    rw [List.getElem_zip] at h4
    have := hc (i * 5 + m) u (by rw [h4]; exact hu)
    rwa [op.addr_add] at this
  have ee : l.getD i dfS = l[i] := by simp [hi]
  have hH := h3 i hi (by omega)
  obtain ⟨p, m, c, he⟩ := hH.1.shape
  obtain ⟨q, n, cq, hq⟩ := own_shape hH.2
  have hN := hH.2
  rw [hq] at hN
  obtain ⟨rfl, k2, k3⟩ := names_el hN
  rw [ee]
  refine ⟨g, cap, p, m, c, q, cq, e1, e4, lt_of e3, ⟨by rw [← he]; exact any hH.1, key 0 _ (by omega) rfl, key 1 _ (by omega) rfl, key 2 _ (by omega) rfl, ?_, ?_, k2, k3⟩⟩
  · rw [← he]; exact key 3 _ (by omega) rfl
  · rw [← hq]; exact key 4 _ (by omega) rfl
theorem Se.stay {w w' : World} {g i m c cq : Nat} {x : Sn} {p q : Option Addr} (h : Se w g i x p m c q cq) (hg : g < w.heap.size) (hb : Below w.heap.size w w') : Se w' g i x p m c q cq := by
  have xc : ∀ (u : Nat) (hu : u < w.heap.size) (j : Nat), w'.cell? ⟨u, j, none⟩ = w.cell? ⟨u, j, none⟩ := fun u hu j => World.cell?_of_block (hb.block u hu)
  refine ⟨h.tm.kept (Kt.below hb), by rw [xc g hg]; exact h.c0, by rw [xc g hg]; exact h.c1, by rw [xc g hg]; exact h.c2, by rw [xc g hg]; exact h.c3, by rw [xc g hg]; exact h.c4, h.nl, fun k hk => ?_⟩
  obtain ⟨gq, h1, h2, h3, h4⟩ := h.nm k hk
  exact ⟨gq, h1, h2, Nat.lt_of_lt_of_le h3 hb.size, by rw [xc gq h3]; exact h4⟩
set_option maxHeartbeats 4000000 in
theorem sames_c {B B' : Nat} {w : World} {a c : Value} {l : List Sn} (ha : Ss B w a l) (hc : Ss B' w c l) :
    Calls Tryz.prog 16 #[a, c] w fun en w' => en = .returned (.bool true) ∧ Below w.heap.size w w' := by
  have hN := ss_len ha
  unfold maxLen at hN
  obtain ⟨pa, ca, rfl⟩ := ha.shape
  obtain ⟨pc, cc, rfl⟩ := hc.shape
  have HA := Lib.hid (fun i hi => ss_el ha (i := i) hi)
  have HC := Lib.hid (fun i hi => ss_el hc (i := i) hi)
  have e4 : ((l.length : Int) != (l.length : Int)) = false := by simp
  clear ha hc
  go_enter Tryz.func16, Tryz.ntmps16
  go_wp2
  clear e4
  go_loopg [5] l.length (fun k v wr => ∃ i : Nat, k = l.length - i ∧ i ≤ l.length ∧ v = .int .i64 i ∧ Hid (Below w.heap.size w wr))
  case atStart => exact ⟨0, by omega, by omega, rfl, Lib.hid (Below.refl _ _)⟩
  case round =>
    obtain ⟨i, hgk, hi, rfl, HW⟩ := hrel
    by_cases hlt : i < l.length
    · have hlt2 : (i : Int) < l.length := by omega
      have i4 : (0 : Int) ≤ (i : Int) := by omega
      obtain ⟨g, cap, p, m, c, q, cq, hv, hcap, hgl, hE⟩ := HA.out i hlt
      obtain ⟨rfl, rfl⟩ : pa = some ⟨g, 0, none⟩ ∧ ca = cap := by simp at hv; exact hv
      obtain ⟨g', cap', p', m', c', q', cq', hv', hcap', hgl', hE'⟩ := HC.out i hlt
      obtain ⟨rfl, rfl⟩ : pc = some ⟨g', 0, none⟩ ∧ cc = cap' := by simp at hv'; exact hv'
      have hG := hE.stay hgl HW.out
      have hG' := hE'.stay hgl' HW.out
      generalize l.getD i dfS = x at *
      have kx := fun n => same_all x.1 (.slice p m c) (.slice p' m' c') (wr.drewN n) (hG.tm.kept (Kt.below (below_drawn _ _ _))) (hG'.tm.kept (Kt.below (below_drawn _ _ _)))
      have hg1 : g < wr.heap.size := Nat.lt_of_lt_of_le hgl HW.out.size
      have hg2 : g' < wr.heap.size := Nat.lt_of_lt_of_le hgl' HW.out.size
      have HG := Lib.hid hG
      have HG' := Lib.hid hG'
      have d0 := hG.c0
      have d1 := hG.c1
      have d2 := hG.c2
      have d3 := hG.c3
      have d4 := hG.c4
      have f0 := hG'.c0
      have f1 := hG'.c1
      have f2 := hG'.c2
      have f3 := hG'.c3
      have f4 := hG'.c4
      have e5 : ((x.2.length : Int) != (x.2.length : Int)) = false := by simp
      have hbk : Hid (∀ w2, Below wr.heap.size wr w2 → ∀ (q : Nat), q < wr.heap.size → ∀ (j : Nat), w2.cell? ⟨q, j, none⟩ = wr.cell? ⟨q, j, none⟩) := Lib.hid fun w2 h q hq j => World.cell?_of_block (h.block q hq)
      have hxl := hG.nl
      unfold maxLen at hxl
      clear hE hE' hG hG' hv hv'
      unfold tV at kx
      go_wp2_with fail
      go_region_held3 (fun w' => w'.cell? ⟨g, i * 5, none⟩ = some (.int .i64 (x.1.k : Nat)) ∧ w'.cell? ⟨g, i * 5 + 1, none⟩ = some (.int .i64 x.1.n) ∧ w'.cell? ⟨g, i * 5 + 2, none⟩ = some (.string (bs x.1.s)) ∧ w'.cell? ⟨g, i * 5 + 3, none⟩ = some (.slice p m c) ∧ w'.cell? ⟨g, i * 5 + 4, none⟩ = some (.slice q x.2.length cq) ∧
        w'.cell? ⟨g', i * 5, none⟩ = some (.int .i64 (x.1.k : Nat)) ∧ w'.cell? ⟨g', i * 5 + 1, none⟩ = some (.int .i64 x.1.n) ∧ w'.cell? ⟨g', i * 5 + 2, none⟩ = some (.string (bs x.1.s)) ∧ w'.cell? ⟨g', i * 5 + 3, none⟩ = some (.slice p' m' c') ∧ w'.cell? ⟨g', i * 5 + 4, none⟩ = some (.slice q' x.2.length cq'))
        (first | exact ⟨(q1 _ hg1 _).trans d0, (q1 _ hg1 _).trans d1, (q1 _ hg1 _).trans d2, (q1 _ hg1 _).trans d3, (q1 _ hg1 _).trans d4, (q1 _ hg2 _).trans f0, (q1 _ hg2 _).trans f1, (q1 _ hg2 _).trans f2, (q1 _ hg2 _).trans f3, (q1 _ hg2 _).trans f4⟩ | go_keep)
        ((go_at_call 12; (refine (kx _).mono ?_); rintro en w2 ⟨rfl, hb⟩; have HW2 := Lib.hid ((below_drawn wr.heap.size wr _).trans hb); have q1 := hbk.out w2 HW2.out; clear hb))
      all_goals
        have HG2 := Lib.hid (HG.out.stay hg1 HW2.out)
        have HG2' := Lib.hid (HG'.out.stay hg2 HW2.out)
        have hg3 : g < w2.heap.size := Nat.lt_of_lt_of_le hg1 HW2.out.size
        have hg4 : g' < w2.heap.size := Nat.lt_of_lt_of_le hg2 HW2.out.size
        have HW3 := Lib.hid (HW.out.trans (HW2.out.mono HW.out.size))
        clear kx q1 hbk d0 d1 d2 d3 d4 f0 f1 f2 f3 f4 HG HG' HW HW2 hg1 hg2 hgl hgl' HA HC
        go_wp2
        go_loopg [6] x.2.length (fun k v wq => ∃ j : Nat, k = x.2.length - j ∧ j ≤ x.2.length ∧ v = .int .i64 j ∧ Hid (Below w2.heap.size w2 wq))
        case atStart => exact ⟨0, by omega, by omega, rfl, Lib.hid (Below.refl _ _)⟩
        case round =>
          obtain ⟨j, hgj, hj, rfl, HQ⟩ := hrel
          have hS := HG2.out.stay hg3 HQ.out
          have hS' := HG2'.out.stay hg4 HQ.out
          have d4 := hS.c4
          have f4 := hS'.c4
          by_cases hjl : j < x.2.length
          · have hjl2 : (j : Int) < x.2.length := by omega
            have j4 : (0 : Int) ≤ (j : Int) := by omega
            obtain ⟨gq, rfl, hq1, hq2, hq3⟩ := hS.nm j hjl
            obtain ⟨gq', rfl, hq1', hq2', hq3'⟩ := hS'.nm j hjl
            generalize bs (x.2.getD j []) = z at *
            have ez : (z.data.toList != z.data.toList) = false := by simp
            clear hS hS' HG2 HG2'
            go_wp2
            go_quiet (fail)
            go_wp2
            go_roundg (x.2.length - (j + 1))
            case measure => omega
            case rel => exact ⟨j + 1, rfl, by omega, by go_num, Lib.hid (HQ.out.trans (below_drawn ..))⟩
          · have hjl2 : ¬ ((j : Int) < x.2.length) := by omega
            clear hS hS' HG2 HG2'
            go_wp2
            go_roundg (l.length - (i + 1))
            case measure => omega
            case rel => exact ⟨i + 1, rfl, by omega, by go_num, Lib.hid (HW3.out.trans (HQ.out.mono HW3.out.size))⟩
    · have hlt2 : ¬ ((i : Int) < l.length) := by omega
      go_wp2
      go_ret
      exact ⟨rfl, HW.out⟩
end Go.Proofs.YtcdmmcogegnieaaGreatDoor.ls
end
