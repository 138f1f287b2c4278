/- The reference's One.; What stands as a term, whether it may or not: its parts in memory, how many they are, which may be written.; The law's own functions: same (two terms that are one), top.; A term in memory, looked at as what stands as a term.; Terms read of two rows of tokens that are alike as far as they are read. -/
import Derived.Test.YtjccohcigopdfaaQ15
import Derived.Test.YtjccohcigopdfaaQ3
import Derived.Test.YtjccohcigopdfaaQ12
import Derived.Test.YtjccohcigopdfaaQ5
import Derived.Deep.RegionHeld3
import Derived.Test.YtjccohcigopdfaaQ2
set_option linter.unusedVariables false
set_option linter.unusedSimpArgs false
section
/- The reference's One. -/
namespace Go.Proofs.Ytjccohcigopdfaa.rr
open Go.RowKit
open Go.Proofs.Ytjccohcigopdfaa.rd
open Go.Proofs.Ytjccohcigopdfaa.op (bs strC Both Tb bs_data)
open Go.Proofs.Ytjccohcigopdfaa.lx (Tok Tk Out toksD rtoks outToks outP outE cell_at ieq_yes ieq_no outToks_len outE_bad)
set_option maxRecDepth 20000

set_option maxHeartbeats 4000000 in
theorem rone_c (s : ByteArray) (w : World) (hb : Both w) (hp : 0 ≤ w.heap.size) (hz : s.size ≤ 9223372036854775800) :
    Calls Try.prog 28 #[.string s] w (OQ w (oneP s.data.toList)) := by
  have hrb0 := Lib.hid (heap_alloc_new w (.cells #[.int .i64 0, .int .i64 0, .string ⟨#[]⟩, .slice none 0 0, .slice none 0 0] 44))
  have hBa := (Below.refl w.heap.size w).alloc (Nat.le_refl _) (.cells #[.int .i64 0, .int .i64 0, .string ⟨#[]⟩, .slice none 0 0, .slice none 0 0] 44)
  have HBa := Lib.hid hBa
  have kt := rtoks s (w.alloc (.cells #[.int .i64 0, .int .i64 0, .string ⟨#[]⟩, .slice none 0 0, .slice none 0 0] 44)) (by omega)
  have hbd0 : (bs (endP s.data.toList)).data.toList = endP s.data.toList := rfl
  have hls : s.data.toList.length = s.size := by simp
  have hsz : (bs (endP s.data.toList)).size ≤ 9223372036854775807 := by
    have := endP_len s.data.toList
    show (endP s.data.toList).length ≤ _
    omega
  have kr := fun w hb hp => rread_c (bs (endP s.data.toList)) w hb hp hsz
  rw [hbd0] at kr
  have hX : oneP s.data.toList = match readP (toksD (endP s.data.toList)) with | .error k => .error k | .ok [x] => .ok x | .ok _ => .error 50 := rfl
  have hke := fun k h => read_err (o := toksD (endP s.data.toList)) rfl (k := k) h
  have HB := Lib.hid hb
  have hws := Lib.hid (size_alloc w (.cells #[.int .i64 0, .int .i64 0, .string ⟨#[]⟩, .slice none 0 0, .slice none 0 0] 44))
  have hap := app_data s s.data.toList rfl
  have hbd := bs_data s
  rcases ho : toksD s.data.toList with ts | ⟨p, k⟩
  · rw [ho] at kt
    have hl : ts.length ≤ 1000 := by have := outToks_len s.data.toList; rw [ho] at this; exact this
    have he : endP s.data.toList = if endsB ts = true then s.data.toList else s.data.toList ++ [32, 46] := by unfold endP; rw [ho]
    have hbe : bs (endP s.data.toList) = if endsB ts = true then s else s ++ ⟨#[32, 46]⟩ := by
      rw [he]; split
      · exact hbd
      · exact hap.symm
    rw [hbe] at kr
    generalize readP (toksD (endP s.data.toList)) = Y at *
    generalize oneP s.data.toList = X at *
    have HX := Lib.hid hX
    have Hke := Lib.hid hke
    clear hX hke hap hbd he hbe hbd0 hsz hb
    rcases ts.eq_nil_or_concat with h0 | h1
    · obtain rfl := h0
      have Kr := Lib.hid (show ∀ w, Both w → 0 ≤ w.heap.size → Calls Try.prog 41 #[.string (s ++ ⟨#[32, 46]⟩)] w (NQ w Y) from fun w h1 h2 => kr w h1 h2)
      clear kr ho
      go_enter Try.func28, Try.ntmps28
      go_wp2_with fail
      refine kt.mono ?_
      rintro en w1 ⟨v, rfl, hT, hb1⟩
      obtain ⟨va, vc, rfl⟩ := hT.shape
      have HB1 := Lib.hid (HBa.out.trans (hb1.mono HBa.out.size))
      have hrb1 := Lib.hid ((hb1.block w.heap.size (lt_of hrb0.out)).trans hrb0.out)
      have hz1 := lt_of hrb1.out
      have kr := Kr.out w1 (HB.out.kept HB1.out) (by have := HB1.out.size; omega)
      clear hb1 kt hT Kr
      unfold outP outE
      go_wp2_with fail
      refine kr.mono ?_
      clear kr
      rcases Y with k | l
      · rintro en w2 ⟨p, rfl, hb⟩
        have HB2 := Lib.hid (HB1.out.trans (hb.mono HB1.out.size))
        have hrb2 := Lib.hid ((hb.block w.heap.size hz1).trans hrb1.out)
        have hk := Hke.out k rfl
        obtain ⟨z1, z2⟩ := ieq_no (a := k) 0 (by omega)
        obtain ⟨r0, r1, r2, r3, r4, rf⟩ := cells5 hrb2.out
        clear hb Hke hk
        generalize hBe : w.heap.size = B at *
        have HBe := Lib.hid hBe
        clear hBe
        go_wp2
        (try simp only [Exit.inBlock, Exit.then])
        refine bodyPost_ret (ret_one rfl _ _ rfl (set5 hrb2.out _ _ _ _ _)) rfl ?_
        rw [HX.out]
        exact ⟨_, rfl, by rw [HBe.out]; exact below5 HB2.out (Nat.le_refl _) _ _ _ _ _⟩
      · rintro en w2 ⟨v, rfl, hs, hb⟩
        have HB2 := Lib.hid (HB1.out.trans (hb.mono HB1.out.size))
        have hrb2 := Lib.hid ((hb.block w.heap.size hz1).trans hrb1.out)
        obtain ⟨r0, r1, r2, r3, r4, rf⟩ := cells5 hrb2.out
        clear hb Hke
        rcases l with _ | ⟨x, l⟩
        · obtain ⟨xa, xc, rfl⟩ := hs.shape
          clear hs
          generalize hBe : w.heap.size = B at *
          have HBe := Lib.hid hBe
          clear hBe
          go_wp2
          (try simp only [Exit.inBlock, Exit.then])
          refine bodyPost_ret (ret_one rfl _ _ rfl (set5 hrb2.out _ _ _ _ _)) rfl ?_
          rw [HX.out]
          exact ⟨_, rfl, by rw [HBe.out]; exact below5 HB2.out (Nat.le_refl _) _ _ _ _ _⟩
        · obtain ⟨g, cap, a, nvs, rfl, hH, hcap, hgl, q0, q1, q2, q3, q4⟩ := hs.head
          rcases l with _ | ⟨y, l⟩
          · obtain ⟨ap, an, ac, rfl⟩ := hH.1.shape
            obtain ⟨na, nn, nc, rfl⟩ := own_shape hH.2
            have HH := Lib.hid hH
            have hz12 := HB1.out.size
            have hH2 := Lib.hid (show Hg w.heap.size w2 x (.slice ap an ac, .slice na nn nc) from ⟨hH.1.imp fun k _ hk => Nat.le_trans hz12 hk, World.ownsRow.mono hH.2 hz12⟩)
            clear hs hH HH
            simp only [List.length_nil, Nat.zero_add] at *
            generalize hBe : w.heap.size = B at *
            have HBe := Lib.hid hBe
            clear hBe
            go_wp2
            (try simp only [Exit.inBlock, Exit.then])
            refine bodyPost_ret (ret_one rfl _ _ rfl (set5 hrb2.out _ _ _ _ _)) rfl ?_
            rw [HX.out]
            exact ⟨_, _, rfl, by rw [HBe.out]; exact hH2.out.kept (kt5 hrb2.out _ _ _ _ _ _ (by decide)) (kt5 hrb2.out _ _ _ _ _ _ (by decide)), by rw [HBe.out]; exact below5 HB2.out (Nat.le_refl _) _ _ _ _ _⟩
          · have hn1 : (((l.length : Int) + 1 + 1) != 1) = true := by simp; omega
            clear hs hH q0 q1 q2 q3 q4
            simp only [List.length_cons] at *
            generalize hBe : w.heap.size = B at *
            have HBe := Lib.hid hBe
            clear hBe
            go_wp2
            (try simp only [Exit.inBlock, Exit.then])
            refine bodyPost_ret (ret_one rfl _ _ rfl (set5 hrb2.out _ _ _ _ _)) rfl ?_
            rw [HX.out]
            exact ⟨_, rfl, by rw [HBe.out]; exact below5 HB2.out (Nat.le_refl _) _ _ _ _ _⟩
    · obtain ⟨ini, t, rfl⟩ := h1
      rw [List.concat_eq_append] at *
      have hlast : endsB (ini ++ [t]) = (t.kind == 6) := by unfold endsB; rw [List.getLast?_concat]
      rw [hlast] at kr
      clear ho hlast
      by_cases h6 : t.kind = 6
      · have Kr := Lib.hid (show ∀ w, Both w → 0 ≤ w.heap.size → Calls Try.prog 41 #[.string s] w (NQ w Y) from fun w h1 h2 => by have := kr w h1 h2; rwa [if_pos (by simpa using h6)] at this)
        obtain ⟨x1, x2⟩ := ieq_yes (a := t.kind) 6 (by omega)
        clear kr h6
        go_enter Try.func28, Try.ntmps28
        go_wp2_with fail
        refine kt.mono ?_
        rintro en w1 ⟨v, rfl, hT, hb1⟩
        obtain ⟨g, cap, rfl, hcap, _, hgl, hcell⟩ := hT.row (by show 0 < (ini ++ [t]).length; simp)
        have c0 := (hcell ini.length (by show ini.length < (ini ++ [t]).length; simp)).1
        have hti : (outToks (.ok (ini ++ [t])))[ini.length]'(by show ini.length < (ini ++ [t]).length; simp) = t := by
          show (ini ++ [t])[ini.length]'_ = t
          simp
        rw [hti] at c0
        have hlen : (outToks (.ok (ini ++ [t]))).length = ini.length + 1 := by show (ini ++ [t]).length = _; simp
        have hl' : ini.length + 1 ≤ 1000 := by simpa using hl
        rw [hlen] at *
        clear hcell hti hlen hl
        generalize ini.length = N at *
        have i1 : IntKind.i64.wrap ((N : Int) + 1 - 1) = (N : Int) := by rw [IntWalk.i64_in _ (by omega)]; omega
        have i2 : (0 : Int) < (N : Int) + 1 := by omega
        have i3 : (0 : Int) ≤ (N : Int) := by omega
        have i4 : (N : Int) < (N : Int) + 1 := by omega
        have i5 : (N : Int) < ((N + 1 : Nat) : Int) := by omega
        have i6 : ((N : Int) + 1 == 0) = false := by rw [beq_eq_false_iff_ne]; omega
        have HB1 := Lib.hid (HBa.out.trans (hb1.mono HBa.out.size))
        have hrb1 := Lib.hid ((hb1.block w.heap.size (lt_of hrb0.out)).trans hrb0.out)
        have hz1 := lt_of hrb1.out
        have kr := Kr.out w1 (HB.out.kept HB1.out) (by have := HB1.out.size; omega)
        clear hb1 kt hT Kr
        unfold outP outE
        go_wp2_with fail
        refine kr.mono ?_
        clear kr
        rcases Y with k | l
        · rintro en w2 ⟨p, rfl, hb⟩
          have HB2 := Lib.hid (HB1.out.trans (hb.mono HB1.out.size))
          have hrb2 := Lib.hid ((hb.block w.heap.size hz1).trans hrb1.out)
          have hk := Hke.out k rfl
          obtain ⟨z1, z2⟩ := ieq_no (a := k) 0 (by omega)
          obtain ⟨r0, r1, r2, r3, r4, rf⟩ := cells5 hrb2.out
          clear hb Hke hk
          generalize hBe : w.heap.size = B at *
          have HBe := Lib.hid hBe
          clear hBe
          go_wp2
          (try simp only [Exit.inBlock, Exit.then])
          refine bodyPost_ret (ret_one rfl _ _ rfl (set5 hrb2.out _ _ _ _ _)) rfl ?_
          rw [HX.out]
          exact ⟨_, rfl, by rw [HBe.out]; exact below5 HB2.out (Nat.le_refl _) _ _ _ _ _⟩
        · rintro en w2 ⟨v, rfl, hs, hb⟩
          have HB2 := Lib.hid (HB1.out.trans (hb.mono HB1.out.size))
          have hrb2 := Lib.hid ((hb.block w.heap.size hz1).trans hrb1.out)
          obtain ⟨r0, r1, r2, r3, r4, rf⟩ := cells5 hrb2.out
          clear hb Hke
          rcases l with _ | ⟨x, l⟩
          · obtain ⟨xa, xc, rfl⟩ := hs.shape
            clear hs
            generalize hBe : w.heap.size = B at *
            have HBe := Lib.hid hBe
            clear hBe
            go_wp2
            (try simp only [Exit.inBlock, Exit.then])
            refine bodyPost_ret (ret_one rfl _ _ rfl (set5 hrb2.out _ _ _ _ _)) rfl ?_
            rw [HX.out]
            exact ⟨_, rfl, by rw [HBe.out]; exact below5 HB2.out (Nat.le_refl _) _ _ _ _ _⟩
          · obtain ⟨g, cap, a, nvs, rfl, hH, hcap, hgl, q0, q1, q2, q3, q4⟩ := hs.head
            rcases l with _ | ⟨y, l⟩
            · obtain ⟨ap, an, ac, rfl⟩ := hH.1.shape
              obtain ⟨na, nn, nc, rfl⟩ := own_shape hH.2
              have HH := Lib.hid hH
              have hz12 := HB1.out.size
              have hH2 := Lib.hid (show Hg w.heap.size w2 x (.slice ap an ac, .slice na nn nc) from ⟨hH.1.imp fun k _ hk => Nat.le_trans hz12 hk, World.ownsRow.mono hH.2 hz12⟩)
              clear hs hH HH
              simp only [List.length_nil, Nat.zero_add] at *
              generalize hBe : w.heap.size = B at *
              have HBe := Lib.hid hBe
              clear hBe
              go_wp2
              (try simp only [Exit.inBlock, Exit.then])
              refine bodyPost_ret (ret_one rfl _ _ rfl (set5 hrb2.out _ _ _ _ _)) rfl ?_
              rw [HX.out]
              exact ⟨_, _, rfl, by rw [HBe.out]; exact hH2.out.kept (kt5 hrb2.out _ _ _ _ _ _ (by decide)) (kt5 hrb2.out _ _ _ _ _ _ (by decide)), by rw [HBe.out]; exact below5 HB2.out (Nat.le_refl _) _ _ _ _ _⟩
            · have hn1 : (((l.length : Int) + 1 + 1) != 1) = true := by simp; omega
              clear hs hH q0 q1 q2 q3 q4
              simp only [List.length_cons] at *
              generalize hBe : w.heap.size = B at *
              have HBe := Lib.hid hBe
              clear hBe
              go_wp2
              (try simp only [Exit.inBlock, Exit.then])
              refine bodyPost_ret (ret_one rfl _ _ rfl (set5 hrb2.out _ _ _ _ _)) rfl ?_
              rw [HX.out]
              exact ⟨_, rfl, by rw [HBe.out]; exact below5 HB2.out (Nat.le_refl _) _ _ _ _ _⟩
      · have Kr := Lib.hid (show ∀ w, Both w → 0 ≤ w.heap.size → Calls Try.prog 41 #[.string (s ++ ⟨#[32, 46]⟩)] w (NQ w Y) from fun w h1 h2 => by have := kr w h1 h2; rwa [if_neg (by simpa using h6)] at this)
        obtain ⟨x1, x2⟩ := ieq_no (a := t.kind) 6 (by omega)
        clear kr h6
        go_enter Try.func28, Try.ntmps28
        go_wp2_with fail
        refine kt.mono ?_
        rintro en w1 ⟨v, rfl, hT, hb1⟩
        obtain ⟨g, cap, rfl, hcap, _, hgl, hcell⟩ := hT.row (by show 0 < (ini ++ [t]).length; simp)
        have c0 := (hcell ini.length (by show ini.length < (ini ++ [t]).length; simp)).1
        have hti : (outToks (.ok (ini ++ [t])))[ini.length]'(by show ini.length < (ini ++ [t]).length; simp) = t := by
          show (ini ++ [t])[ini.length]'_ = t
          simp
        rw [hti] at c0
        have hlen : (outToks (.ok (ini ++ [t]))).length = ini.length + 1 := by show (ini ++ [t]).length = _; simp
        have hl' : ini.length + 1 ≤ 1000 := by simpa using hl
        rw [hlen] at *
        clear hcell hti hlen hl
        generalize ini.length = N at *
        have i1 : IntKind.i64.wrap ((N : Int) + 1 - 1) = (N : Int) := by rw [IntWalk.i64_in _ (by omega)]; omega
        have i2 : (0 : Int) < (N : Int) + 1 := by omega
        have i3 : (0 : Int) ≤ (N : Int) := by omega
        have i4 : (N : Int) < (N : Int) + 1 := by omega
        have i5 : (N : Int) < ((N + 1 : Nat) : Int) := by omega
        have i6 : ((N : Int) + 1 == 0) = false := by rw [beq_eq_false_iff_ne]; omega
        have HB1 := Lib.hid (HBa.out.trans (hb1.mono HBa.out.size))
        have hrb1 := Lib.hid ((hb1.block w.heap.size (lt_of hrb0.out)).trans hrb0.out)
        have hz1 := lt_of hrb1.out
        have kr := Kr.out w1 (HB.out.kept HB1.out) (by have := HB1.out.size; omega)
        clear hb1 kt hT Kr
        unfold outP outE
        go_wp2_with fail
        refine kr.mono ?_
        clear kr
        rcases Y with k | l
        · rintro en w2 ⟨p, rfl, hb⟩
          have HB2 := Lib.hid (HB1.out.trans (hb.mono HB1.out.size))
          have hrb2 := Lib.hid ((hb.block w.heap.size hz1).trans hrb1.out)
          have hk := Hke.out k rfl
          obtain ⟨z1, z2⟩ := ieq_no (a := k) 0 (by omega)
          obtain ⟨r0, r1, r2, r3, r4, rf⟩ := cells5 hrb2.out
          clear hb Hke hk
          generalize hBe : w.heap.size = B at *
          have HBe := Lib.hid hBe
          clear hBe
          go_wp2
          (try simp only [Exit.inBlock, Exit.then])
          refine bodyPost_ret (ret_one rfl _ _ rfl (set5 hrb2.out _ _ _ _ _)) rfl ?_
          rw [HX.out]
          exact ⟨_, rfl, by rw [HBe.out]; exact below5 HB2.out (Nat.le_refl _) _ _ _ _ _⟩
        · rintro en w2 ⟨v, rfl, hs, hb⟩
          have HB2 := Lib.hid (HB1.out.trans (hb.mono HB1.out.size))
          have hrb2 := Lib.hid ((hb.block w.heap.size hz1).trans hrb1.out)
          obtain ⟨r0, r1, r2, r3, r4, rf⟩ := cells5 hrb2.out
          clear hb Hke
          rcases l with _ | ⟨x, l⟩
          · obtain ⟨xa, xc, rfl⟩ := hs.shape
            clear hs
            generalize hBe : w.heap.size = B at *
            have HBe := Lib.hid hBe
            clear hBe
            go_wp2
            (try simp only [Exit.inBlock, Exit.then])
            refine bodyPost_ret (ret_one rfl _ _ rfl (set5 hrb2.out _ _ _ _ _)) rfl ?_
            rw [HX.out]
            exact ⟨_, rfl, by rw [HBe.out]; exact below5 HB2.out (Nat.le_refl _) _ _ _ _ _⟩
          · obtain ⟨g, cap, a, nvs, rfl, hH, hcap, hgl, q0, q1, q2, q3, q4⟩ := hs.head
            rcases l with _ | ⟨y, l⟩
            · obtain ⟨ap, an, ac, rfl⟩ := hH.1.shape
              obtain ⟨na, nn, nc, rfl⟩ := own_shape hH.2
              have HH := Lib.hid hH
              have hz12 := HB1.out.size
              have hH2 := Lib.hid (show Hg w.heap.size w2 x (.slice ap an ac, .slice na nn nc) from ⟨hH.1.imp fun k _ hk => Nat.le_trans hz12 hk, World.ownsRow.mono hH.2 hz12⟩)
              clear hs hH HH
              simp only [List.length_nil, Nat.zero_add] at *
              generalize hBe : w.heap.size = B at *
              have HBe := Lib.hid hBe
              clear hBe
              go_wp2
              (try simp only [Exit.inBlock, Exit.then])
              refine bodyPost_ret (ret_one rfl _ _ rfl (set5 hrb2.out _ _ _ _ _)) rfl ?_
              rw [HX.out]
              exact ⟨_, _, rfl, by rw [HBe.out]; exact hH2.out.kept (kt5 hrb2.out _ _ _ _ _ _ (by decide)) (kt5 hrb2.out _ _ _ _ _ _ (by decide)), by rw [HBe.out]; exact below5 HB2.out (Nat.le_refl _) _ _ _ _ _⟩
            · have hn1 : (((l.length : Int) + 1 + 1) != 1) = true := by simp; omega
              clear hs hH q0 q1 q2 q3 q4
              simp only [List.length_cons] at *
              generalize hBe : w.heap.size = B at *
              have HBe := Lib.hid hBe
              clear hBe
              go_wp2
              (try simp only [Exit.inBlock, Exit.then])
              refine bodyPost_ret (ret_one rfl _ _ rfl (set5 hrb2.out _ _ _ _ _)) rfl ?_
              rw [HX.out]
              exact ⟨_, rfl, by rw [HBe.out]; exact below5 HB2.out (Nat.le_refl _) _ _ _ _ _⟩
  · rw [ho] at kt
    have he : endP s.data.toList = s.data.toList := by unfold endP; rw [ho]
    have hX2 : oneP s.data.toList = .error k := by unfold oneP; rw [he, ho]; rfl
    rw [hX2]
    have hk := outE_bad ho
    clear hX hke hap hbd he hbd0 hsz hb kr ho hX2
    obtain ⟨x1, x2⟩ := ieq_no (a := k) 0 (by omega)
    go_enter Try.func28, Try.ntmps28
    go_wp2_with fail
    refine kt.mono ?_
    rintro en w1 ⟨v, rfl, hT, hb1⟩
    obtain ⟨va, vc, rfl⟩ := hT.shape
    have HB1 := Lib.hid (HBa.out.trans (hb1.mono HBa.out.size))
    have hrb1 := Lib.hid ((hb1.block w.heap.size (lt_of hrb0.out)).trans hrb0.out)
    obtain ⟨r0, r1, r2, r3, r4, rf⟩ := cells5 hrb1.out
    clear hb1 kt hT hrb0 HBa hk
    generalize hBe : w.heap.size = B at *
    have HBe := Lib.hid hBe
    clear hBe
    unfold outP outE
    go_wp2
    (try simp only [Exit.inBlock, Exit.then])
    refine bodyPost_ret (ret_one rfl _ _ rfl (set5 hrb1.out _ _ _ _ _)) rfl ?_
    exact ⟨_, rfl, by rw [HBe.out]; exact below5 HB1.out (Nat.le_refl _) _ _ _ _ _⟩
end Go.Proofs.Ytjccohcigopdfaa.rr
end
section
/- What stands as a term, whether it may or not: its parts in memory, how many they are, which may be written. -/
namespace Go.Proofs.Ytjccohcigopdfaa.wr
open Go.RowKit
open Go.Proofs.Ytjccohcigopdfaa.rd
open Go.Proofs.Ytjccohcigopdfaa.op (bs strC)
open Go.Proofs.Ytjccohcigopdfaa.lx (quoteS cell_at isOne toks Qn)
open Go.Proofs.Ytjccohcigopdfaa.nm (Fit)
set_option maxRecDepth 20000

/-- a kind, a number, a name, parts -/
inductive U where
  | mk (k n : Int) (s : List UInt8) (l : List U)
def U.k : U → Int | .mk k _ _ _ => k
def U.n : U → Int | .mk _ n _ _ => n
def U.s : U → List UInt8 | .mk _ _ s _ => s
def U.l : U → List U | .mk _ _ _ l => l
def dfU : U := .mk 0 0 [] []
mutual
/-- the term that counts -/
def er : U → T
  | .mk k n s l => if k = 4 then .cmp s (erL l) else .leaf k.toNat n s
def erL : List U → List T
  | [] => []
  | u :: l => er u :: erL l
end
mutual
/-- each part may be written -/
def okU : U → Prop
  | .mk k n s l => (k = 1 ∧ 0 ≤ n) ∨ k = 2 ∨ (k = 3 ∧ quoteS s ≠ []) ∨ (k = 4 ∧ quoteS s ≠ [] ∧ l ≠ [] ∧ okUL l)
def okUL : List U → Prop
  | [] => True
  | u :: l => okU u ∧ okUL l
end
mutual
/-- how many parts -/
def szU : U → Nat
  | .mk k _ _ l => 1 + (if k = 4 then szUL l else 0)
def szUL : List U → Nat
  | [] => 0
  | u :: l => szU u + szUL l
end
mutual
/-- all names are such -/
def qnU : U → Prop
  | .mk _ _ s l => Qn s ∧ qnUL l
def qnUL : List U → Prop
  | [] => True
  | u :: l => qnU u ∧ qnUL l
end
mutual
/-- a is the slice of the parts; all lies in blocks ahead of b -/
def Ru (b : Nat) (w : World) : U → Value → Prop
  | .mk _ n _ l, a => ∃ (p : Option Addr) (cap : Nat), a = .slice p l.length cap ∧ l.length ≤ cap ∧ cap ≤ maxLen ∧ Fit n ∧ Rus b w l p 0
def Rus (b : Nat) (w : World) : List U → Option Addr → Nat → Prop
  | [], _, _ => True
  | u :: l, p, i => (∃ (g o : Nat) (a : Value), p = some ⟨g, o, none⟩ ∧ g < b ∧ w.cell? ⟨g, o + i * 4, none⟩ = some (.int .i64 u.k) ∧ w.cell? ⟨g, o + i * 4 + 1, none⟩ = some (.int .i64 u.n) ∧
      w.cell? ⟨g, o + i * 4 + 2, none⟩ = some (.string (bs u.s)) ∧ w.cell? ⟨g, o + i * 4 + 3, none⟩ = some a ∧ Ru b w u a) ∧ Rus b w l p (i + 1)
end
/-- a part in its place -/
def El (b : Nat) (w : World) (p : Option Addr) (i : Nat) (u : U) : Prop :=
  ∃ (g o : Nat) (a : Value), p = some ⟨g, o, none⟩ ∧ g < b ∧ w.cell? ⟨g, o + i * 4, none⟩ = some (.int .i64 u.k) ∧ w.cell? ⟨g, o + i * 4 + 1, none⟩ = some (.int .i64 u.n) ∧
      w.cell? ⟨g, o + i * 4 + 2, none⟩ = some (.string (bs u.s)) ∧ w.cell? ⟨g, o + i * 4 + 3, none⟩ = some a ∧ Ru b w u a
section
variable {b b' : Nat} {w w' : World}
theorem Ru.opened {u : U} {a : Value} (h : Ru b w u a) : ∃ (p : Option Addr) (cap : Nat), a = .slice p u.l.length cap ∧ u.l.length ≤ cap ∧ cap ≤ maxLen ∧ Fit u.n ∧ Rus b w u.l p 0 := by
  cases u; rw [Ru] at h; exact h
theorem Ru.shut {u : U} {a : Value} (h : ∃ (p : Option Addr) (cap : Nat), a = .slice p u.l.length cap ∧ u.l.length ≤ cap ∧ cap ≤ maxLen ∧ Fit u.n ∧ Rus b w u.l p 0) : Ru b w u a := by
  cases u; rw [Ru]; exact h
theorem rus_iff {p : Option Addr} : ∀ (l : List U) (j : Nat), Rus b w l p j ↔ ∀ i, i < l.length → El b w p (j + i) (l.getD i dfU)
  | [], j => by rw [Rus]; exact ⟨fun _ i hi => absurd hi (Nat.not_lt_zero _), fun _ => trivial⟩
  | u :: l, j => by
    rw [Rus, rus_iff l (j + 1)]
    constructor
    · rintro ⟨h1, h2⟩ i hi
      cases i with
      | zero => exact h1
      | succ i => have := h2 i (by simpa using hi); rw [show j + (i + 1) = j + 1 + i by omega]; simpa using this
    · intro h
      refine ⟨h 0 (by simp), fun i hi => ?_⟩
      have := h (i + 1) (by simpa using hi)
      rw [show j + (i + 1) = j + 1 + i by omega] at this
      simpa using this
mutual
theorem Ru.stay (hb : Below b w w') : ∀ {u : U} {a : Value}, Ru b w u a → Ru b w' u a
  | .mk k n s l, a, h => by
    rw [Ru] at h ⊢
    obtain ⟨p, cap, h1, h2, h3, h4, h5⟩ := h
    exact ⟨p, cap, h1, h2, h3, h4, Rus.stay hb h5⟩
theorem Rus.stay (hb : Below b w w') : ∀ {l : List U} {p : Option Addr} {i : Nat}, Rus b w l p i → Rus b w' l p i
  | [], _, _, _ => by rw [Rus]; trivial
  | u :: l, p, i, h => by
    rw [Rus] at h ⊢
    obtain ⟨⟨g, o, a, h1, h2, h3, h4, h5, h6, h7⟩, h8⟩ := h
    have hc : ∀ j, w'.cell? ⟨g, j, none⟩ = w.cell? ⟨g, j, none⟩ := fun j => by
      unfold World.cell?; rw [hb.block g h2]
    exact ⟨⟨g, o, a, h1, h2, by rw [hc]; exact h3, by rw [hc]; exact h4, by rw [hc]; exact h5, by rw [hc]; exact h6, Ru.stay hb h7⟩, Rus.stay hb h8⟩
end
mutual
theorem Ru.up (hb : b ≤ b') : ∀ {u : U} {a : Value}, Ru b w u a → Ru b' w u a
  | .mk k n s l, a, h => by
    rw [Ru] at h ⊢
    obtain ⟨p, cap, h1, h2, h3, h4, h5⟩ := h
    exact ⟨p, cap, h1, h2, h3, h4, Rus.up hb h5⟩
theorem Rus.up (hb : b ≤ b') : ∀ {l : List U} {p : Option Addr} {i : Nat}, Rus b w l p i → Rus b' w l p i
  | [], _, _, _ => by rw [Rus]; trivial
  | u :: l, p, i, h => by
    rw [Rus] at h ⊢
    obtain ⟨⟨g, o, a, h1, h2, h3, h4, h5, h6, h7⟩, h8⟩ := h
    exact ⟨⟨g, o, a, h1, Nat.lt_of_lt_of_le h2 hb, h3, h4, h5, h6, Ru.up hb h7⟩, Rus.up hb h8⟩
end
end
/-- parts behind one another at p, in a call's view -/
structure Pu (b : Nat) (w : World) (l : List U) (p : Option Addr) (cap : Nat) : Prop where
  le : l.length ≤ cap
  max : cap ≤ maxLen
  el : ∀ i, i < l.length → El b w p i (l.getD i dfU)
section
variable {b b' : Nat} {w w' : World} {l : List U} {p : Option Addr} {cap : Nat}
theorem Ru.parts {u : U} {a : Value} (h : Ru b w u a) : ∃ (p : Option Addr) (cap : Nat), a = .slice p u.l.length cap ∧ Fit u.n ∧ Pu b w u.l p cap := by
  obtain ⟨p, cap, h1, h2, h3, h4, h5⟩ := h.opened
  exact ⟨p, cap, h1, h4, h2, h3, fun i hi => by have := (rus_iff u.l 0).1 h5 i hi; rwa [Nat.zero_add] at this⟩
theorem El.stay {i : Nat} {u : U} (h : El b w p i u) (hb : Below b w w') : El b w' p i u := by
  obtain ⟨g, o, a, h1, h2, h3, h4, h5, h6, h7⟩ := h
  have hc : ∀ j, w'.cell? ⟨g, j, none⟩ = w.cell? ⟨g, j, none⟩ := fun j => by unfold World.cell?; rw [hb.block g h2]
  exact ⟨g, o, a, h1, h2, by rw [hc]; exact h3, by rw [hc]; exact h4, by rw [hc]; exact h5, by rw [hc]; exact h6, h7.stay hb⟩
theorem Pu.stay (h : Pu b w l p cap) (hb : Below b w w') : Pu b w' l p cap := ⟨h.le, h.max, fun i hi => (h.el i hi).stay hb⟩
theorem El.up {i : Nat} {u : U} (h : El b w p i u) (hb : b ≤ b') : El b' w p i u := by
  obtain ⟨g, o, a, h1, h2, h3, h4, h5, h6, h7⟩ := h
  exact ⟨g, o, a, h1, Nat.lt_of_lt_of_le h2 hb, h3, h4, h5, h6, h7.up hb⟩
theorem Pu.up (h : Pu b w l p cap) (hb : b ≤ b') : Pu b' w l p cap := ⟨h.le, h.max, fun i hi => (h.el i hi).up hb⟩
theorem Pu.take (h : Pu b w l p cap) (n : Nat) : Pu b w (l.take n) p cap := by
  refine ⟨Nat.le_trans (List.length_take_le' _ _) h.le, h.max, fun i hi => ?_⟩
  rw [List.length_take] at hi
  have := h.el i (by omega)
  rw [List.getD_eq_getElem?_getD] at this ⊢
  rwa [List.getElem?_take_of_lt (by omega)]
end
/-- a term handed over -/
abbrev uV (u : U) (a : Value) : Value := .agg #[.int .i64 u.k, .int .i64 u.n, .string (bs u.s), a]

/-! ### measures -/
theorem part_size {u : U} {i : Nat} (hi : i < u.l.length) : SizeOf.sizeOf (u.l.getD i dfU) < SizeOf.sizeOf u := by
  cases u with
  | mk k n s l =>
    have hi' : i < l.length := hi
    show SizeOf.sizeOf (l.getD i dfU) < _
    have : l.getD i dfU ∈ l := by rw [show l.getD i dfU = l[i] by simp [hi']]; exact List.getElem_mem _
    have := List.sizeOf_lt_of_mem this
    simp only [U.mk.sizeOf_spec]; omega
theorem szUL_len : ∀ (l : List U), l.length ≤ szUL l
  | [] => Nat.le_refl _
  | u :: l => by
    have := szUL_len l
    cases u; simp only [szUL, szU, List.length_cons]; omega
theorem szU_pos (u : U) : 1 ≤ szU u := by cases u; rw [szU]; omega
theorem drop_cons {l : List U} {i : Nat} (hi : i < l.length) : l.drop i = l.getD i dfU :: l.drop (i + 1) := by
  rw [List.drop_eq_getElem_cons hi]; simp [hi]
theorem okUL_at : ∀ {l : List U}, okUL l → ∀ i, i < l.length → okU (l.getD i dfU)
  | [], _, i, hi => absurd hi (Nat.not_lt_zero _)
  | u :: l, h, i, hi => by
    rw [okUL] at h
    cases i with
    | zero => exact h.1
    | succ i => have := okUL_at h.2 i (by simpa using hi); simpa using this
theorem qnUL_at : ∀ {l : List U}, qnUL l → ∀ i, i < l.length → qnU (l.getD i dfU)
  | [], _, i, hi => absurd hi (Nat.not_lt_zero _)
  | u :: l, h, i, hi => by
    rw [qnUL] at h
    cases i with
    | zero => exact h.1
    | succ i => have := qnUL_at h.2 i (by simpa using hi); simpa using this
theorem qnU.sp {u : U} (h : qnU u) : Qn u.s ∧ qnUL u.l := by cases u; rw [qnU] at h; exact h
theorem erL_len : ∀ (l : List U), (erL l).length = l.length
  | [] => rfl
  | u :: l => by rw [erL, List.length_cons, List.length_cons, erL_len l]
theorem okU_iff (u : U) : okU u ↔ (u.k = 1 ∧ 0 ≤ u.n) ∨ u.k = 2 ∨ (u.k = 3 ∧ quoteS u.s ≠ []) ∨ (u.k = 4 ∧ quoteS u.s ≠ [] ∧ u.l ≠ [] ∧ okUL u.l) := by
  cases u; rw [okU]; exact Iff.rfl
theorem szU_eq (u : U) : szU u = 1 + (if u.k = 4 then szUL u.l else 0) := by cases u; rw [szU]; rfl
theorem er_eq (u : U) : er u = if u.k = 4 then .cmp u.s (erL u.l) else .leaf u.k.toNat u.n u.s := by cases u; rw [er]; rfl

end Go.Proofs.Ytjccohcigopdfaa.wr
end
section
/- The law's own functions: same (two terms that are one), top. -/
namespace Go.Proofs.Ytjccohcigopdfaa.ls
open Go.RowKit
open Go.Proofs.Ytjccohcigopdfaa.rd
open Go.Proofs.Ytjccohcigopdfaa.op (bs strC)
open Go.Proofs.Ytjccohcigopdfaa.lx (cell_at ieq_yes ieq_no)
set_option maxRecDepth 20000

/-- any block -/
def Any : Nat → Prop := fun _ => True
section
variable {D : Nat → Prop} {w w' : World} {s : List UInt8} {l : List T} {a : Value}
theorem any {t : T} (h : Rp D w t a) : Rp Any w t a := h.imp fun _ _ _ => trivial
theorem shapeL (h : Rp D w (.cmp s l) a) : ∃ p c, a = .slice p l.length c := by
  rw [Rp] at h
  obtain ⟨az, h1, _⟩ := h
  rcases h1.2 with ⟨e1, e2⟩ | ⟨g, cap, cur, e1, _⟩
  · exact ⟨none, 0, by rw [e1, e2]⟩
  · exact ⟨_, _, e1⟩
theorem lenL (h : Rp D w (.cmp s l) a) : l.length ≤ maxLen := by
  rw [Rp] at h
  obtain ⟨az, h1, _⟩ := h
  rcases h1.2 with ⟨e1, e2⟩ | ⟨g, cap, cur, e1, _, _, e4, e5, _⟩
  · rw [e2]; exact Nat.zero_le _
  · omega
theorem elem {i : Nat} (h : Rp D w (.cmp s l) a) (hi : i < l.length) : ∃ g cap p m c, a = .slice (some ⟨g, 0, none⟩) l.length cap ∧ l.length ≤ cap ∧ g < w.heap.size ∧
    Rp D w (l.getD i dfT) (.slice p m c) ∧ w.cell? ⟨g, i * 4, none⟩ = some (.int .i64 ((l.getD i dfT).k : Nat)) ∧ w.cell? ⟨g, i * 4 + 1, none⟩ = some (.int .i64 (l.getD i dfT).n) ∧
    w.cell? ⟨g, i * 4 + 2, none⟩ = some (.string (bs (l.getD i dfT).s)) ∧ w.cell? ⟨g, i * 4 + 3, none⟩ = some (.slice p m c) := by
  rw [Rp] at h
  obtain ⟨az, h1, h2, h3⟩ := h
  have hl := h3.len
  rcases h1.2 with ⟨_, e2⟩ | ⟨g, cap, cur, e1, _, e3, e4, _⟩
  · omega
  have hc := World.ownsRow.cells h1 (g := g) (by rw [e1]; rfl)
  have key : ∀ m u, m < 4 → (tv l[i] (az[i]'(by omega)))[m]? = some u → w.cell? ⟨g, i * 4 + m, none⟩ = some u := fun m u hm hu => by
    have h4 := tvs_get (l.zip az) i m (by simp; omega) hm
    rw [List.getElem_zip] at h4
    have := hc (i * 4 + m) u (by rw [h4]; exact hu)
    rwa [op.addr_add] at this
  have ee : l.getD i dfT = l[i] := by simp [hi]
  have hR := h3.get i hi (by omega)
  obtain ⟨p, m, c, he⟩ := hR.shape
  rw [ee]
  refine ⟨g, cap, p, m, c, e1, e4, lt_of e3, by rw [← he]; exact hR, key 0 _ (by omega) rfl, key 1 _ (by omega) rfl, key 2 _ (by omega) rfl, ?_⟩
  rw [← he]; exact key 3 _ (by omega) rfl
theorem elem_size {i : Nat} (hi : i < l.length) : SizeOf.sizeOf (l.getD i dfT) < SizeOf.sizeOf (T.cmp s l) := by
  have e : l.getD i dfT = l[i] := by simp [hi]
  rw [e]
  have := List.sizeOf_lt_of_mem (List.getElem_mem hi)
  simp only [T.cmp.sizeOf_spec]
  omega
end
theorem boxes (w : World) (o1 o2 : Obj) : ((w.alloc o1).alloc o2).heap[w.heap.size]? = some o1 ∧ ((w.alloc o1).alloc o2).heap[w.heap.size + 1]? = some o2 ∧ ((w.alloc o1).alloc o2).heap.size = w.heap.size + 1 + 1 ∧ Below w.heap.size w ((w.alloc o1).alloc o2) := by
  refine ⟨(Lib.alloc_old _ o2 _ (by simp)).trans (heap_alloc_new w o1), ?_, by simp, ((Below.refl _ w).alloc (Nat.le_refl _) o1).alloc (by simp) o2⟩
  have := heap_alloc_new (w.alloc o1) o2
  rwa [size_alloc] at this
abbrev tV (t : T) (a : Value) : Value := .agg #[.int .i64 (t.k : Nat), .int .i64 t.n, .string (bs t.s), a]
/-- a term's parts -/
def parts : T → List T
  | .leaf _ _ _ => []
  | .cmp _ l => l
/-- the slice a holds the parts -/
structure Pt (w : World) (l : List T) (a : Value) : Prop where
  shape : ∃ p c, a = .slice p l.length c
  len : l.length ≤ maxLen
  el : ∀ i, i < l.length → ∃ g cap p m c, a = .slice (some ⟨g, 0, none⟩) l.length cap ∧ l.length ≤ cap ∧ g < w.heap.size ∧
    Rp Any w (l.getD i dfT) (.slice p m c) ∧ w.cell? ⟨g, i * 4, none⟩ = some (.int .i64 ((l.getD i dfT).k : Nat)) ∧ w.cell? ⟨g, i * 4 + 1, none⟩ = some (.int .i64 (l.getD i dfT).n) ∧
    w.cell? ⟨g, i * 4 + 2, none⟩ = some (.string (bs (l.getD i dfT).s)) ∧ w.cell? ⟨g, i * 4 + 3, none⟩ = some (.slice p m c)
theorem pt {w : World} {t : T} {a : Value} (h : Rp Any w t a) : Pt w (parts t) a := by
  cases t with
  | leaf k n s => rw [Rp] at h; exact ⟨⟨none, 0, h⟩, Nat.zero_le _, fun i hi => absurd hi (Nat.not_lt_zero _)⟩
  | cmp s l => exact ⟨shapeL h, lenL h, fun i hi => elem h hi⟩
theorem parts_size {t : T} {i : Nat} (hi : i < (parts t).length) : SizeOf.sizeOf ((parts t).getD i dfT) < SizeOf.sizeOf t := by
  cases t with
  | leaf k n s => exact absurd hi (Nat.not_lt_zero _)
  | cmp s l => exact elem_size hi
mutual
/-- one more than the greatest number of a variable, below 0: one is too great -/
def topT : T → Int → Int
  | .leaf k N _, n => if n < 0 then n else if k = 1 then (if N < 0 ∨ N > n then -1 else max n (IntKind.i64.wrap (N + 1))) else n
  | .cmp _ l, n => if n < 0 then n else topL l n
def topL : List T → Int → Int
  | [], n => n
  | t :: l, n => topL l (topT t n)
end
theorem topT_eq (t : T) (n : Int) : topT t n = if n < 0 then n else if t.k = 1 then (if t.n < 0 ∨ t.n > n then -1 else max n (IntKind.i64.wrap (t.n + 1))) else topL (parts t) n := by
  cases t with
  | leaf k N s =>
    rw [topT]
    show (if n < 0 then n else if k = 1 then (if N < 0 ∨ N > n then -1 else max n (IntKind.i64.wrap (N + 1))) else n) = (if n < 0 then n else if k = 1 then (if N < 0 ∨ N > n then -1 else max n (IntKind.i64.wrap (N + 1))) else topL [] n)
    rw [topL]
  | cmp s l => rw [topT]; rfl
theorem topL_drop {l : List T} {i : Nat} (hi : i < l.length) (n : Int) : topL (l.drop i) n = topL (l.drop (i + 1)) (topT (l.getD i dfT) n) := by
  rw [List.drop_eq_getElem_cons hi, topL]; simp [hi]
end Go.Proofs.Ytjccohcigopdfaa.ls
end
section
/- A term in memory, looked at as what stands as a term. -/
namespace Go.Proofs.Ytjccohcigopdfaa.wr
open Go.RowKit
open Go.Proofs.Ytjccohcigopdfaa.rd
open Go.Proofs.Ytjccohcigopdfaa.ls
open Go.Proofs.Ytjccohcigopdfaa.op (bs strC)
open Go.Proofs.Ytjccohcigopdfaa.lx (quoteS)
open Go.Proofs.Ytjccohcigopdfaa.nm (Fit)
set_option maxRecDepth 20000

/-! ### a term in memory is such a thing -/
mutual
def emb : T → U
  | .leaf k n s => .mk (k : Nat) n s []
  | .cmp s l => .mk 4 0 s (embL l)
def embL : List T → List U
  | [] => []
  | t :: l => emb t :: embL l
end
mutual
/-- its numbers are in 64 bits -/
def fxT : T → Prop
  | .leaf _ n _ => Fit n
  | .cmp _ l => fxL l
def fxL : List T → Prop
  | [] => True
  | t :: l => fxT t ∧ fxL l
end
theorem embL_len : ∀ (l : List T), (embL l).length = l.length
  | [] => rfl
  | t :: l => by rw [embL, List.length_cons, List.length_cons, embL_len l]
theorem emb_k (t : T) : (emb t).k = (t.k : Nat) := by cases t <;> rw [emb] <;> rfl
theorem emb_n (t : T) : (emb t).n = t.n := by cases t <;> rw [emb] <;> rfl
theorem emb_s (t : T) : (emb t).s = t.s := by cases t <;> rw [emb] <;> rfl
mutual
theorem er_emb : ∀ (t : T), okU (emb t) → er (emb t) = t
  | .leaf k n s, h => by
    rw [emb] at h ⊢
    rw [okU] at h
    rw [er]
    rcases h with ⟨h, _⟩ | h | ⟨h, _⟩ | ⟨_, _, h, _⟩
    · rw [if_neg (by omega)]; simp
    · rw [if_neg (by omega)]; simp
    · rw [if_neg (by omega)]; simp
    · exact absurd rfl h
  | .cmp s l, h => by
    rw [emb] at h ⊢
    rw [okU] at h
    rw [er, if_pos rfl]
    rcases h with ⟨h, _⟩ | h | ⟨h, _⟩ | ⟨_, _, _, h⟩
    · omega
    · omega
    · omega
    · rw [er_embL l h]
theorem er_embL : ∀ (l : List T), okUL (embL l) → erL (embL l) = l
  | [], _ => by rw [embL, erL]
  | t :: l, h => by
    rw [embL] at h ⊢
    rw [okUL] at h
    rw [erL, er_emb t h.1, er_embL l h.2]
end
theorem fit0 : Fit 0 := by unfold Fit; omega
mutual
theorem ru_emb {D : Nat → Prop} {w : World} : ∀ {t : T} {a : Value}, Rp D w t a → fxT t → Ru w.heap.size w (emb t) a
  | .leaf k n s, a, h, hf => by
    rw [Rp] at h
    rw [fxT] at hf
    rw [emb, Ru]
    exact ⟨none, 0, h, Nat.le_refl _, Nat.zero_le _, hf, by rw [Rus]; trivial⟩
  | .cmp s l, a, h, hf => by
    rw [fxT] at hf
    rw [emb, Ru]
    have hN := lenL h
    obtain ⟨p, c, rfl⟩ := shapeL h
    rw [Rp] at h
    obtain ⟨az, h1, h2, h3⟩ := h
    rcases h1.2 with ⟨e1, e2⟩ | ⟨g, cap, cur, e1, e2, e3, e4, e5, e6⟩
    · injection e1 with x1 x2 x3
      have : l = [] := List.length_eq_zero_iff.1 x2
      subst this
      exact ⟨p, c, rfl, Nat.zero_le _, by rw [x3]; exact Nat.zero_le _, fit0, by rw [embL, Rus]; trivial⟩
    · injection e1 with x1 x2 x3
      subst x1 x3
      refine ⟨_, c, by rw [embL_len], by rw [embL_len]; exact e4, e5, fit0, ?_⟩
      have hc := World.ownsRow.cells h1 (g := g) rfl
      refine rus_emb h3 hf g (lt_of e3) 0 fun i j u hj hu => ?_
      have := hc (i * 4 + j) u hu
      rw [op.addr_add] at this
      rw [Nat.zero_add]; exact this
theorem rus_emb {D : Nat → Prop} {w : World} : ∀ {l : List T} {az : List Value}, Rps D w l az → fxL l → ∀ (g : Nat), g < w.heap.size → ∀ m, (∀ i j u, j < 4 → (tvs (l.zip az))[i * 4 + j]? = some u → w.cell? ⟨g, (m + i) * 4 + j, none⟩ = some u) → Rus w.heap.size w (embL l) (some ⟨g, 0, none⟩) m
  | [], az, _, _, _, _, _, _ => by rw [embL, Rus]; trivial
  | t :: l, az, h, hf, g, hg, m, hc => by
    rw [Rps] at h
    obtain ⟨a, az', rfl, h1, h2⟩ := h
    rw [fxL] at hf
    rw [embL, Rus, emb_k, emb_n, emb_s]
    have c : ∀ j u, j < 4 → (tv t a)[j]? = some u → w.cell? ⟨g, m * 4 + j, none⟩ = some u := fun j u hj hu => by
      have := hc 0 j u hj (by rw [tvs_get _ 0 j (by simp) hj]; simpa using hu)
      rwa [Nat.add_zero] at this
    refine ⟨⟨g, 0, a, rfl, hg, ?_, ?_, ?_, ?_, ru_emb h1 hf.1⟩, rus_emb h2 hf.2 g hg (m + 1) fun i j u hj hu => ?_⟩
    · rw [Nat.zero_add]; exact c 0 _ (by omega) rfl
    · rw [Nat.zero_add]; exact c 1 _ (by omega) rfl
    · rw [Nat.zero_add]; exact c 2 _ (by omega) rfl
    · rw [Nat.zero_add]; exact c 3 _ (by omega) rfl
    · have := hc (i + 1) j u hj (by
        rw [List.zip_cons_cons, tvs, List.flatMap_cons, List.getElem?_append_right (by simp [tv]; omega), show (i + 1) * 4 + j - (tv (t, a).1 (t, a).2).length = i * 4 + j from by simp [tv]; omega]
        exact hu)
      rw [show m + 1 + i = m + (i + 1) by omega]; exact this
end
end Go.Proofs.Ytjccohcigopdfaa.wr
end
section
/- Terms read of two rows of tokens that are alike as far as they are read. -/
namespace Go.Proofs.Ytjccohcigopdfaa.rd
open Go.Proofs.Ytjccohcigopdfaa.op (progI progP)

/-- a token that begins and goes on with nothing -/
def dull (k : K) : Prop := k.kind = 6 ∨ (k.kind = 5 ∧ k.text = [41])
/-- two places from which the same is read -/
structure Sim (R : St → St → Prop) : Prop where
  nm : ∀ {s s'}, R s s' → s.2 = s'.2
  put : ∀ {s s'}, R s s' → (nx s.1).kind = 2 → R (s.1.tail, s.2) (s'.1.tail, s'.2) → R (s.1.tail, s.2 ++ [(nx s.1).text]) (s'.1.tail, s'.2 ++ [(nx s.1).text])
  hd : ∀ {s s'}, R s s' → (nx s.1 = nx s'.1 ∧ R (s.1.tail, s.2) (s'.1.tail, s'.2)) ∨ ((nx s.1).kind = 6 ∧ dull (nx s'.1))
section
variable {R : St → St → Prop} {w w' : W} {s s' : St}
def Ok3 {α : Type} (R : St → St → Prop) (x x' : Res α) (s s' : St) : Prop := ∀ v s1, x = .ok (v, s1) → ∃ s1', x' = .ok (v, s1') ∧ R s1 s1' ∧ s1.1.length ≤ s.1.length ∧ s1'.1.length ≤ s'.1.length
def Sm (R : St → St → Prop) (w w' : W) : Prop := ∀ most s s', R s s' → Ok3 R (w most s) (w' most s') s s'
theorem isM_end {k : K} (h : k.kind = 6) (m : List UInt8) : isM k m = false := by unfold isM; rw [h]; rfl
theorem isM_dull {k : K} (h : dull k) {m : List UInt8} (hm : m ≠ [41]) : isM k m = false := by
  rcases h with h | ⟨h1, h2⟩
  · exact isM_end h m
  · unfold isM; rw [h1, h2]; simp; exact fun e => hm e.symm
theorem infix_dull {k : K} (h : dull k) : infixK k = (0, 0, 0, false) := by
  unfold infixK
  rw [if_neg]
  rintro (h1 | h1)
  · rcases h with h | ⟨h, _⟩ <;> rw [h] at h1 <;> exact absurd h1 (by decide)
  · rw [isM_dull h (by decide)] at h1; exact absurd h1 (by decide)
theorem mayB_dull {k : K} (h : dull k) : mayB k = false := by
  unfold mayB
  rcases h with h | ⟨h1, h2⟩
  · rw [h]; rfl
  · rw [h1, h2]; rfl
theorem infix_nil : infixK (nx []) = (0, 0, 0, false) := rfl
theorem Ok3.mk' {α : Type} {x x' : Res α} {t t' : St} (h : Ok3 R x x' t t') (h1 : t.1.length ≤ s.1.length) (h2 : t'.1.length ≤ s'.1.length) : Ok3 R x x' s s' := fun v s1 hx => by
  obtain ⟨s1', a, b, c, d⟩ := h v s1 hx
  exact ⟨s1', a, b, by omega, by omega⟩
theorem expect_sim (hS : Sim R) (h : R s s') (m : List UInt8) {s1 : St} (hx : expectP m s = .ok s1) : ∃ s1', expectP m s' = .ok s1' ∧ R s1 s1' ∧ s1.1.length ≤ s.1.length ∧ s1'.1.length ≤ s'.1.length := by
  unfold expectP at hx ⊢
  split at hx
  · rename_i hm
    cases hx
    rcases hS.hd h with ⟨h1, h2⟩ | ⟨h1, _⟩
    · rw [← h1, if_pos hm]; exact ⟨_, rfl, h2, by simp, by simp⟩
    · rw [isM_end h1] at hm; exact absurd hm (by decide)
  · cases hx
theorem loop_sim (hS : Sim R) (hW : Sm R w w') (most : Int) : ∀ (f f' : Nat) (t : T) (q : Int) (s s' : St), R s s' → s.1.length ≤ f → s'.1.length ≤ f' → Ok3 R (loopP w most f t q s) (loopP w' most f' t q s') s s' := by
  intro f
  induction f with
  | zero =>
    intro f' t q s s' h hf hf' v s1 hx
    have hs : s.1 = [] := List.length_eq_zero_iff.1 (by omega)
    rw [loopP] at hx; cases hx
    refine ⟨s', ?_, h, Nat.le_refl _, Nat.le_refl _⟩
    have hk : infixK (nx s'.1) = (0, 0, 0, false) := by
      rcases hS.hd h with ⟨h1, _⟩ | ⟨_, h2⟩
      · rw [← h1, hs]; exact infix_nil
      · exact infix_dull h2
    cases f' with
    | zero => rfl
    | succ f' => rw [loopP]; simp only [hk, true_or, if_true]
  | succ f ih =>
    intro f' t q s s' h hf hf' v s1 hx
    rw [loopP] at hx
    split at hx
    · rename_i hst
      cases hx
      refine ⟨s', ?_, h, Nat.le_refl _, Nat.le_refl _⟩
      cases f' with
      | zero => rfl
      | succ f' =>
        rw [loopP]
        (try dsimp only)
        rw [if_pos]
        rcases hS.hd h with ⟨h1, _⟩ | ⟨_, h2⟩
        · rw [← h1]; exact hst
        · rw [infix_dull h2]; exact .inl rfl
    · rename_i hst
      rcases hS.hd h with ⟨h1, h2⟩ | ⟨h1, _⟩
      · cases hw : w (infixK (nx s.1)).2.2.1 (s.1.tail, s.2) with
        | error k => rw [hw] at hx; cases hx
        | ok us =>
          obtain ⟨u, s2⟩ := us
          rw [hw] at hx
          dsimp only at hx
          obtain ⟨s2', a, b, c, d⟩ := hW _ _ _ h2 u s2 hw
          have hne : s'.1 ≠ [] := fun e => by rw [h1, e, infix_nil] at hst; exact hst (.inl rfl)
          have hne2 : s.1 ≠ [] := fun e => by rw [e, infix_nil] at hst; exact hst (.inl rfl)
          have l1 : s.1.tail.length + 1 = s.1.length := by cases hc : s.1 with | nil => exact absurd hc hne2 | cons => simp
          have l2 : s'.1.tail.length + 1 = s'.1.length := by cases hc : s'.1 with | nil => exact absurd hc hne | cons => simp
          obtain ⟨f', rfl⟩ : ∃ g, f' = g + 1 := ⟨f' - 1, by omega⟩
          dsimp only at c d
          obtain ⟨s3', a3, b3, c3, d3⟩ := ih f' _ _ s2 s2' b (by omega) (by omega) v s1 hx
          refine ⟨s3', ?_, b3, by omega, by omega⟩
          rw [loopP]
          (try dsimp only)
          rw [← h1, if_neg hst, a]
          exact a3
      · rw [infix_dull (.inl h1)] at hst; exact absurd (.inl rfl) hst
theorem rowGo_sim (hS : Sim R) (hW : Sm R w w') : ∀ (f f' : Nat) (l : List T) (s s' : St), R s s' → s.1.length ≤ f → s'.1.length ≤ f' → Ok3 R (rowGo w f l s) (rowGo w' f' l s') s s' := by
  intro f
  induction f with
  | zero =>
    intro f' l s s' h hf hf' v s1 hx
    have hs : s.1 = [] := List.length_eq_zero_iff.1 (by omega)
    rw [rowGo] at hx; cases hx
    refine ⟨s', ?_, h, Nat.le_refl _, Nat.le_refl _⟩
    have hk : isM (nx s'.1) [44] = false := by
      rcases hS.hd h with ⟨h1, _⟩ | ⟨_, h2⟩
      · rw [← h1, hs]; rfl
      · exact isM_dull h2 (by decide)
    cases f' with
    | zero => rfl
    | succ f' => rw [rowGo, hk]; rfl
  | succ f ih =>
    intro f' l s s' h hf hf' v s1 hx
    rw [rowGo] at hx
    split at hx
    · rename_i hst
      rcases hS.hd h with ⟨h1, h2⟩ | ⟨h1, _⟩
      · cases hw : w 999 (s.1.tail, s.2) with
        | error k => rw [hw] at hx; cases hx
        | ok us =>
          obtain ⟨u, s2⟩ := us
          rw [hw] at hx
          dsimp only at hx
          obtain ⟨s2', a, b, c, d⟩ := hW _ _ _ h2 u s2 hw
          have hne : s'.1 ≠ [] := fun e => by rw [h1, e] at hst; exact absurd hst (by decide)
          have hne2 : s.1 ≠ [] := fun e => by rw [e] at hst; exact absurd hst (by decide)
          have l1 : s.1.tail.length + 1 = s.1.length := by cases hc : s.1 with | nil => exact absurd hc hne2 | cons => simp
          have l2 : s'.1.tail.length + 1 = s'.1.length := by cases hc : s'.1 with | nil => exact absurd hc hne | cons => simp
          obtain ⟨f', rfl⟩ : ∃ g, f' = g + 1 := ⟨f' - 1, by omega⟩
          dsimp only at c d
          obtain ⟨s3', a3, b3, c3, d3⟩ := ih f' _ s2 s2' b (by omega) (by omega) v s1 hx
          refine ⟨s3', ?_, b3, by omega, by omega⟩
          rw [rowGo, ← h1, if_pos hst, a]
          exact a3
      · rw [isM_end h1] at hst; exact absurd hst (by decide)
    · rename_i hst
      cases hx
      refine ⟨s', ?_, h, Nat.le_refl _, Nat.le_refl _⟩
      have hk : isM (nx s'.1) [44] = false := by
        rcases hS.hd h with ⟨h1, _⟩ | ⟨_, h2⟩
        · rw [← h1]; simpa using hst
        · exact isM_dull h2 (by decide)
      cases f' with
      | zero => rfl
      | succ f' => rw [rowGo, hk]; rfl
theorem row_sim (hS : Sim R) (hW : Sm R w w') (h : R s s') : Ok3 R (rowP w s) (rowP w' s') s s' := by
  intro v s1 hx
  unfold rowP at hx ⊢
  cases hw : w 999 s with
  | error k => rw [hw] at hx; cases hx
  | ok us =>
    obtain ⟨u, s2⟩ := us
    rw [hw] at hx
    obtain ⟨s2', a, b, c, d⟩ := hW _ _ _ h u s2 hw
    rw [a]
    obtain ⟨s3', a3, b3, c3, d3⟩ := rowGo_sim hS hW _ s2'.1.length _ s2 s2' b (Nat.le_refl _) (Nat.le_refl _) v s1 hx
    exact ⟨s3', a3, b3, by omega, by omega⟩
theorem bracket_sim (hS : Sim R) (hW : Sm R w w') (m : List UInt8) (h : R s s') : Ok3 R (bracketP w m s) (bracketP w' m s') s s' := by
  intro v s1 hx
  unfold bracketP at hx ⊢
  cases hw : w 1200 s with
  | error k => rw [hw] at hx; cases hx
  | ok us =>
    obtain ⟨u, s2⟩ := us
    rw [hw] at hx
    dsimp only at hx
    obtain ⟨s2', a, b, c, d⟩ := hW _ _ _ h u s2 hw
    rw [a]
    dsimp only
    cases he : expectP m s2 with
    | error k => rw [he] at hx; cases hx
    | ok s3 =>
      rw [he] at hx
      cases hx
      obtain ⟨s3', a3, b3, c3, d3⟩ := expect_sim hS b m he
      rw [a3]
      exact ⟨s3', rfl, b3, by omega, by omega⟩
theorem list_sim (hS : Sim R) (hW : Sm R w w') (h : R s s') : Ok3 R (listP w s) (listP w' s') s s' := by
  intro v s1 hx
  unfold listP at hx ⊢
  split at hx
  · rename_i hm
    cases hx
    rcases hS.hd h with ⟨h1, h2⟩ | ⟨h1, _⟩
    · rw [← h1, if_pos hm]; exact ⟨_, rfl, h2, by simp, by simp⟩
    · rw [isM_end h1] at hm; exact absurd hm (by decide)
  · rename_i hm
    have hm' : ¬ isM (nx s'.1) [93] = true := by
      rcases hS.hd h with ⟨h1, _⟩ | ⟨_, h2⟩
      · rw [← h1]; exact hm
      · rw [isM_dull h2 (by decide)]; decide
    rw [if_neg hm']
    cases hr : rowP w s with
    | error k => rw [hr] at hx; cases hx
    | ok ls =>
      obtain ⟨l, s2⟩ := ls
      rw [hr] at hx
      dsimp only at hx
      obtain ⟨s2', a, b, c, d⟩ := row_sim hS hW h l s2 hr
      rw [a]
      dsimp only
      have hq : Ok3 R (if isM (nx s2.1) [124] = true then w 999 (s2.1.tail, s2.2) else .ok (nilT, s2)) (if isM (nx s2'.1) [124] = true then w' 999 (s2'.1.tail, s2'.2) else .ok (nilT, s2')) s2 s2' := by
        rcases hS.hd b with ⟨h1, h2⟩ | ⟨h1, h2⟩
        · rw [← h1]
          split
          · exact (hW 999 _ _ h2).mk' (by simp) (by simp)
          · intro v s3 he; cases he; exact ⟨s2', rfl, b, Nat.le_refl _, Nat.le_refl _⟩
        · rw [isM_end h1, isM_dull h2 (by decide)]
          intro v s3 he; cases he; exact ⟨s2', rfl, b, Nat.le_refl _, Nat.le_refl _⟩
      cases hr2 : (if isM (nx s2.1) [124] = true then w 999 (s2.1.tail, s2.2) else .ok (nilT, s2) : Res T) with
      | error k => rw [hr2] at hx; cases hx
      | ok rs =>
        obtain ⟨r, s3⟩ := rs
        rw [hr2] at hx
        dsimp only at hx
        obtain ⟨s3', a3, b3, c3, d3⟩ := hq r s3 hr2
        rw [a3]
        dsimp only
        cases he : expectP [93] s3 with
        | error k => rw [he] at hx; cases hx
        | ok s4 =>
          rw [he] at hx
          cases hx
          obtain ⟨s4', a4, b4, c4, d4⟩ := expect_sim hS b3 [93] he
          rw [a4]
          exact ⟨s4', rfl, b4, by omega, by omega⟩
theorem tail_len (l : List K) : l.tail.length ≤ l.length := by simp
theorem marked_sim (hS : Sim R) (hW : Sm R w w') (h : R s s') : Ok3 R (markedP w s) (markedP w' s') s s' := by
  rcases hS.hd h with ⟨h1, h2⟩ | ⟨h1, _⟩
  · unfold markedP
    rw [← h1]
    split
    · exact (bracket_sim hS hW [41] h2).mk' (tail_len _) (tail_len _)
    split
    · exact (list_sim hS hW h2).mk' (tail_len _) (tail_len _)
    split
    · intro v s1 hx
      split at hx
      · rename_i hm
        cases hx
        rcases hS.hd h2 with ⟨h3, h4⟩ | ⟨h3, _⟩
        · dsimp only at h3 h4
          rw [← h3, if_pos hm]; exact ⟨_, rfl, h4, Nat.le_trans (tail_len _) (tail_len _), Nat.le_trans (tail_len _) (tail_len _)⟩
        · rw [isM_end h3] at hm; exact absurd hm (by decide)
      · rename_i hm
        have hm' : ¬ isM (nx s'.1.tail) [125] = true := by
          rcases hS.hd h2 with ⟨h3, _⟩ | ⟨_, h3⟩
          · dsimp only at h3; rw [← h3]; exact hm
          · rw [isM_dull h3 (by decide)]; decide
        rw [if_neg hm']
        cases hb : bracketP w [125] (s.1.tail, s.2) with
        | error k => rw [hb] at hx; cases hx
        | ok us =>
          obtain ⟨u, s2⟩ := us
          rw [hb] at hx
          obtain ⟨s2', a, b, c, d⟩ := bracket_sim hS hW [125] h2 u s2 hb
          cases hx
          rw [a]
          exact ⟨s2', rfl, b, Nat.le_trans c (tail_len _), Nat.le_trans d (tail_len _)⟩
    · intro v s1 hx; cases hx
  · intro v s1 hx
    unfold markedP at hx
    rw [isM_end h1, isM_end h1, isM_end h1] at hx
    cases hx
theorem zero_sim {x x' : Res T} (h : Ok3 R x x' s s') : Ok3 R (zeroP x) (zeroP x') s s' := by
  intro v s1 hx
  unfold zeroP at hx
  cases x with
  | error k => cases hx
  | ok us =>
    obtain ⟨u, s2⟩ := us
    cases hx
    obtain ⟨s2', a, b, c, d⟩ := h u s1 rfl
    exact ⟨s2', by rw [a]; rfl, b, c, d⟩
theorem int_sim (_hS : Sim R) (g : List UInt8) (_h : R s s') (h1 : nx s.1 = nx s'.1) (h2 : R (s.1.tail, s.2) (s'.1.tail, s'.2)) : Ok3 R (intP g s) (intP g s') s s' := by
  intro v s1 hx
  unfold intP at hx ⊢
  rw [← h1]
  dsimp only at hx ⊢
  split at hx
  · rename_i hd; cases hx; rw [if_pos hd]; exact ⟨_, rfl, h2, tail_len _, tail_len _⟩
  · rename_i hd
    rw [if_neg hd]
    split at hx
    · rename_i he; cases hx; rw [if_pos he]; exact ⟨_, rfl, h2, tail_len _, tail_len _⟩
    · cases hx
theorem named_sim (hS : Sim R) (hW : Sm R w w') (most : Int) (h1 : nx s.1 = nx s'.1) (h2 : R (s.1.tail, s.2) (s'.1.tail, s'.2)) : Ok3 R (namedP w most s) (namedP w' most s') s s' := by
  have t1 := tail_len s.1
  have t2 := tail_len s'.1
  have t3 := tail_len s.1.tail
  have t4 := tail_len s'.1.tail
  unfold namedP
  rw [← h1]
  dsimp only
  rcases hS.hd h2 with ⟨h3, h4⟩ | ⟨h3, h4⟩
  · dsimp only at h3 h4
    rw [← h3]
    split
    · intro v s1 hx
      cases hr : rowP w (s.1.tail.tail, s.2) with
      | error k => rw [hr] at hx; cases hx
      | ok ls =>
        obtain ⟨l, s2⟩ := ls
        rw [hr] at hx
        dsimp only at hx
        obtain ⟨s2', a, b, c, d⟩ := row_sim hS hW h4 l s2 hr
        rw [a]
        dsimp only at c d ⊢
        cases he : expectP [41] s2 with
        | error k => rw [he] at hx; cases hx
        | ok s3 =>
          rw [he] at hx
          cases hx
          obtain ⟨s3', a3, b3, c3, d3⟩ := expect_sim hS b [41] he
          rw [a3]
          exact ⟨s3', rfl, b3, by omega, by omega⟩
    split
    · exact (zero_sim (int_sim hS [45] h2 h3 h4)).mk' t1 t2
    split
    · intro v s1 hx
      cases hr : w (progP (nx s.1).text).2.1 (s.1.tail, s.2) with
      | error k => rw [hr] at hx; cases hx
      | ok ls =>
        obtain ⟨l, s2⟩ := ls
        rw [hr] at hx
        obtain ⟨s2', a, b, c, d⟩ := hW _ _ _ h2 l s2 hr
        cases hx
        rw [a]
        dsimp only at c d
        exact ⟨s2', rfl, b, by omega, by omega⟩
    · intro v s1 hx; cases hx; exact ⟨_, rfl, h2, t1, t2⟩
  · dsimp only at h3 h4
    have n4 : ¬ (nx s.1.tail).kind = 4 := by omega
    have n3 : ¬ (nx s.1.tail).kind = 3 := by omega
    have n4' : ¬ (nx s'.1.tail).kind = 4 := by rcases h4 with h | ⟨h, _⟩ <;> omega
    have n3' : ¬ (nx s'.1.tail).kind = 3 := by rcases h4 with h | ⟨h, _⟩ <;> omega
    rw [if_neg n4, if_neg n4', mayB_dull h4, mayB_dull (.inl h3)]
    simp only [n3, n3', false_and, and_false, if_false, Bool.false_eq_true]
    intro v s1 hx; cases hx; exact ⟨_, rfl, h2, t1, t2⟩
theorem var_sim (hS : Sim R) (h : R s s') (hk : (nx s.1).kind = 2) (h1 : nx s.1 = nx s'.1) (h2 : R (s.1.tail, s.2) (s'.1.tail, s'.2)) : (varP s).1 = (varP s').1 ∧ R (varP s).2 (varP s').2 ∧ (varP s).2.1.length ≤ s.1.length ∧ (varP s').2.1.length ≤ s'.1.length := by
  unfold varP
  rw [← h1, ← hS.nm h]
  dsimp only
  split
  · have h3 := hS.put h hk h2
    rw [← hS.nm h] at h3
    exact ⟨rfl, h3, tail_len _, tail_len _⟩
  · rw [← hS.nm h] at h2
    exact ⟨rfl, h2, tail_len _, tail_len _⟩
theorem operand_sim (hS : Sim R) (hW : Sm R w w') (most : Int) (h : R s s') : Ok3 R (operandP w most s) (operandP w' most s') s s' := by
  rcases hS.hd h with ⟨h1, h2⟩ | ⟨h1, h2⟩
  · unfold operandP
    rw [← h1]
    dsimp only
    split
    · exact named_sim hS hW most h1 h2
    split
    · rename_i hk
      intro v s1 hx
      cases hx
      obtain ⟨a, b, c, d⟩ := var_sim hS h hk h1 h2
      exact ⟨_, by rw [a], b, c, d⟩
    split
    · exact zero_sim (int_sim hS [] h h1 h2)
    split
    · exact (zero_sim (bracket_sim hS hW [41] h2)).mk' (tail_len _) (tail_len _)
    · exact zero_sim (marked_sim hS hW h)
  · intro v s1 hx
    unfold operandP at hx
    dsimp only at hx
    rw [if_neg (by omega), if_neg (by omega), if_neg (by omega), if_neg (by omega)] at hx
    unfold markedP at hx
    rw [isM_end h1, isM_end h1, isM_end h1] at hx
    cases hx
/-- what is read of one is read of the other, as deep or deeper -/
theorem term_sim (hS : Sim R) : ∀ d d', d ≤ d' → Sm R (termP d) (termP d') := by
  intro d
  induction d with
  | zero => intro d' _ most s s' h v s1 hx; cases hx
  | succ d ih =>
    intro d' hd most s s' h v s1 hx
    obtain ⟨d', rfl⟩ : ∃ g, d' = g + 1 := ⟨d' - 1, by omega⟩
    have hW := ih d' (by omega)
    have e1 : ∀ d most s, termP (d + 1) most s = match operandP (termP d) most s with | .error e => .error e | .ok ((t, prio), s') => loopP (termP d) most s'.1.length t prio s' := fun _ _ _ => rfl
    rw [e1] at hx ⊢
    cases ho : operandP (termP d) most s with
    | error k => rw [ho] at hx; cases hx
    | ok us =>
      obtain ⟨⟨u, q⟩, s2⟩ := us
      rw [ho] at hx
      dsimp only at hx
      obtain ⟨s2', a, b, c, e⟩ := operand_sim hS hW most h _ s2 ho
      rw [a]
      dsimp only
      obtain ⟨s3', a3, b3, c3, d3⟩ := loop_sim hS hW most _ s2'.1.length u q s2 s2' b (Nat.le_refl _) (Nat.le_refl _) v s1 hx
      exact ⟨s3', a3, b3, by omega, by omega⟩
end
/-- the same place -/
theorem sim_eq : Sim (fun s s' => s = s') := ⟨fun h => by rw [h], fun h _ _ => by rw [h], fun h => .inl (by subst h; exact ⟨rfl, rfl⟩)⟩
/-- the same tokens, then Y1, Y2: each with a dull one in front -/
def Rl (Y1 Y2 : List K) (s s' : St) : Prop := ∃ X, s.1 = X ++ Y1 ∧ s'.1 = X ++ Y2 ∧ s.2 = s'.2
theorem sim_rl {Y1 Y2 : List K} (h1 : (nx Y1).kind = 6) (h2 : dull (nx Y2)) : Sim (Rl Y1 Y2) where
  nm := fun ⟨_, _, _, h⟩ => h
  put := by
    rintro ⟨l, n⟩ ⟨l', n'⟩ _ _ ⟨X, a, b, c⟩
    exact ⟨X, a, b, by dsimp only at c ⊢; rw [c]⟩
  hd := by
    rintro ⟨l, n⟩ ⟨l', n'⟩ ⟨X, a, b, c⟩
    dsimp only at a b c ⊢
    subst a b c
    cases X with
    | nil => exact .inr ⟨h1, h2⟩
    | cons x X => exact .inl ⟨rfl, X, rfl, rfl, rfl⟩
/-- what is deeper than enough is no other -/
theorem term_mono {d d' : Nat} (hd : d ≤ d') {most : Int} {s s1 : St} {t : T} (h : termP d most s = .ok (t, s1)) : termP d' most s = .ok (t, s1) ∧ s1.1.length ≤ s.1.length := by
  obtain ⟨s1', a, b, c, _⟩ := term_sim sim_eq d d' hd most s s rfl t s1 h
  exact ⟨by rw [a, b], c⟩
theorem term_ctx {d : Nat} {most : Int} {X Y1 Y2 X' : List K} {n n' : List (List UInt8)} {t : T} (h1 : (nx Y1).kind = 6) (h2 : dull (nx Y2)) (h : termP d most (X ++ Y1, n) = .ok (t, (X' ++ Y1, n'))) :
    termP d most (X ++ Y2, n) = .ok (t, (X' ++ Y2, n')) := by
  obtain ⟨⟨l, m⟩, a, ⟨Z, b, c, e⟩, _⟩ := term_sim (sim_rl h1 h2) d d (Nat.le_refl _) most (X ++ Y1, n) (X ++ Y2, n) ⟨X, rfl, rfl, rfl⟩ t _ h
  dsimp only at b c e
  have hz : X' = Z := List.append_cancel_right b
  subst hz
  rw [a, c, ← e]
end Go.Proofs.Ytjccohcigopdfaa.rd
end
