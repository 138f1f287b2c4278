/- lex's isAtom, inQuotes, Quote. -/
import Derived.Test.YtdcggedggngpoaaQuo
import Derived.Test.YtdcggedggngpoaaToks
import Derived.WalkSpells
namespace Go.Proofs.Ytdcggedggngpoaa.lx
open Go.RowKit

theorem ret_s {a b : ByteArray} (h : a = b) : Ending.returned (.string a) = .returned (.string b) := by rw [h]
theorem bytes_of {s : ByteArray} {l : List UInt8} (h : s.data.toList = l) : s = ⟨l.toArray⟩ := h ▸ (Lib.mk_data s).symm
theorem data_of (l : List UInt8) : (ByteArray.mk l.toArray).data.toList = l := by simp
/-- not one token -/
def NotOne : Out → Prop
  | .ok ts => ts.length ≠ 1
  | .bad _ _ => True
theorem gives_len {w w' : World} {v : Value} {p k : Nat} {o : Out} (h : Gives w w' v p k o) (hn : NotOne o) : ∃ a n cap, v = .slice a n cap ∧ n ≠ 1 := by
  cases o with
  | ok ts => obtain ⟨a, cap, hv⟩ := h.1.shape; exact ⟨a, _, cap, hv, hn⟩
  | bad q j => exact ⟨none, 0, 0, h.1, by omega⟩
theorem not_one_isOne {name : List UInt8} {o : Out} (h : NotOne o) : isOne name o = false := by
  match o, h with
  | .ok [], _ => rfl
  | .ok [t], h => exact absurd rfl h
  | .ok (_ :: _ :: _), _ => rfl
  | .bad _ _, _ => rfl

set_option maxHeartbeats 1000000 in
theorem isAtom_no (s name : ByteArray) (w : World) (hg : GM w) (hz : s.size ≤ 9223372036854775807) (hn : NotOne (toksD s.data.toList)) :
    Calls Try.prog 23 #[.string s, .string name] w fun e w' => e = .returned (.bool false) ∧ Below w.heap.size w w' := by
  have kt := tokens_c s w hg hz
  have hG := Lib.hid hg
  clear hg
  have Hn := Lib.hid hn
  clear hn
  go_enter Try.func23, Try.ntmps23
  go_wp2_with fail
  refine kt.mono ?_
  rintro e w1 ⟨v, p, k, rfl, hv, hb⟩
  obtain ⟨a, n, cap, rfl, hn1⟩ := gives_len hv Hn.out
  obtain ⟨a1, a2⟩ := ieq_no (a := n) 1 (by omega)
  have HB := Lib.hid hb
  clear hb hv kt hn1
  go_wp2
  go_ret
  exact ⟨rfl, HB.out⟩
set_option maxHeartbeats 1000000 in
theorem isAtom_one (s name : ByteArray) (w : World) (hg : GM w) (hz : s.size ≤ 9223372036854775807) {t : Tok} (hn : toksD s.data.toList = .ok [t]) :
    Calls Try.prog 23 #[.string s, .string name] w fun e w' => e = .returned (.bool (t.kind == 1 && t.text == name.data.toList)) ∧ Below w.heap.size w w' := by
  have kt := tokens_c s w hg hz
  clear hg
  rw [hn] at kt
  clear hn
  by_cases hk : t.kind = 1
  · obtain ⟨a1, a2⟩ := ieq_yes (a := t.kind) 1 (by omega)
    have Hk := Lib.hid (show (t.kind == 1) = true by simpa using hk)
    clear hk
    go_enter Try.func23, Try.ntmps23
    go_wp2_with fail
    refine kt.mono ?_
    rintro e w1 ⟨v, p, k, rfl, ⟨hT, rfl, rfl⟩, hb⟩
    obtain ⟨g, cap, rfl, hcap, _, _, hcell⟩ := hT.row (by simp)
    obtain ⟨c0, c1, c2, c3⟩ := hcell 0 (by simp)
    simp only [List.getElem_cons_zero, Nat.zero_mul, Nat.zero_add, List.length_singleton] at c0 c1 c2 c3 hcap
    have HB := Lib.hid hb
    clear hb hT kt hcell
    go_wp2
    go_ret
    exact ⟨ret_b (by rw [Hk.out, Bool.true_and, ByteArray.toList_eq]), HB.out⟩
  · obtain ⟨a1, a2⟩ := ieq_no (a := t.kind) 1 (by omega)
    have Hk := Lib.hid (show (t.kind == 1) = false by simpa using hk)
    clear hk
    go_enter Try.func23, Try.ntmps23
    go_wp2_with fail
    refine kt.mono ?_
    rintro e w1 ⟨v, p, k, rfl, ⟨hT, rfl, rfl⟩, hb⟩
    obtain ⟨g, cap, rfl, hcap, _, _, hcell⟩ := hT.row (by simp)
    obtain ⟨c0, c1, c2, c3⟩ := hcell 0 (by simp)
    simp only [List.getElem_cons_zero, Nat.zero_mul, Nat.zero_add, List.length_singleton] at c0 c1 c2 c3 hcap
    have HB := Lib.hid hb
    clear hb hT kt hcell
    go_wp2
    go_ret
    exact ⟨ret_b (by rw [Hk.out]; rfl), HB.out⟩

/-- whether a text is one atom of a name -/
theorem isAtom_c (s name : ByteArray) (w : World) (hg : GM w) (hz : s.size ≤ 9223372036854775807) :
    Calls Try.prog 23 #[.string s, .string name] w fun e w' => e = .returned (.bool (isOne name.data.toList (toksD s.data.toList))) ∧ Below w.heap.size w w' := by
  cases ho : toksD s.data.toList with
  | bad p k => exact isAtom_no s name w hg hz (by rw [ho]; trivial)
  | ok ts =>
    match ts, ho with
    | [], ho => exact isAtom_no s name w hg hz (by rw [ho]; show (0 : Nat) ≠ 1; omega)
    | [t], ho => exact isAtom_one s name w hg hz ho
    | a :: b :: r, ho => exact isAtom_no s name w hg hz (by rw [ho]; show r.length + 2 ≠ 1; omega)

theorem encL_snoc (l : List UInt8) (b : UInt8) : encL (l ++ [b]) = encL l ++ enc1 b := by simp [encL]
set_option maxRecDepth 100000 in
set_option maxHeartbeats 2000000 in
theorem inQuotes_c (s : ByteArray) (w : World) (hs : s.size ≤ 100000) :
    Calls Try.prog 24 #[.string s] w fun e w' => e = .returned (.string ⟨(inQ s.data.toList).toArray⟩) ∧ Below w.heap.size w w' := by
  have hgt := get_bA s
  have hB1 := Lib.hid (bl_new w)
  have hal := Lib.hid ((Below.refl w.heap.size w).alloc (Nat.le_refl _) (.cells #[.pointer none, .slice none 0 0] 50))
  go_enter Try.func24, Try.ntmps24
  go_wp2_with fail
  refine (writeByte_c w.heap.size w.heap.size [] 39 _ hB1.out (by simp) hal.out.size).mono ?_
  rintro e w1 ⟨rfl, hBl, hb1⟩
  have HBl := Lib.hid hBl
  have HB := Lib.hid (hal.out.trans hb1)
  clear hBl hb1
  go_wp2
  go_loopg [9] s.size (fun k i wr => ∃ m : Nat, k = s.size - m ∧ m ≤ s.size ∧ i = .int .i64 m ∧ Hid (Bl w.heap.size w.heap.size (39 :: encL (s.data.toList.take m)) wr) ∧ Hid (Below w.heap.size w wr))
  case atStart => exact ⟨0, by omega, by omega, rfl, HBl, HB⟩
  case round =>
    clear HBl HB hB1 hal
    obtain ⟨m, hgk, hm, rfl, hBl, hb⟩ := hrel
    have hel : (39 :: encL (s.data.toList.take m)).length ≤ 200002 := by
      have := (encL_len (s.data.toList.take m)).2
      have h2 := List.length_take_le m s.data.toList
      rw [List.length_cons]; omega
    by_cases hlt : m < s.size
    · have hlt2 : (m : Int) < s.size := by omega
      have hsn := Lib.hid (show s.data.toList.take (m + 1) = s.data.toList.take m ++ [bA s m] by
        have hz : s.data.toList.length = s.size := by simp
        rw [List.take_succ_eq_append_getElem (by omega)]
        unfold bA
        rw [List.getD_eq_getElem?_getD, List.getElem?_eq_getElem (by omega)]; rfl)
      by_cases c10 : (bA s m).toNat = 10
      · obtain ⟨a10, b10⟩ := ieq_yes (a := (bA s m).toNat) 10 (by omega)
        have he := Lib.hid (show enc1 (bA s m) = [92, 110] by rw [show bA s m = 10 from UInt8.toNat_inj.1 (by rw [c10]; rfl)]; rfl)
        clear c10
        go_wp2_with fail
        refine (writeString_c w.heap.size w.heap.size _ ⟨#[92, 110]⟩ _ hBl.out (by omega) (by decide) hb.out.size).mono ?_
        rintro e w2 ⟨rfl, hBl2, hb2⟩
        have HBl9 := Lib.hid (show Bl w.heap.size w.heap.size (39 :: encL (s.data.toList.take (m + 1))) _ from by
          have h := hBl2
          rw [hsn.out, encL_snoc, he.out]
          simpa using h)
        have HB9 := Lib.hid (hb.out.trans hb2)
        clear hBl2 hb2
        go_wp2
        go_roundg (s.size - (m + 1))
        case measure => omega
        case rel => exact ⟨m + 1, rfl, by omega, by go_num, HBl9, HB9⟩
      obtain ⟨p10, q10⟩ := ieq_no (a := (bA s m).toNat) 10 (by omega)
      by_cases c9 : (bA s m).toNat = 9
      · obtain ⟨a9, b9⟩ := ieq_yes (a := (bA s m).toNat) 9 (by omega)
        have he := Lib.hid (show enc1 (bA s m) = [92, 116] by rw [show bA s m = 9 from UInt8.toNat_inj.1 (by rw [c9]; rfl)]; rfl)
        clear c9
        go_wp2_with fail
        refine (writeString_c w.heap.size w.heap.size _ ⟨#[92, 116]⟩ _ hBl.out (by omega) (by decide) hb.out.size).mono ?_
        rintro e w2 ⟨rfl, hBl2, hb2⟩
        have HBl9 := Lib.hid (show Bl w.heap.size w.heap.size (39 :: encL (s.data.toList.take (m + 1))) _ from by
          have h := hBl2
          rw [hsn.out, encL_snoc, he.out]
          simpa using h)
        have HB9 := Lib.hid (hb.out.trans hb2)
        clear hBl2 hb2
        go_wp2
        go_roundg (s.size - (m + 1))
        case measure => omega
        case rel => exact ⟨m + 1, rfl, by omega, by go_num, HBl9, HB9⟩
      obtain ⟨p9, q9⟩ := ieq_no (a := (bA s m).toNat) 9 (by omega)
      by_cases c92 : (bA s m).toNat = 92
      · obtain ⟨a92, b92⟩ := ieq_yes (a := (bA s m).toNat) 92 (by omega)
        have he := Lib.hid (show enc1 (bA s m) = [92, bA s m] by rw [show bA s m = 92 from UInt8.toNat_inj.1 (by rw [c92]; rfl)]; rfl)
        clear c10 c9 c92
        go_wp2_with fail
        refine (writeByte_c w.heap.size w.heap.size _ 92 _ hBl.out (by omega) hb.out.size).mono ?_
        rintro e w2 ⟨rfl, hBl1, hb1⟩
        have HBl1 := Lib.hid hBl1
        have HB1 := Lib.hid (hb.out.trans hb1)
        clear hBl1 hb1
        go_wp2_with fail
        refine (writeByte_c w.heap.size w.heap.size _ (bA s m) _ HBl1.out (by rw [List.length_append, List.length_singleton]; omega) HB1.out.size).mono ?_
        rintro e w3 ⟨rfl, hBl2, hb2⟩
        have HBl9 := Lib.hid (show Bl w.heap.size w.heap.size (39 :: encL (s.data.toList.take (m + 1))) _ from by
          have h := hBl2
          rw [hsn.out, encL_snoc, he.out]
          simpa using h)
        have HB9 := Lib.hid (HB1.out.trans hb2)
        clear hBl2 hb2
        go_wp2
        go_roundg (s.size - (m + 1))
        case measure => omega
        case rel => exact ⟨m + 1, rfl, by omega, by go_num, HBl9, HB9⟩
      obtain ⟨p92, q92⟩ := ieq_no (a := (bA s m).toNat) 92 (by omega)
      by_cases c39 : (bA s m).toNat = 39
      · obtain ⟨a39, b39⟩ := ieq_yes (a := (bA s m).toNat) 39 (by omega)
        have he := Lib.hid (show enc1 (bA s m) = [92, bA s m] by rw [show bA s m = 39 from UInt8.toNat_inj.1 (by rw [c39]; rfl)]; rfl)
        clear c10 c9 c92 c39
        go_wp2_with fail
        refine (writeByte_c w.heap.size w.heap.size _ 92 _ hBl.out (by omega) hb.out.size).mono ?_
        rintro e w2 ⟨rfl, hBl1, hb1⟩
        have HBl1 := Lib.hid hBl1
        have HB1 := Lib.hid (hb.out.trans hb1)
        clear hBl1 hb1
        go_wp2_with fail
        refine (writeByte_c w.heap.size w.heap.size _ (bA s m) _ HBl1.out (by rw [List.length_append, List.length_singleton]; omega) HB1.out.size).mono ?_
        rintro e w3 ⟨rfl, hBl2, hb2⟩
        have HBl9 := Lib.hid (show Bl w.heap.size w.heap.size (39 :: encL (s.data.toList.take (m + 1))) _ from by
          have h := hBl2
          rw [hsn.out, encL_snoc, he.out]
          simpa using h)
        have HB9 := Lib.hid (HB1.out.trans hb2)
        clear hBl2 hb2
        go_wp2
        go_roundg (s.size - (m + 1))
        case measure => omega
        case rel => exact ⟨m + 1, rfl, by omega, by go_num, HBl9, HB9⟩
      obtain ⟨p39, q39⟩ := ieq_no (a := (bA s m).toNat) 39 (by omega)
      have he := Lib.hid (show enc1 (bA s m) = [bA s m] by
        unfold enc1
        rw [if_neg (fun e => c10 (by rw [e]; rfl)), if_neg (fun e => c9 (by rw [e]; rfl)), if_neg]
        rintro (e | e)
        · exact c92 (by rw [e]; rfl)
        · exact c39 (by rw [e]; rfl))
      clear c10 c9 c92 c39
      go_wp2_with fail
      refine (writeByte_c w.heap.size w.heap.size _ (bA s m) _ hBl.out (by omega) hb.out.size).mono ?_
      rintro e w2 ⟨rfl, hBl2, hb2⟩
      have HBl9 := Lib.hid (show Bl w.heap.size w.heap.size (39 :: encL (s.data.toList.take (m + 1))) _ from by
        have h := hBl2
        rw [hsn.out, encL_snoc, he.out]
        simpa using h)
      have HB9 := Lib.hid (hb.out.trans hb2)
      clear hBl2 hb2
      go_wp2
      go_roundg (s.size - (m + 1))
      case measure => omega
      case rel => exact ⟨m + 1, rfl, by omega, by go_num, HBl9, HB9⟩
    · have hlt2 : ¬ ((m : Int) < s.size) := by omega
      have htk := Lib.hid (show s.data.toList.take m = s.data.toList from List.take_of_length_le (by simp; omega))
      go_wp2_with fail
      refine (writeByte_c w.heap.size w.heap.size _ 39 _ hBl.out (by omega) hb.out.size).mono ?_
      rintro e w2 ⟨rfl, hBl2, hb2⟩
      have HBl2 := Lib.hid hBl2
      have HB2 := Lib.hid (hb.out.trans hb2)
      clear hBl2 hb2 hBl hb
      go_wp2_with fail
      refine (bString_c w.heap.size w.heap.size _ _ HBl2.out HB2.out.size).mono ?_
      rintro e w3 ⟨rfl, hb3⟩
      have HB3 := Lib.hid (HB2.out.trans hb3)
      clear hb3
      go_wp2
      go_ret
      exact ⟨by rw [htk.out]; rfl, HB3.out⟩

/-- lex's Quote, of names that are not long -/
theorem quote_c (s : ByteArray) (w : World) (hg : GM w) (hs : s.size ≤ 1024) :
    Calls Try.prog 11 #[.string s] w fun e w' => e = .returned (.string ⟨(quoteS s.data.toList).toArray⟩) ∧ Below w.heap.size w w' := by
  have hz : s.data.toList.length = s.size := by simp
  have hD : toksD s.data.toList = toks s.data.toList := by unfold toksD; rw [if_neg (by omega)]
  have hp := heap_pos hg
  have k1 := isAtom_c s s w hg (by omega)
  rw [hD] at k1
  have Hg := Lib.hid hg
  clear hg
  cases h1 : isOne s.data.toList (toks s.data.toList) with
  | true =>
    rw [h1] at k1
    have hq := Lib.hid (show (⟨(quoteS s.data.toList).toArray⟩ : ByteArray) = s by unfold quoteS; rw [if_pos h1])
    clear h1 hD
    go_enter Try.func11, Try.ntmps11
    go_wp2_with fail
    refine k1.mono ?_
    rintro e w1 ⟨rfl, hb⟩
    have HB := Lib.hid hb
    clear hb k1
    go_wp2
    go_ret
    exact ⟨ret_s hq.out.symm, HB.out⟩
  | false =>
    rw [h1] at k1
    have hl := inQ_len s.data.toList
    have hl2 := (encL_len s.data.toList).2
    have hD2 : toksD (inQ s.data.toList) = toks (inQ s.data.toList) := by unfold toksD; rw [if_neg (by omega)]
    have hqs : quoteS s.data.toList = if okL s.data.toList = true then inQ s.data.toList else [] := by unfold quoteS; rw [if_neg (by rw [h1]; decide)]
    rw [hqs]
    clear h1 hD hqs
    cases hok : okL s.data.toList
    all_goals
      have Hok := Lib.hid hok
      clear hok
      go_enter Try.func11, Try.ntmps11
      go_wp2_with fail
      refine k1.mono ?_
      rintro e w1 ⟨rfl, hb⟩
      have HB := Lib.hid hb
      clear hb
      go_wp2_with fail
      refine (inQuotes_c s _ (by omega)).mono ?_
      rintro e w2 ⟨rfl, hb2⟩
      have HB2 := Lib.hid (HB.out.trans (hb2.mono HB.out.size))
      clear hb2
      have k2 := isAtom_c ⟨(inQ s.data.toList).toArray⟩ s w2 (Hg.out.below HB2.out hp) (by simp [ByteArray.size]; omega)
      rw [data_of, hD2, isOne_inQ, Hok.out] at k2
      go_wp2_with fail
      refine k2.mono ?_
      rintro e w3 ⟨rfl, hb3⟩
      have HB3 := Lib.hid (HB2.out.trans (hb3.mono HB2.out.size))
      clear hb3 k1 k2
      go_wp2
      go_ret
      exact ⟨rfl, HB3.out⟩
end Go.Proofs.Ytdcggedggngpoaa.lx
