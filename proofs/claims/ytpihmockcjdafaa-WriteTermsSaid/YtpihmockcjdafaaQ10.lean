/- The reference: Quote.; The law's same: whether two rows of tokens are one.; What the laws lean on: both Tokens, as tokens, place and error.; LexQuotes: its walk.; LexBetween: its walk. -/
import Derived.Test.YtpihmockcjdafaaQ7
import Derived.Test.YtpihmockcjdafaaQ9
import Derived.Laws.StructEq
set_option linter.unusedVariables false
set_option linter.unusedSimpArgs false
section
/- The reference: Quote. -/
namespace Go.Proofs.Ytpihmockcjdafaa.lx
open Go.RowKit

theorem start_err {M : Nat} {ts : List Tok} {n p e : Nat} {b : UInt8} (h : start M ts n b = .bad p e) : e ≠ 0 := by
  unfold start at h
  repeat' split at h
  all_goals first | (cases h; done) | (cases h; decide) | (obtain ⟨a, c, hc⟩ := opening_go ts n b; rw [hc] at h; cases h)
theorem step_err {M : Nat} {ts : List Tok} {n p e : Nat} {b : UInt8} {m : Mode} (h : step M ts n b m = .bad p e) : e ≠ 0 := by
  cases m <;> simp only [step] at h
  case btw => exact start_err h
  all_goals (repeat' split at h)
  all_goals first | exact start_err h | (cases h; done) | (cases h; decide)
theorem ans_err {M : Nat} : ∀ (l : List UInt8) (ts : List Tok) (n : Nat) (m : Mode) (p e : Nat), ans M l ts n m = .bad p e → e ≠ 0 := by
  intro l
  induction l with
  | nil =>
    intro ts n m p e h
    cases m <;> simp only [ans_nil, fin] at h
    case slash f => split at h <;> cases h; decide
    all_goals first | (cases h; done) | (cases h; decide)
  | cons b l ih =>
    intro ts n m p e h
    rw [ans_cons] at h
    cases hs : step M ts n b m with
    | go ts' m' => rw [hs] at h; exact ih _ _ _ _ _ h
    | bad q j => rw [hs] at h; cases h; exact step_err hs
theorem okL_snoc (l : List UInt8) (b : UInt8) : okL (l ++ [b]) = (okL l && okB b) := by simp [okL]
theorem okL_no {s : ByteArray} {m : Nat} (hm : m < s.size) (h : okB (bA s m) = false) : okL s.data.toList = false := by
  have hz : s.data.toList.length = s.size := by simp
  have e : bA s m = s.data.toList[m]'(by omega) := by
    unfold bA; rw [List.getD_eq_getElem?_getD, List.getElem?_eq_getElem (by omega)]; rfl
  cases hok : okL s.data.toList with
  | false => rfl
  | true =>
    have := List.all_eq_true.1 hok _ (List.getElem_mem (show m < s.data.toList.length by omega))
    rw [← e, h] at this; cases this
theorem take_snoc {s : ByteArray} {m : Nat} (hlt : m < s.size) : s.data.toList.take (m + 1) = s.data.toList.take m ++ [bA s m] := by
  have hz : s.data.toList.length = s.size := by simp
  rw [List.take_succ_eq_append_getElem (by omega)]
  unfold bA
  rw [List.getD_eq_getElem?_getD, List.getElem?_eq_getElem (by omega)]; rfl

set_option maxRecDepth 100000 in
set_option maxHeartbeats 1000000 in
theorem rquote_yes (s : ByteArray) (w : World) (hs : s.size ≤ 4096) (h1 : isOne s.data.toList (toks s.data.toList) = true) :
    Calls Try.prog 38 #[.string s] w fun e w' => e = .returned (.string ⟨(quoteS s.data.toList).toArray⟩) ∧ Below w.heap.size w w' := by
  have hgt := get_bA s
  have hz : s.data.toList.length = s.size := by simp
  have hq := Lib.hid (show (⟨(quoteS s.data.toList).toArray⟩ : ByteArray) = s by unfold quoteS; rw [if_pos h1])
  obtain ⟨f, n, hf⟩ := isOne_iff h1
  obtain ⟨rfl, rfl, h39⟩ := self_atom hf
  have hpos : 0 < s.size := by
    have := (places hf 0 (by simp)).2.1
    simp only [List.getElem_cons_zero] at this; omega
  have n39 : (bA s 0).toNat ≠ 39 := fun e => h39 (UInt8.toNat_inj.1 (by
    have : bA s 0 = s.data.toList.getD 0 0 := rfl
    rw [← this, e]; rfl))
  obtain ⟨a1, a2⟩ := ieq_no (a := (bA s 0).toNat) 39 (by omega)
  have kt := rtoks_c s w (by omega)
  rw [hf] at kt
  have x1 : (s.data.toList == s.toList) = true := by rw [ByteArray.toList_eq]; simp
  rw [hz] at kt
  clear hf h1 h39 n39 hz
  go_enter Try.func38, Try.ntmps38
  go_wp2_with fail
  refine kt.mono ?_
  rintro e w1 ⟨v, p, k, rfl, ⟨hT, rfl, rfl⟩, hb⟩
  obtain ⟨g, cap, rfl, hcap, _, _, hcell⟩ := hT.row (by simp)
  obtain ⟨c0, c1, c2, c3⟩ := hcell 0 (by simp)
  simp only [List.getElem_cons_zero, Nat.zero_mul, Nat.zero_add, List.length_singleton] at c0 c1 c2 c3 hcap
  have HB := Lib.hid hb
  clear hb hT kt hcell
  go_wp2
  go_ret
  exact ⟨ret_s hq.out.symm, HB.out⟩

set_option maxRecDepth 100000 in
set_option maxHeartbeats 8000000 in
theorem rquote_no (s : ByteArray) (w : World) (hs : s.size ≤ 2047) (h1 : isOne s.data.toList (toks s.data.toList) = false) :
    Calls Try.prog 38 #[.string s] w fun e w' => e = .returned (.string ⟨(quoteS s.data.toList).toArray⟩) ∧ Below w.heap.size w w' := by
  have hgt := get_bA s
  have hqs : Hid (quoteS s.data.toList = if okL s.data.toList = true then inQ s.data.toList else []) := Lib.hid (by unfold quoteS; rw [if_neg (by rw [h1]; decide)])
  have kt := rtoks_c s w (by omega)
  have hcase : (∃ p k, toks s.data.toList = .bad p k ∧ k ≠ 0) ∨ (∃ ts, toks s.data.toList = .ok ts ∧ ts.length ≠ 1) ∨ (∃ t, toks s.data.toList = .ok [t] ∧ t.kind ≠ 1) ∨ (∃ t, toks s.data.toList = .ok [t] ∧ t.kind = 1 ∧ t.text ≠ s.data.toList) := by
    cases ho : toks s.data.toList with
    | bad p k => exact .inl ⟨p, k, rfl, ans_err _ _ _ _ _ _ ho⟩
    | ok ts =>
      match ts, ho with
      | [], _ => exact .inr (.inl ⟨[], rfl, by decide⟩)
      | a :: b :: r, _ => exact .inr (.inl ⟨_, rfl, by show r.length + 2 ≠ 1; omega⟩)
      | [t], ho =>
        rw [ho] at h1
        by_cases hk : t.kind = 1
        · exact .inr (.inr (.inr ⟨t, rfl, hk, fun e => by simp [isOne, hk, e] at h1⟩))
        · exact .inr (.inr (.inl ⟨t, rfl, hk⟩))
  clear h1
  go_enter Try.func38, Try.ntmps38
  go_wp2_with fail
  refine kt.mono ?_
  clear kt
  rintro e w1 ⟨v, p, k, rfl, hG, hb⟩
  have HB := Lib.hid hb
  have hY1 := Lib.hid (By.one w.heap.size w1 hb.size 39 (e := 39) rfl)
  have hB1 := Lib.hid (hb.alloc hb.size (.cells #[.int .u8 39] 5))
  clear hb
  rcases hcase with ⟨p', k', ho, hk⟩ | ⟨ts, ho, hl⟩ | ⟨t, ho, hk⟩ | ⟨t, ho, hk, ht⟩
  · rw [ho] at hG
    obtain ⟨rfl, rfl, rfl⟩ := hG
    clear ho
    obtain ⟨a1, a2⟩ := ieq_no (a := k) 0 (by omega)
    go_wp2
    clear a1 a2
    go_loopg [6, 7] s.size (fun k v i wr => ∃ (m g cap : Nat), k = s.size - m ∧ m ≤ s.size ∧ v = .slice (some ⟨g, 0, none⟩) (39 :: encL (s.data.toList.take m)).length cap ∧ i = .int .i64 m ∧ Hid (okL (s.data.toList.take m) = true) ∧ Hid (By w.heap.size wr g cap (39 :: encL (s.data.toList.take m))) ∧ Hid (Below w.heap.size w wr))
    case atStart => exact ⟨0, w1.heap.size, 1, by omega, by omega, rfl, rfl, Lib.hid rfl, hY1, hB1⟩
    case round =>
      clear hY1 hB1 HB
      obtain ⟨m, g2, cap2, hgk, hm, rfl, rfl, hok, hY, hb⟩ := hrel
      have hel : (39 :: encL (s.data.toList.take m)).length ≤ 4097 := by
        have := (encL_len (s.data.toList.take m)).2
        have h2 := List.length_take_le m s.data.toList
        rw [List.length_cons]; omega
      have hsz := Lib.hid hb.out.size
      have hen := Lib.hid (show ∀ b, encL (s.data.toList.take m ++ [b]) = encL (s.data.toList.take m) ++ enc1 b from encL_snoc _)
      by_cases hlt : m < s.size
      · have hlt2 : (m : Int) < s.size := by omega
        have hsn := Lib.hid (take_snoc hlt)
        generalize hL : (39 :: encL (s.data.toList.take m)) = L at *
        have HL := Lib.hid hL
        clear hL
        by_cases c10 : (bA s m).toNat = 10
        · obtain ⟨a10, b10⟩ := ieq_yes (a := (bA s m).toNat) 10 (by omega)
          have ev : bA s m = 10 := UInt8.toNat_inj.1 (by rw [c10]; rfl)
          have he := Lib.hid (show enc1 (bA s m) = [92, 110] by rw [ev]; rfl)
          have hokb := Lib.hid (show okB (bA s m) = true by rw [ev]; rfl)
          clear ev c10
          go_wp2_with (at_builtin; refine wpList_push2 rfl _ _ rfl w.heap.size wr g2 cap2 L 92 110 _ _ rfl rfl rfl hY.out rfl (by omega) hsz.out ?_; intro g3 cap3 w3 hY3 hb3)
          have HY3 := Lib.hid (show By w.heap.size w3 g3 cap3 (39 :: encL (s.data.toList.take (m + 1))) from by
            rw [hsn.out, hen.out, he.out, ← List.cons_append, HL.out]; exact hY3)
          have HB3 := Lib.hid (hb.out.trans hb3)
          have hlen := Lib.hid (show L.length + 2 = (39 :: encL (s.data.toList.take (m + 1))).length by rw [hsn.out, hen.out, he.out, ← List.cons_append, HL.out, List.length_append]; rfl)
          clear hY3 hb3
          go_wp2
          go_roundg (s.size - (m + 1))
          case measure => omega
          case rel => exact ⟨m + 1, g3, cap3, rfl, by omega, by rw [← hlen.out], by go_num, Lib.hid (by rw [hsn.out, okL_snoc, hok.out, hokb.out]; rfl), HY3, HB3⟩
        obtain ⟨p10, q10⟩ := ieq_no (a := (bA s m).toNat) 10 (by omega)
        by_cases c9 : (bA s m).toNat = 9
        · obtain ⟨a9, b9⟩ := ieq_yes (a := (bA s m).toNat) 9 (by omega)
          have ev : bA s m = 9 := UInt8.toNat_inj.1 (by rw [c9]; rfl)
          have he := Lib.hid (show enc1 (bA s m) = [92, 116] by rw [ev]; rfl)
          have hokb := Lib.hid (show okB (bA s m) = true by rw [ev]; rfl)
          clear ev c10 c9
          go_wp2_with (at_builtin; refine wpList_push2 rfl _ _ rfl w.heap.size wr g2 cap2 L 92 116 _ _ rfl rfl rfl hY.out rfl (by omega) hsz.out ?_; intro g3 cap3 w3 hY3 hb3)
          have HY3 := Lib.hid (show By w.heap.size w3 g3 cap3 (39 :: encL (s.data.toList.take (m + 1))) from by
            rw [hsn.out, hen.out, he.out, ← List.cons_append, HL.out]; exact hY3)
          have HB3 := Lib.hid (hb.out.trans hb3)
          have hlen := Lib.hid (show L.length + 2 = (39 :: encL (s.data.toList.take (m + 1))).length by rw [hsn.out, hen.out, he.out, ← List.cons_append, HL.out, List.length_append]; rfl)
          clear hY3 hb3
          go_wp2
          go_roundg (s.size - (m + 1))
          case measure => omega
          case rel => exact ⟨m + 1, g3, cap3, rfl, by omega, by rw [← hlen.out], by go_num, Lib.hid (by rw [hsn.out, okL_snoc, hok.out, hokb.out]; rfl), HY3, HB3⟩
        obtain ⟨p9, q9⟩ := ieq_no (a := (bA s m).toNat) 9 (by omega)
        by_cases c92 : (bA s m).toNat = 92
        · obtain ⟨a92, b92⟩ := ieq_yes (a := (bA s m).toNat) 92 (by omega)
          have ev : bA s m = 92 := UInt8.toNat_inj.1 (by rw [c92]; rfl)
          have he := Lib.hid (show enc1 (bA s m) = [92, bA s m] by rw [ev]; rfl)
          have hokb := Lib.hid (show okB (bA s m) = true by rw [ev]; rfl)
          clear ev c10 c9 c92
          go_wp2_with (at_builtin; refine wpList_push2 rfl _ _ rfl w.heap.size wr g2 cap2 L 92 (bA s m) _ _ rfl rfl rfl hY.out rfl (by omega) hsz.out ?_; intro g3 cap3 w3 hY3 hb3)
          have HY3 := Lib.hid (show By w.heap.size w3 g3 cap3 (39 :: encL (s.data.toList.take (m + 1))) from by
            rw [hsn.out, hen.out, he.out, ← List.cons_append, HL.out]; exact hY3)
          have HB3 := Lib.hid (hb.out.trans hb3)
          have hlen := Lib.hid (show L.length + 2 = (39 :: encL (s.data.toList.take (m + 1))).length by rw [hsn.out, hen.out, he.out, ← List.cons_append, HL.out, List.length_append]; rfl)
          clear hY3 hb3
          go_wp2
          go_roundg (s.size - (m + 1))
          case measure => omega
          case rel => exact ⟨m + 1, g3, cap3, rfl, by omega, by rw [← hlen.out], by go_num, Lib.hid (by rw [hsn.out, okL_snoc, hok.out, hokb.out]; rfl), HY3, HB3⟩
        obtain ⟨p92, q92⟩ := ieq_no (a := (bA s m).toNat) 92 (by omega)
        by_cases c39 : (bA s m).toNat = 39
        · obtain ⟨a39, b39⟩ := ieq_yes (a := (bA s m).toNat) 39 (by omega)
          have ev : bA s m = 39 := UInt8.toNat_inj.1 (by rw [c39]; rfl)
          have he := Lib.hid (show enc1 (bA s m) = [92, bA s m] by rw [ev]; rfl)
          have hokb := Lib.hid (show okB (bA s m) = true by rw [ev]; rfl)
          clear ev c10 c9 c92 c39
          go_wp2_with (at_builtin; refine wpList_push2 rfl _ _ rfl w.heap.size wr g2 cap2 L 92 (bA s m) _ _ rfl rfl rfl hY.out rfl (by omega) hsz.out ?_; intro g3 cap3 w3 hY3 hb3)
          have HY3 := Lib.hid (show By w.heap.size w3 g3 cap3 (39 :: encL (s.data.toList.take (m + 1))) from by
            rw [hsn.out, hen.out, he.out, ← List.cons_append, HL.out]; exact hY3)
          have HB3 := Lib.hid (hb.out.trans hb3)
          have hlen := Lib.hid (show L.length + 2 = (39 :: encL (s.data.toList.take (m + 1))).length by rw [hsn.out, hen.out, he.out, ← List.cons_append, HL.out, List.length_append]; rfl)
          clear hY3 hb3
          go_wp2
          go_roundg (s.size - (m + 1))
          case measure => omega
          case rel => exact ⟨m + 1, g3, cap3, rfl, by omega, by rw [← hlen.out], by go_num, Lib.hid (by rw [hsn.out, okL_snoc, hok.out, hokb.out]; rfl), HY3, HB3⟩
        obtain ⟨p39, q39⟩ := ieq_no (a := (bA s m).toNat) 39 (by omega)
        by_cases c32 : (bA s m).toNat < 32
        · have t1 : (((bA s m).toNat : Nat) : Int) < 32 := by omega
          have hbad := Lib.hid (show okL s.data.toList = false from okL_no hlt (by
            unfold okB
            simp only [Bool.or_eq_false_iff, Bool.and_eq_false_iff, beq_eq_false_iff_ne, decide_eq_false_iff_not]
            exact ⟨⟨fun e => c10 (by rw [e]; rfl), fun e => c9 (by rw [e]; rfl)⟩, .inl (by omega)⟩))
          clear c10 c9 c92 c39 c32
          go_wp2
          go_ret
          exact ⟨ret_s (by rw [hqs.out, if_neg (by rw [hbad.out]; decide)]), hb.out⟩
        have t1 : ¬ ((((bA s m).toNat : Nat) : Int) < 32) := by omega
        by_cases c126 : 126 < (bA s m).toNat
        · have t2 : (126 : Int) < (((bA s m).toNat : Nat) : Int) := by omega
          have hbad := Lib.hid (show okL s.data.toList = false from okL_no hlt (by
            unfold okB
            simp only [Bool.or_eq_false_iff, Bool.and_eq_false_iff, beq_eq_false_iff_ne, decide_eq_false_iff_not]
            exact ⟨⟨fun e => c10 (by rw [e]; rfl), fun e => c9 (by rw [e]; rfl)⟩, .inr (by omega)⟩))
          clear c10 c9 c92 c39 c32 c126
          go_wp2
          go_ret
          exact ⟨ret_s (by rw [hqs.out, if_neg (by rw [hbad.out]; decide)]), hb.out⟩
        have t2 : ¬ ((126 : Int) < (((bA s m).toNat : Nat) : Int)) := by omega
        have he := Lib.hid (show enc1 (bA s m) = [bA s m] by
          unfold enc1
          rw [if_neg (fun e => c10 (by rw [e]; rfl)), if_neg (fun e => c9 (by rw [e]; rfl)), if_neg]
          rintro (e | e)
          · exact c92 (by rw [e]; rfl)
          · exact c39 (by rw [e]; rfl))
        have hokb := Lib.hid (show okB (bA s m) = true by
          unfold okB
          simp only [Bool.or_eq_true, Bool.and_eq_true, decide_eq_true_eq]
          exact .inr ⟨by omega, by omega⟩)
        clear c10 c9 c92 c39 c32 c126
        go_wp2_with (at_builtin; refine wpList_push1 rfl _ _ rfl w.heap.size wr g2 cap2 L (bA s m) _ rfl rfl hY.out rfl (by omega) hsz.out ?_; intro g3 cap3 w3 hY3 hb3)
        have HY3 := Lib.hid (show By w.heap.size w3 g3 cap3 (39 :: encL (s.data.toList.take (m + 1))) from by
          rw [hsn.out, hen.out, he.out, ← List.cons_append, HL.out]; exact hY3)
        have HB3 := Lib.hid (hb.out.trans hb3)
        have hlen := Lib.hid (show L.length + 1 = (39 :: encL (s.data.toList.take (m + 1))).length by rw [hsn.out, hen.out, he.out, ← List.cons_append, HL.out, List.length_append]; rfl)
        clear hY3 hb3
        go_wp2
        go_roundg (s.size - (m + 1))
        case measure => omega
        case rel => exact ⟨m + 1, g3, cap3, rfl, by omega, by rw [← hlen.out], by go_num, Lib.hid (by rw [hsn.out, okL_snoc, hok.out, hokb.out]; rfl), HY3, HB3⟩
      · have hlt2 : ¬ ((m : Int) < s.size) := by omega
        have htk := Lib.hid (show s.data.toList.take m = s.data.toList from List.take_of_length_le (by simp; omega))
        generalize hL : (39 :: encL (s.data.toList.take m)) = L at *
        have HL := Lib.hid hL
        clear hL
        go_wp2_with (at_builtin; refine wpList_push1 rfl _ _ rfl w.heap.size wr g2 cap2 L 39 _ rfl rfl hY.out rfl (by omega) hsz.out ?_; intro g3 cap3 w3 hY3 hb3; have hcv := hY3.conv; rw [List.length_append, List.length_singleton] at hcv; have HB3 := Lib.hid (hb.out.trans hb3); clear hY3 hb3)
        go_ret
        exact ⟨ret_s (by rw [hqs.out, if_pos (by rw [← htk.out]; exact hok.out), ← HL.out, htk.out]; rfl), HB3.out⟩
  · rw [ho] at hG
    obtain ⟨hT, rfl, rfl⟩ := hG
    clear ho
    obtain ⟨a, cap, rfl⟩ := hT.shape
    obtain ⟨a1, a2⟩ := ieq_no (a := ts.length) 1 (by omega)
    clear hl
    go_wp2
    clear a1 a2
    go_loopg [6, 7] s.size (fun k v i wr => ∃ (m g cap : Nat), k = s.size - m ∧ m ≤ s.size ∧ v = .slice (some ⟨g, 0, none⟩) (39 :: encL (s.data.toList.take m)).length cap ∧ i = .int .i64 m ∧ Hid (okL (s.data.toList.take m) = true) ∧ Hid (By w.heap.size wr g cap (39 :: encL (s.data.toList.take m))) ∧ Hid (Below w.heap.size w wr))
    case atStart => exact ⟨0, w1.heap.size, 1, by omega, by omega, rfl, rfl, Lib.hid rfl, hY1, hB1⟩
    case round =>
      clear hY1 hB1 HB
      obtain ⟨m, g2, cap2, hgk, hm, rfl, rfl, hok, hY, hb⟩ := hrel
      have hel : (39 :: encL (s.data.toList.take m)).length ≤ 4097 := by
        have := (encL_len (s.data.toList.take m)).2
        have h2 := List.length_take_le m s.data.toList
        rw [List.length_cons]; omega
      have hsz := Lib.hid hb.out.size
      have hen := Lib.hid (show ∀ b, encL (s.data.toList.take m ++ [b]) = encL (s.data.toList.take m) ++ enc1 b from encL_snoc _)
      by_cases hlt : m < s.size
      · have hlt2 : (m : Int) < s.size := by omega
        have hsn := Lib.hid (take_snoc hlt)
        generalize hL : (39 :: encL (s.data.toList.take m)) = L at *
        have HL := Lib.hid hL
        clear hL
        by_cases c10 : (bA s m).toNat = 10
        · obtain ⟨a10, b10⟩ := ieq_yes (a := (bA s m).toNat) 10 (by omega)
          have ev : bA s m = 10 := UInt8.toNat_inj.1 (by rw [c10]; rfl)
          have he := Lib.hid (show enc1 (bA s m) = [92, 110] by rw [ev]; rfl)
          have hokb := Lib.hid (show okB (bA s m) = true by rw [ev]; rfl)
          clear ev c10
          go_wp2_with (at_builtin; refine wpList_push2 rfl _ _ rfl w.heap.size wr g2 cap2 L 92 110 _ _ rfl rfl rfl hY.out rfl (by omega) hsz.out ?_; intro g3 cap3 w3 hY3 hb3)
          have HY3 := Lib.hid (show By w.heap.size w3 g3 cap3 (39 :: encL (s.data.toList.take (m + 1))) from by
            rw [hsn.out, hen.out, he.out, ← List.cons_append, HL.out]; exact hY3)
          have HB3 := Lib.hid (hb.out.trans hb3)
          have hlen := Lib.hid (show L.length + 2 = (39 :: encL (s.data.toList.take (m + 1))).length by rw [hsn.out, hen.out, he.out, ← List.cons_append, HL.out, List.length_append]; rfl)
          clear hY3 hb3
          go_wp2
          go_roundg (s.size - (m + 1))
          case measure => omega
          case rel => exact ⟨m + 1, g3, cap3, rfl, by omega, by rw [← hlen.out], by go_num, Lib.hid (by rw [hsn.out, okL_snoc, hok.out, hokb.out]; rfl), HY3, HB3⟩
        obtain ⟨p10, q10⟩ := ieq_no (a := (bA s m).toNat) 10 (by omega)
        by_cases c9 : (bA s m).toNat = 9
        · obtain ⟨a9, b9⟩ := ieq_yes (a := (bA s m).toNat) 9 (by omega)
          have ev : bA s m = 9 := UInt8.toNat_inj.1 (by rw [c9]; rfl)
          have he := Lib.hid (show enc1 (bA s m) = [92, 116] by rw [ev]; rfl)
          have hokb := Lib.hid (show okB (bA s m) = true by rw [ev]; rfl)
          clear ev c10 c9
          go_wp2_with (at_builtin; refine wpList_push2 rfl _ _ rfl w.heap.size wr g2 cap2 L 92 116 _ _ rfl rfl rfl hY.out rfl (by omega) hsz.out ?_; intro g3 cap3 w3 hY3 hb3)
          have HY3 := Lib.hid (show By w.heap.size w3 g3 cap3 (39 :: encL (s.data.toList.take (m + 1))) from by
            rw [hsn.out, hen.out, he.out, ← List.cons_append, HL.out]; exact hY3)
          have HB3 := Lib.hid (hb.out.trans hb3)
          have hlen := Lib.hid (show L.length + 2 = (39 :: encL (s.data.toList.take (m + 1))).length by rw [hsn.out, hen.out, he.out, ← List.cons_append, HL.out, List.length_append]; rfl)
          clear hY3 hb3
          go_wp2
          go_roundg (s.size - (m + 1))
          case measure => omega
          case rel => exact ⟨m + 1, g3, cap3, rfl, by omega, by rw [← hlen.out], by go_num, Lib.hid (by rw [hsn.out, okL_snoc, hok.out, hokb.out]; rfl), HY3, HB3⟩
        obtain ⟨p9, q9⟩ := ieq_no (a := (bA s m).toNat) 9 (by omega)
        by_cases c92 : (bA s m).toNat = 92
        · obtain ⟨a92, b92⟩ := ieq_yes (a := (bA s m).toNat) 92 (by omega)
          have ev : bA s m = 92 := UInt8.toNat_inj.1 (by rw [c92]; rfl)
          have he := Lib.hid (show enc1 (bA s m) = [92, bA s m] by rw [ev]; rfl)
          have hokb := Lib.hid (show okB (bA s m) = true by rw [ev]; rfl)
          clear ev c10 c9 c92
          go_wp2_with (at_builtin; refine wpList_push2 rfl _ _ rfl w.heap.size wr g2 cap2 L 92 (bA s m) _ _ rfl rfl rfl hY.out rfl (by omega) hsz.out ?_; intro g3 cap3 w3 hY3 hb3)
          have HY3 := Lib.hid (show By w.heap.size w3 g3 cap3 (39 :: encL (s.data.toList.take (m + 1))) from by
            rw [hsn.out, hen.out, he.out, ← List.cons_append, HL.out]; exact hY3)
          have HB3 := Lib.hid (hb.out.trans hb3)
          have hlen := Lib.hid (show L.length + 2 = (39 :: encL (s.data.toList.take (m + 1))).length by rw [hsn.out, hen.out, he.out, ← List.cons_append, HL.out, List.length_append]; rfl)
          clear hY3 hb3
          go_wp2
          go_roundg (s.size - (m + 1))
          case measure => omega
          case rel => exact ⟨m + 1, g3, cap3, rfl, by omega, by rw [← hlen.out], by go_num, Lib.hid (by rw [hsn.out, okL_snoc, hok.out, hokb.out]; rfl), HY3, HB3⟩
        obtain ⟨p92, q92⟩ := ieq_no (a := (bA s m).toNat) 92 (by omega)
        by_cases c39 : (bA s m).toNat = 39
        · obtain ⟨a39, b39⟩ := ieq_yes (a := (bA s m).toNat) 39 (by omega)
          have ev : bA s m = 39 := UInt8.toNat_inj.1 (by rw [c39]; rfl)
          have he := Lib.hid (show enc1 (bA s m) = [92, bA s m] by rw [ev]; rfl)
          have hokb := Lib.hid (show okB (bA s m) = true by rw [ev]; rfl)
          clear ev c10 c9 c92 c39
          go_wp2_with (at_builtin; refine wpList_push2 rfl _ _ rfl w.heap.size wr g2 cap2 L 92 (bA s m) _ _ rfl rfl rfl hY.out rfl (by omega) hsz.out ?_; intro g3 cap3 w3 hY3 hb3)
          have HY3 := Lib.hid (show By w.heap.size w3 g3 cap3 (39 :: encL (s.data.toList.take (m + 1))) from by
            rw [hsn.out, hen.out, he.out, ← List.cons_append, HL.out]; exact hY3)
          have HB3 := Lib.hid (hb.out.trans hb3)
          have hlen := Lib.hid (show L.length + 2 = (39 :: encL (s.data.toList.take (m + 1))).length by rw [hsn.out, hen.out, he.out, ← List.cons_append, HL.out, List.length_append]; rfl)
          clear hY3 hb3
          go_wp2
          go_roundg (s.size - (m + 1))
          case measure => omega
          case rel => exact ⟨m + 1, g3, cap3, rfl, by omega, by rw [← hlen.out], by go_num, Lib.hid (by rw [hsn.out, okL_snoc, hok.out, hokb.out]; rfl), HY3, HB3⟩
        obtain ⟨p39, q39⟩ := ieq_no (a := (bA s m).toNat) 39 (by omega)
        by_cases c32 : (bA s m).toNat < 32
        · have t1 : (((bA s m).toNat : Nat) : Int) < 32 := by omega
          have hbad := Lib.hid (show okL s.data.toList = false from okL_no hlt (by
            unfold okB
            simp only [Bool.or_eq_false_iff, Bool.and_eq_false_iff, beq_eq_false_iff_ne, decide_eq_false_iff_not]
            exact ⟨⟨fun e => c10 (by rw [e]; rfl), fun e => c9 (by rw [e]; rfl)⟩, .inl (by omega)⟩))
          clear c10 c9 c92 c39 c32
          go_wp2
          go_ret
          exact ⟨ret_s (by rw [hqs.out, if_neg (by rw [hbad.out]; decide)]), hb.out⟩
        have t1 : ¬ ((((bA s m).toNat : Nat) : Int) < 32) := by omega
        by_cases c126 : 126 < (bA s m).toNat
        · have t2 : (126 : Int) < (((bA s m).toNat : Nat) : Int) := by omega
          have hbad := Lib.hid (show okL s.data.toList = false from okL_no hlt (by
            unfold okB
            simp only [Bool.or_eq_false_iff, Bool.and_eq_false_iff, beq_eq_false_iff_ne, decide_eq_false_iff_not]
            exact ⟨⟨fun e => c10 (by rw [e]; rfl), fun e => c9 (by rw [e]; rfl)⟩, .inr (by omega)⟩))
          clear c10 c9 c92 c39 c32 c126
          go_wp2
          go_ret
          exact ⟨ret_s (by rw [hqs.out, if_neg (by rw [hbad.out]; decide)]), hb.out⟩
        have t2 : ¬ ((126 : Int) < (((bA s m).toNat : Nat) : Int)) := by omega
        have he := Lib.hid (show enc1 (bA s m) = [bA s m] by
          unfold enc1
          rw [if_neg (fun e => c10 (by rw [e]; rfl)), if_neg (fun e => c9 (by rw [e]; rfl)), if_neg]
          rintro (e | e)
          · exact c92 (by rw [e]; rfl)
          · exact c39 (by rw [e]; rfl))
        have hokb := Lib.hid (show okB (bA s m) = true by
          unfold okB
          simp only [Bool.or_eq_true, Bool.and_eq_true, decide_eq_true_eq]
          exact .inr ⟨by omega, by omega⟩)
        clear c10 c9 c92 c39 c32 c126
        go_wp2_with (at_builtin; refine wpList_push1 rfl _ _ rfl w.heap.size wr g2 cap2 L (bA s m) _ rfl rfl hY.out rfl (by omega) hsz.out ?_; intro g3 cap3 w3 hY3 hb3)
        have HY3 := Lib.hid (show By w.heap.size w3 g3 cap3 (39 :: encL (s.data.toList.take (m + 1))) from by
          rw [hsn.out, hen.out, he.out, ← List.cons_append, HL.out]; exact hY3)
        have HB3 := Lib.hid (hb.out.trans hb3)
        have hlen := Lib.hid (show L.length + 1 = (39 :: encL (s.data.toList.take (m + 1))).length by rw [hsn.out, hen.out, he.out, ← List.cons_append, HL.out, List.length_append]; rfl)
        clear hY3 hb3
        go_wp2
        go_roundg (s.size - (m + 1))
        case measure => omega
        case rel => exact ⟨m + 1, g3, cap3, rfl, by omega, by rw [← hlen.out], by go_num, Lib.hid (by rw [hsn.out, okL_snoc, hok.out, hokb.out]; rfl), HY3, HB3⟩
      · have hlt2 : ¬ ((m : Int) < s.size) := by omega
        have htk := Lib.hid (show s.data.toList.take m = s.data.toList from List.take_of_length_le (by simp; omega))
        generalize hL : (39 :: encL (s.data.toList.take m)) = L at *
        have HL := Lib.hid hL
        clear hL
        go_wp2_with (at_builtin; refine wpList_push1 rfl _ _ rfl w.heap.size wr g2 cap2 L 39 _ rfl rfl hY.out rfl (by omega) hsz.out ?_; intro g3 cap3 w3 hY3 hb3; have hcv := hY3.conv; rw [List.length_append, List.length_singleton] at hcv; have HB3 := Lib.hid (hb.out.trans hb3); clear hY3 hb3)
        go_ret
        exact ⟨ret_s (by rw [hqs.out, if_pos (by rw [← htk.out]; exact hok.out), ← HL.out, htk.out]; rfl), HB3.out⟩
  · rw [ho] at hG
    obtain ⟨hT, rfl, rfl⟩ := hG
    clear ho
    obtain ⟨g, cap, rfl, hcap, _, _, hcell⟩ := hT.row (by simp)
    obtain ⟨c0, c1, c2, c3⟩ := hcell 0 (by simp)
    simp only [List.getElem_cons_zero, Nat.zero_mul, Nat.zero_add, List.length_singleton] at c0 c1 c2 c3 hcap
    clear hT hcell
    obtain ⟨a1, a2⟩ := ieq_no (a := t.kind) 1 (by omega)
    clear hk
    go_wp2
    clear a1 a2
    go_loopg [6, 7] s.size (fun k v i wr => ∃ (m g cap : Nat), k = s.size - m ∧ m ≤ s.size ∧ v = .slice (some ⟨g, 0, none⟩) (39 :: encL (s.data.toList.take m)).length cap ∧ i = .int .i64 m ∧ Hid (okL (s.data.toList.take m) = true) ∧ Hid (By w.heap.size wr g cap (39 :: encL (s.data.toList.take m))) ∧ Hid (Below w.heap.size w wr))
    case atStart => exact ⟨0, w1.heap.size, 1, by omega, by omega, rfl, rfl, Lib.hid rfl, hY1, hB1⟩
    case round =>
      clear hY1 hB1 HB
      obtain ⟨m, g2, cap2, hgk, hm, rfl, rfl, hok, hY, hb⟩ := hrel
      have hel : (39 :: encL (s.data.toList.take m)).length ≤ 4097 := by
        have := (encL_len (s.data.toList.take m)).2
        have h2 := List.length_take_le m s.data.toList
        rw [List.length_cons]; omega
      have hsz := Lib.hid hb.out.size
      have hen := Lib.hid (show ∀ b, encL (s.data.toList.take m ++ [b]) = encL (s.data.toList.take m) ++ enc1 b from encL_snoc _)
      by_cases hlt : m < s.size
      · have hlt2 : (m : Int) < s.size := by omega
        have hsn := Lib.hid (take_snoc hlt)
        generalize hL : (39 :: encL (s.data.toList.take m)) = L at *
        have HL := Lib.hid hL
        clear hL
        by_cases c10 : (bA s m).toNat = 10
        · obtain ⟨a10, b10⟩ := ieq_yes (a := (bA s m).toNat) 10 (by omega)
          have ev : bA s m = 10 := UInt8.toNat_inj.1 (by rw [c10]; rfl)
          have he := Lib.hid (show enc1 (bA s m) = [92, 110] by rw [ev]; rfl)
          have hokb := Lib.hid (show okB (bA s m) = true by rw [ev]; rfl)
          clear ev c10
          go_wp2_with (at_builtin; refine wpList_push2 rfl _ _ rfl w.heap.size wr g2 cap2 L 92 110 _ _ rfl rfl rfl hY.out rfl (by omega) hsz.out ?_; intro g3 cap3 w3 hY3 hb3)
          have HY3 := Lib.hid (show By w.heap.size w3 g3 cap3 (39 :: encL (s.data.toList.take (m + 1))) from by
            rw [hsn.out, hen.out, he.out, ← List.cons_append, HL.out]; exact hY3)
          have HB3 := Lib.hid (hb.out.trans hb3)
          have hlen := Lib.hid (show L.length + 2 = (39 :: encL (s.data.toList.take (m + 1))).length by rw [hsn.out, hen.out, he.out, ← List.cons_append, HL.out, List.length_append]; rfl)
          clear hY3 hb3
          go_wp2
          go_roundg (s.size - (m + 1))
          case measure => omega
          case rel => exact ⟨m + 1, g3, cap3, rfl, by omega, by rw [← hlen.out], by go_num, Lib.hid (by rw [hsn.out, okL_snoc, hok.out, hokb.out]; rfl), HY3, HB3⟩
        obtain ⟨p10, q10⟩ := ieq_no (a := (bA s m).toNat) 10 (by omega)
        by_cases c9 : (bA s m).toNat = 9
        · obtain ⟨a9, b9⟩ := ieq_yes (a := (bA s m).toNat) 9 (by omega)
          have ev : bA s m = 9 := UInt8.toNat_inj.1 (by rw [c9]; rfl)
          have he := Lib.hid (show enc1 (bA s m) = [92, 116] by rw [ev]; rfl)
          have hokb := Lib.hid (show okB (bA s m) = true by rw [ev]; rfl)
          clear ev c10 c9
          go_wp2_with (at_builtin; refine wpList_push2 rfl _ _ rfl w.heap.size wr g2 cap2 L 92 116 _ _ rfl rfl rfl hY.out rfl (by omega) hsz.out ?_; intro g3 cap3 w3 hY3 hb3)
          have HY3 := Lib.hid (show By w.heap.size w3 g3 cap3 (39 :: encL (s.data.toList.take (m + 1))) from by
            rw [hsn.out, hen.out, he.out, ← List.cons_append, HL.out]; exact hY3)
          have HB3 := Lib.hid (hb.out.trans hb3)
          have hlen := Lib.hid (show L.length + 2 = (39 :: encL (s.data.toList.take (m + 1))).length by rw [hsn.out, hen.out, he.out, ← List.cons_append, HL.out, List.length_append]; rfl)
          clear hY3 hb3
          go_wp2
          go_roundg (s.size - (m + 1))
          case measure => omega
          case rel => exact ⟨m + 1, g3, cap3, rfl, by omega, by rw [← hlen.out], by go_num, Lib.hid (by rw [hsn.out, okL_snoc, hok.out, hokb.out]; rfl), HY3, HB3⟩
        obtain ⟨p9, q9⟩ := ieq_no (a := (bA s m).toNat) 9 (by omega)
        by_cases c92 : (bA s m).toNat = 92
        · obtain ⟨a92, b92⟩ := ieq_yes (a := (bA s m).toNat) 92 (by omega)
          have ev : bA s m = 92 := UInt8.toNat_inj.1 (by rw [c92]; rfl)
          have he := Lib.hid (show enc1 (bA s m) = [92, bA s m] by rw [ev]; rfl)
          have hokb := Lib.hid (show okB (bA s m) = true by rw [ev]; rfl)
          clear ev c10 c9 c92
          go_wp2_with (at_builtin; refine wpList_push2 rfl _ _ rfl w.heap.size wr g2 cap2 L 92 (bA s m) _ _ rfl rfl rfl hY.out rfl (by omega) hsz.out ?_; intro g3 cap3 w3 hY3 hb3)
          have HY3 := Lib.hid (show By w.heap.size w3 g3 cap3 (39 :: encL (s.data.toList.take (m + 1))) from by
            rw [hsn.out, hen.out, he.out, ← List.cons_append, HL.out]; exact hY3)
          have HB3 := Lib.hid (hb.out.trans hb3)
          have hlen := Lib.hid (show L.length + 2 = (39 :: encL (s.data.toList.take (m + 1))).length by rw [hsn.out, hen.out, he.out, ← List.cons_append, HL.out, List.length_append]; rfl)
          clear hY3 hb3
          go_wp2
          go_roundg (s.size - (m + 1))
          case measure => omega
          case rel => exact ⟨m + 1, g3, cap3, rfl, by omega, by rw [← hlen.out], by go_num, Lib.hid (by rw [hsn.out, okL_snoc, hok.out, hokb.out]; rfl), HY3, HB3⟩
        obtain ⟨p92, q92⟩ := ieq_no (a := (bA s m).toNat) 92 (by omega)
        by_cases c39 : (bA s m).toNat = 39
        · obtain ⟨a39, b39⟩ := ieq_yes (a := (bA s m).toNat) 39 (by omega)
          have ev : bA s m = 39 := UInt8.toNat_inj.1 (by rw [c39]; rfl)
          have he := Lib.hid (show enc1 (bA s m) = [92, bA s m] by rw [ev]; rfl)
          have hokb := Lib.hid (show okB (bA s m) = true by rw [ev]; rfl)
          clear ev c10 c9 c92 c39
          go_wp2_with (at_builtin; refine wpList_push2 rfl _ _ rfl w.heap.size wr g2 cap2 L 92 (bA s m) _ _ rfl rfl rfl hY.out rfl (by omega) hsz.out ?_; intro g3 cap3 w3 hY3 hb3)
          have HY3 := Lib.hid (show By w.heap.size w3 g3 cap3 (39 :: encL (s.data.toList.take (m + 1))) from by
            rw [hsn.out, hen.out, he.out, ← List.cons_append, HL.out]; exact hY3)
          have HB3 := Lib.hid (hb.out.trans hb3)
          have hlen := Lib.hid (show L.length + 2 = (39 :: encL (s.data.toList.take (m + 1))).length by rw [hsn.out, hen.out, he.out, ← List.cons_append, HL.out, List.length_append]; rfl)
          clear hY3 hb3
          go_wp2
          go_roundg (s.size - (m + 1))
          case measure => omega
          case rel => exact ⟨m + 1, g3, cap3, rfl, by omega, by rw [← hlen.out], by go_num, Lib.hid (by rw [hsn.out, okL_snoc, hok.out, hokb.out]; rfl), HY3, HB3⟩
        obtain ⟨p39, q39⟩ := ieq_no (a := (bA s m).toNat) 39 (by omega)
        by_cases c32 : (bA s m).toNat < 32
        · have t1 : (((bA s m).toNat : Nat) : Int) < 32 := by omega
          have hbad := Lib.hid (show okL s.data.toList = false from okL_no hlt (by
            unfold okB
            simp only [Bool.or_eq_false_iff, Bool.and_eq_false_iff, beq_eq_false_iff_ne, decide_eq_false_iff_not]
            exact ⟨⟨fun e => c10 (by rw [e]; rfl), fun e => c9 (by rw [e]; rfl)⟩, .inl (by omega)⟩))
          clear c10 c9 c92 c39 c32
          go_wp2
          go_ret
          exact ⟨ret_s (by rw [hqs.out, if_neg (by rw [hbad.out]; decide)]), hb.out⟩
        have t1 : ¬ ((((bA s m).toNat : Nat) : Int) < 32) := by omega
        by_cases c126 : 126 < (bA s m).toNat
        · have t2 : (126 : Int) < (((bA s m).toNat : Nat) : Int) := by omega
          have hbad := Lib.hid (show okL s.data.toList = false from okL_no hlt (by
            unfold okB
            simp only [Bool.or_eq_false_iff, Bool.and_eq_false_iff, beq_eq_false_iff_ne, decide_eq_false_iff_not]
            exact ⟨⟨fun e => c10 (by rw [e]; rfl), fun e => c9 (by rw [e]; rfl)⟩, .inr (by omega)⟩))
          clear c10 c9 c92 c39 c32 c126
          go_wp2
          go_ret
          exact ⟨ret_s (by rw [hqs.out, if_neg (by rw [hbad.out]; decide)]), hb.out⟩
        have t2 : ¬ ((126 : Int) < (((bA s m).toNat : Nat) : Int)) := by omega
        have he := Lib.hid (show enc1 (bA s m) = [bA s m] by
          unfold enc1
          rw [if_neg (fun e => c10 (by rw [e]; rfl)), if_neg (fun e => c9 (by rw [e]; rfl)), if_neg]
          rintro (e | e)
          · exact c92 (by rw [e]; rfl)
          · exact c39 (by rw [e]; rfl))
        have hokb := Lib.hid (show okB (bA s m) = true by
          unfold okB
          simp only [Bool.or_eq_true, Bool.and_eq_true, decide_eq_true_eq]
          exact .inr ⟨by omega, by omega⟩)
        clear c10 c9 c92 c39 c32 c126
        go_wp2_with (at_builtin; refine wpList_push1 rfl _ _ rfl w.heap.size wr g2 cap2 L (bA s m) _ rfl rfl hY.out rfl (by omega) hsz.out ?_; intro g3 cap3 w3 hY3 hb3)
        have HY3 := Lib.hid (show By w.heap.size w3 g3 cap3 (39 :: encL (s.data.toList.take (m + 1))) from by
          rw [hsn.out, hen.out, he.out, ← List.cons_append, HL.out]; exact hY3)
        have HB3 := Lib.hid (hb.out.trans hb3)
        have hlen := Lib.hid (show L.length + 1 = (39 :: encL (s.data.toList.take (m + 1))).length by rw [hsn.out, hen.out, he.out, ← List.cons_append, HL.out, List.length_append]; rfl)
        clear hY3 hb3
        go_wp2
        go_roundg (s.size - (m + 1))
        case measure => omega
        case rel => exact ⟨m + 1, g3, cap3, rfl, by omega, by rw [← hlen.out], by go_num, Lib.hid (by rw [hsn.out, okL_snoc, hok.out, hokb.out]; rfl), HY3, HB3⟩
      · have hlt2 : ¬ ((m : Int) < s.size) := by omega
        have htk := Lib.hid (show s.data.toList.take m = s.data.toList from List.take_of_length_le (by simp; omega))
        generalize hL : (39 :: encL (s.data.toList.take m)) = L at *
        have HL := Lib.hid hL
        clear hL
        go_wp2_with (at_builtin; refine wpList_push1 rfl _ _ rfl w.heap.size wr g2 cap2 L 39 _ rfl rfl hY.out rfl (by omega) hsz.out ?_; intro g3 cap3 w3 hY3 hb3; have hcv := hY3.conv; rw [List.length_append, List.length_singleton] at hcv; have HB3 := Lib.hid (hb.out.trans hb3); clear hY3 hb3)
        go_ret
        exact ⟨ret_s (by rw [hqs.out, if_pos (by rw [← htk.out]; exact hok.out), ← HL.out, htk.out]; rfl), HB3.out⟩
  · rw [ho] at hG
    obtain ⟨hT, rfl, rfl⟩ := hG
    clear ho
    obtain ⟨g, cap, rfl, hcap, _, _, hcell⟩ := hT.row (by simp)
    obtain ⟨c0, c1, c2, c3⟩ := hcell 0 (by simp)
    simp only [List.getElem_cons_zero, Nat.zero_mul, Nat.zero_add, List.length_singleton] at c0 c1 c2 c3 hcap
    clear hT hcell
    obtain ⟨a1, a2⟩ := ieq_yes (a := t.kind) 1 (by omega)
    have x1 : (t.text == s.toList) = false := by rw [ByteArray.toList_eq]; simpa using ht
    clear hk ht
    go_wp2
    clear a1 a2
    go_loopg [6, 7] s.size (fun k v i wr => ∃ (m g cap : Nat), k = s.size - m ∧ m ≤ s.size ∧ v = .slice (some ⟨g, 0, none⟩) (39 :: encL (s.data.toList.take m)).length cap ∧ i = .int .i64 m ∧ Hid (okL (s.data.toList.take m) = true) ∧ Hid (By w.heap.size wr g cap (39 :: encL (s.data.toList.take m))) ∧ Hid (Below w.heap.size w wr))
    case atStart => exact ⟨0, w1.heap.size, 1, by omega, by omega, rfl, rfl, Lib.hid rfl, hY1, hB1⟩
    case round =>
      clear hY1 hB1 HB
      obtain ⟨m, g2, cap2, hgk, hm, rfl, rfl, hok, hY, hb⟩ := hrel
      have hel : (39 :: encL (s.data.toList.take m)).length ≤ 4097 := by
        have := (encL_len (s.data.toList.take m)).2
        have h2 := List.length_take_le m s.data.toList
        rw [List.length_cons]; omega
      have hsz := Lib.hid hb.out.size
      have hen := Lib.hid (show ∀ b, encL (s.data.toList.take m ++ [b]) = encL (s.data.toList.take m) ++ enc1 b from encL_snoc _)
      by_cases hlt : m < s.size
      · have hlt2 : (m : Int) < s.size := by omega
        have hsn := Lib.hid (take_snoc hlt)
        generalize hL : (39 :: encL (s.data.toList.take m)) = L at *
        have HL := Lib.hid hL
        clear hL
        by_cases c10 : (bA s m).toNat = 10
        · obtain ⟨a10, b10⟩ := ieq_yes (a := (bA s m).toNat) 10 (by omega)
          have ev : bA s m = 10 := UInt8.toNat_inj.1 (by rw [c10]; rfl)
          have he := Lib.hid (show enc1 (bA s m) = [92, 110] by rw [ev]; rfl)
          have hokb := Lib.hid (show okB (bA s m) = true by rw [ev]; rfl)
          clear ev c10
          go_wp2_with (at_builtin; refine wpList_push2 rfl _ _ rfl w.heap.size wr g2 cap2 L 92 110 _ _ rfl rfl rfl hY.out rfl (by omega) hsz.out ?_; intro g3 cap3 w3 hY3 hb3)
          have HY3 := Lib.hid (show By w.heap.size w3 g3 cap3 (39 :: encL (s.data.toList.take (m + 1))) from by
            rw [hsn.out, hen.out, he.out, ← List.cons_append, HL.out]; exact hY3)
          have HB3 := Lib.hid (hb.out.trans hb3)
          have hlen := Lib.hid (show L.length + 2 = (39 :: encL (s.data.toList.take (m + 1))).length by rw [hsn.out, hen.out, he.out, ← List.cons_append, HL.out, List.length_append]; rfl)
          clear hY3 hb3
          go_wp2
          go_roundg (s.size - (m + 1))
          case measure => omega
          case rel => exact ⟨m + 1, g3, cap3, rfl, by omega, by rw [← hlen.out], by go_num, Lib.hid (by rw [hsn.out, okL_snoc, hok.out, hokb.out]; rfl), HY3, HB3⟩
        obtain ⟨p10, q10⟩ := ieq_no (a := (bA s m).toNat) 10 (by omega)
        by_cases c9 : (bA s m).toNat = 9
        · obtain ⟨a9, b9⟩ := ieq_yes (a := (bA s m).toNat) 9 (by omega)
          have ev : bA s m = 9 := UInt8.toNat_inj.1 (by rw [c9]; rfl)
          have he := Lib.hid (show enc1 (bA s m) = [92, 116] by rw [ev]; rfl)
          have hokb := Lib.hid (show okB (bA s m) = true by rw [ev]; rfl)
          clear ev c10 c9
          go_wp2_with (at_builtin; refine wpList_push2 rfl _ _ rfl w.heap.size wr g2 cap2 L 92 116 _ _ rfl rfl rfl hY.out rfl (by omega) hsz.out ?_; intro g3 cap3 w3 hY3 hb3)
          have HY3 := Lib.hid (show By w.heap.size w3 g3 cap3 (39 :: encL (s.data.toList.take (m + 1))) from by
            rw [hsn.out, hen.out, he.out, ← List.cons_append, HL.out]; exact hY3)
          have HB3 := Lib.hid (hb.out.trans hb3)
          have hlen := Lib.hid (show L.length + 2 = (39 :: encL (s.data.toList.take (m + 1))).length by rw [hsn.out, hen.out, he.out, ← List.cons_append, HL.out, List.length_append]; rfl)
          clear hY3 hb3
          go_wp2
          go_roundg (s.size - (m + 1))
          case measure => omega
          case rel => exact ⟨m + 1, g3, cap3, rfl, by omega, by rw [← hlen.out], by go_num, Lib.hid (by rw [hsn.out, okL_snoc, hok.out, hokb.out]; rfl), HY3, HB3⟩
        obtain ⟨p9, q9⟩ := ieq_no (a := (bA s m).toNat) 9 (by omega)
        by_cases c92 : (bA s m).toNat = 92
        · obtain ⟨a92, b92⟩ := ieq_yes (a := (bA s m).toNat) 92 (by omega)
          have ev : bA s m = 92 := UInt8.toNat_inj.1 (by rw [c92]; rfl)
          have he := Lib.hid (show enc1 (bA s m) = [92, bA s m] by rw [ev]; rfl)
          have hokb := Lib.hid (show okB (bA s m) = true by rw [ev]; rfl)
          clear ev c10 c9 c92
          go_wp2_with (at_builtin; refine wpList_push2 rfl _ _ rfl w.heap.size wr g2 cap2 L 92 (bA s m) _ _ rfl rfl rfl hY.out rfl (by omega) hsz.out ?_; intro g3 cap3 w3 hY3 hb3)
          have HY3 := Lib.hid (show By w.heap.size w3 g3 cap3 (39 :: encL (s.data.toList.take (m + 1))) from by
            rw [hsn.out, hen.out, he.out, ← List.cons_append, HL.out]; exact hY3)
          have HB3 := Lib.hid (hb.out.trans hb3)
          have hlen := Lib.hid (show L.length + 2 = (39 :: encL (s.data.toList.take (m + 1))).length by rw [hsn.out, hen.out, he.out, ← List.cons_append, HL.out, List.length_append]; rfl)
          clear hY3 hb3
          go_wp2
          go_roundg (s.size - (m + 1))
          case measure => omega
          case rel => exact ⟨m + 1, g3, cap3, rfl, by omega, by rw [← hlen.out], by go_num, Lib.hid (by rw [hsn.out, okL_snoc, hok.out, hokb.out]; rfl), HY3, HB3⟩
        obtain ⟨p92, q92⟩ := ieq_no (a := (bA s m).toNat) 92 (by omega)
        by_cases c39 : (bA s m).toNat = 39
        · obtain ⟨a39, b39⟩ := ieq_yes (a := (bA s m).toNat) 39 (by omega)
          have ev : bA s m = 39 := UInt8.toNat_inj.1 (by rw [c39]; rfl)
          have he := Lib.hid (show enc1 (bA s m) = [92, bA s m] by rw [ev]; rfl)
          have hokb := Lib.hid (show okB (bA s m) = true by rw [ev]; rfl)
          clear ev c10 c9 c92 c39
          go_wp2_with (at_builtin; refine wpList_push2 rfl _ _ rfl w.heap.size wr g2 cap2 L 92 (bA s m) _ _ rfl rfl rfl hY.out rfl (by omega) hsz.out ?_; intro g3 cap3 w3 hY3 hb3)
          have HY3 := Lib.hid (show By w.heap.size w3 g3 cap3 (39 :: encL (s.data.toList.take (m + 1))) from by
            rw [hsn.out, hen.out, he.out, ← List.cons_append, HL.out]; exact hY3)
          have HB3 := Lib.hid (hb.out.trans hb3)
          have hlen := Lib.hid (show L.length + 2 = (39 :: encL (s.data.toList.take (m + 1))).length by rw [hsn.out, hen.out, he.out, ← List.cons_append, HL.out, List.length_append]; rfl)
          clear hY3 hb3
          go_wp2
          go_roundg (s.size - (m + 1))
          case measure => omega
          case rel => exact ⟨m + 1, g3, cap3, rfl, by omega, by rw [← hlen.out], by go_num, Lib.hid (by rw [hsn.out, okL_snoc, hok.out, hokb.out]; rfl), HY3, HB3⟩
        obtain ⟨p39, q39⟩ := ieq_no (a := (bA s m).toNat) 39 (by omega)
        by_cases c32 : (bA s m).toNat < 32
        · have t1 : (((bA s m).toNat : Nat) : Int) < 32 := by omega
          have hbad := Lib.hid (show okL s.data.toList = false from okL_no hlt (by
            unfold okB
            simp only [Bool.or_eq_false_iff, Bool.and_eq_false_iff, beq_eq_false_iff_ne, decide_eq_false_iff_not]
            exact ⟨⟨fun e => c10 (by rw [e]; rfl), fun e => c9 (by rw [e]; rfl)⟩, .inl (by omega)⟩))
          clear c10 c9 c92 c39 c32
          go_wp2
          go_ret
          exact ⟨ret_s (by rw [hqs.out, if_neg (by rw [hbad.out]; decide)]), hb.out⟩
        have t1 : ¬ ((((bA s m).toNat : Nat) : Int) < 32) := by omega
        by_cases c126 : 126 < (bA s m).toNat
        · have t2 : (126 : Int) < (((bA s m).toNat : Nat) : Int) := by omega
          have hbad := Lib.hid (show okL s.data.toList = false from okL_no hlt (by
            unfold okB
            simp only [Bool.or_eq_false_iff, Bool.and_eq_false_iff, beq_eq_false_iff_ne, decide_eq_false_iff_not]
            exact ⟨⟨fun e => c10 (by rw [e]; rfl), fun e => c9 (by rw [e]; rfl)⟩, .inr (by omega)⟩))
          clear c10 c9 c92 c39 c32 c126
          go_wp2
          go_ret
          exact ⟨ret_s (by rw [hqs.out, if_neg (by rw [hbad.out]; decide)]), hb.out⟩
        have t2 : ¬ ((126 : Int) < (((bA s m).toNat : Nat) : Int)) := by omega
        have he := Lib.hid (show enc1 (bA s m) = [bA s m] by
          unfold enc1
          rw [if_neg (fun e => c10 (by rw [e]; rfl)), if_neg (fun e => c9 (by rw [e]; rfl)), if_neg]
          rintro (e | e)
          · exact c92 (by rw [e]; rfl)
          · exact c39 (by rw [e]; rfl))
        have hokb := Lib.hid (show okB (bA s m) = true by
          unfold okB
          simp only [Bool.or_eq_true, Bool.and_eq_true, decide_eq_true_eq]
          exact .inr ⟨by omega, by omega⟩)
        clear c10 c9 c92 c39 c32 c126
        go_wp2_with (at_builtin; refine wpList_push1 rfl _ _ rfl w.heap.size wr g2 cap2 L (bA s m) _ rfl rfl hY.out rfl (by omega) hsz.out ?_; intro g3 cap3 w3 hY3 hb3)
        have HY3 := Lib.hid (show By w.heap.size w3 g3 cap3 (39 :: encL (s.data.toList.take (m + 1))) from by
          rw [hsn.out, hen.out, he.out, ← List.cons_append, HL.out]; exact hY3)
        have HB3 := Lib.hid (hb.out.trans hb3)
        have hlen := Lib.hid (show L.length + 1 = (39 :: encL (s.data.toList.take (m + 1))).length by rw [hsn.out, hen.out, he.out, ← List.cons_append, HL.out, List.length_append]; rfl)
        clear hY3 hb3
        go_wp2
        go_roundg (s.size - (m + 1))
        case measure => omega
        case rel => exact ⟨m + 1, g3, cap3, rfl, by omega, by rw [← hlen.out], by go_num, Lib.hid (by rw [hsn.out, okL_snoc, hok.out, hokb.out]; rfl), HY3, HB3⟩
      · have hlt2 : ¬ ((m : Int) < s.size) := by omega
        have htk := Lib.hid (show s.data.toList.take m = s.data.toList from List.take_of_length_le (by simp; omega))
        generalize hL : (39 :: encL (s.data.toList.take m)) = L at *
        have HL := Lib.hid hL
        clear hL
        go_wp2_with (at_builtin; refine wpList_push1 rfl _ _ rfl w.heap.size wr g2 cap2 L 39 _ rfl rfl hY.out rfl (by omega) hsz.out ?_; intro g3 cap3 w3 hY3 hb3; have hcv := hY3.conv; rw [List.length_append, List.length_singleton] at hcv; have HB3 := Lib.hid (hb.out.trans hb3); clear hY3 hb3)
        go_ret
        exact ⟨ret_s (by rw [hqs.out, if_pos (by rw [← htk.out]; exact hok.out), ← HL.out, htk.out]; rfl), HB3.out⟩
theorem rquote_c (s : ByteArray) (w : World) (hq : Qn s.data.toList) :
    Calls Try.prog 38 #[.string s] w fun e w' => e = .returned (.string ⟨(quoteS s.data.toList).toArray⟩) ∧ Below w.heap.size w w' := by
  have hz : s.data.toList.length = s.size := by simp
  cases h1 : isOne s.data.toList (toks s.data.toList) with
  | true => exact rquote_yes s w (by rcases hq with h | ⟨h, _⟩ <;> omega) h1
  | false =>
    refine rquote_no s w ?_ h1
    rcases hq with h | ⟨_, h⟩
    · omega
    · rw [h1] at h; cases h
end Go.Proofs.Ytpihmockcjdafaa.lx
end
section
/- The law's same: whether two rows of tokens are one. -/
namespace Go.Proofs.Ytpihmockcjdafaa.lx
open Go.RowKit

theorem tok_neq (a b : Tok) (w : World) :
    (binOp .neq 48 (.agg #[.int .i64 (a.kind : Nat), .string ⟨a.text.toArray⟩, .int .i64 (a.frm : Nat), .int .i64 (a.to : Nat)]) (.agg #[.int .i64 (b.kind : Nat), .string ⟨b.text.toArray⟩, .int .i64 (b.frm : Nat), .int .i64 (b.to : Nat)])).run Try.prog w = .ok (.bool (!decide (a = b))) w := by
  rw [run_neq_struct, run_equalIn_agg w 9999 48 _ _ (by kernel_rfl) (by kernel_rfl)]
  simp [go_sem, Try.underlying48]
  obtain ⟨k, x, f, e⟩ := a
  obtain ⟨k', x', f', e'⟩ := b
  simp only [Tok.mk.injEq]
  by_cases h1 : k = k'
  · by_cases h2 : x = x'
    · by_cases h3 : f = f'
      · by_cases h4 : e = e'
        · simp [h1, h2, h3, h4]
        · have : (e : Int) ≠ e' := by omega
          simp [h1, h2, h3, h4, this]
      · have : (f : Int) ≠ f' := by omega
        simp [h1, h2, h3, this]
    · simp [h1, h2]
  · have : (k : Int) ≠ k' := by omega
    simp [h1, this]

/-- what same is asked of: a slice that holds these tokens -/
def Row (w : World) (v : Value) (ts : List Tok) : Prop := ∃ B, Tk B w v ts
theorem Row.of {B : Nat} {w : World} {v : Value} {ts : List Tok} (h : Tk B w v ts) : Row w v ts := ⟨B, h⟩
theorem take_eq_snoc {a b : List Tok} {m : Nat} (ha : m < a.length) (hb : m < b.length) (h : a.take m = b.take m) (he : a[m] = b[m]) : a.take (m + 1) = b.take (m + 1) := by
  rw [List.take_succ_eq_append_getElem ha, List.take_succ_eq_append_getElem hb, h, he]

end Go.Proofs.Ytpihmockcjdafaa.lx
end
section
/- What the laws lean on: both Tokens, as tokens, place and error. -/
namespace Go.Proofs.Ytpihmockcjdafaa.lx
open Go.RowKit

def outToks : Out → List Tok
  | .ok ts => ts
  | .bad _ _ => []
def outP : Out → Nat
  | .ok _ => 0
  | .bad p _ => p
def outE : Out → Nat
  | .ok _ => 0
  | .bad _ e => e
/-- the answer o, in memory of its own: tokens, place, error -/
def ToksQ (o : Out) (w : World) (e : Ending) (w' : World) : Prop :=
  ∃ v, e = .returned (.tuple #[v, .int .i64 (outP o : Nat), .int .i64 (outE o : Nat)]) ∧ Tk w.heap.size w' v (outToks o) ∧ Below w.heap.size w w'
theorem toksQ {o : Out} {w : World} {e : Ending} {w' : World} (h : ToksP o w e w') : ToksQ o w e w' := by
  obtain ⟨v, p, k, rfl, hG, hb⟩ := h
  cases o with
  | ok ts => obtain ⟨h1, rfl, rfl⟩ := hG; exact ⟨v, rfl, h1, hb⟩
  | bad q j => obtain ⟨rfl, rfl, rfl⟩ := hG; exact ⟨_, rfl, Tk.nil _ _, hb⟩
/-- lex's Tokens -/
theorem ltoks (s : ByteArray) (w : World) (hg : GM w) (hz : s.size ≤ 9223372036854775807) : Calls Try.prog 59 #[.string s] w (ToksQ (toksD s.data.toList) w) :=
  (tokens_c s w hg hz).mono fun _ _ h => toksQ h
set_option maxRecDepth 100000 in
/-- the reference: Tokens -/
theorem rtoks (s : ByteArray) (w : World) (hz : s.size ≤ 9223372036854775807) : Calls Try.prog 19 #[.string s] w (ToksQ (toksD s.data.toList) w) := by
  have hl : s.data.toList.length = s.size := by simp
  unfold toksD
  rw [hl]
  by_cases hs : s.size > 4096
  · rw [if_pos hs]
    clear hl
    go_enter Try.func19, Try.ntmps19
    go_wp2
    go_ret3
    exact ⟨_, rfl, Tk.nil _ _, Below.refl _ _⟩
  · rw [if_neg hs]
    exact (rtoks_c s w (by omega)).mono fun _ _ h => toksQ h
/-- no more tokens than there may be -/
theorem step_many {ts ts' : List Tok} {n : Nat} {b : UInt8} {m m' : Mode} (h : step 1000 ts n b m = .go ts' m') (hl : ts.length + pend m ≤ 1000) : ts'.length + pend m' ≤ 1000 := by
  have hop : ∀ (T : List Tok), opening T n b = .go ts' m' → T.length < 1000 → ts'.length + pend m' ≤ 1000 := fun T ho hT => by
    unfold opening at ho
    repeat' split at ho
    all_goals (cases ho; simp [pend]; omega)
  have hst : ∀ (T : List Tok), start 1000 T n b = .go ts' m' → T.length ≤ 1000 → ts'.length + pend m' ≤ 1000 := fun T hs hT => by
    unfold start at hs
    split at hs
    · cases hs; simpa [pend] using hT
    split at hs
    · cases hs; simpa [pend] using hT
    split at hs
    · cases hs; simpa [pend] using hT
    split at hs
    · cases hs
    split at hs
    · cases hs
    · exact hop T hs (by omega)
  have hsn : ∀ (t : Tok), ts.length + 1 ≤ 1000 → start 1000 (ts ++ [t]) n b = .go ts' m' → ts'.length + pend m' ≤ 1000 := fun t h1 hs => hst _ hs (by simpa using h1)
  cases m with
  | btw => exact hst ts h (by simpa [pend] using hl)
  | line => simp only [step] at h; split at h <;> cases h <;> simpa [pend] using hl
  | slash f =>
    simp only [step] at h
    simp only [pend] at hl
    split at h
    · cases h; simpa [pend] using hl
    split at h
    · cases h
    split at h
    · cases h; simp [pend]; omega
    · exact hsn _ (by omega) h
  | dot f =>
    simp only [step] at h
    split at h
    · cases h; exact hl
    · exact hsn _ hl h
  | rem f => simp only [step] at h; split at h <;> cases h <;> simpa [pend] using hl
  | star f => simp only [step] at h; (repeat' split at h) <;> cases h <;> simpa [pend] using hl
  | word c f acc =>
    simp only [step] at h
    split at h
    · cases h; exact hl
    · exact hsn _ hl h
  | quo f acc => simp only [step] at h; (repeat' split at h) <;> cases h <;> exact hl
  | quoq f acc =>
    simp only [step] at h
    split at h
    · cases h; exact hl
    · exact hsn _ hl h
  | esc f acc => simp only [step] at h; (repeat' split at h) <;> cases h <;> exact hl
theorem ans_many {out : List Tok} : ∀ (l : List UInt8) (ts : List Tok) (n : Nat) (m : Mode), ts.length + pend m ≤ 1000 → ans 1000 l ts n m = .ok out → out.length ≤ 1000 := by
  intro l
  induction l with
  | nil =>
    intro ts n m hl h
    cases m <;> simp only [ans_nil, fin] at h
    case slash f =>
      split at h <;> cases h
      simp [pend] at hl; simp; omega
    all_goals first | (cases h; done) | (cases h; simpa [pend] using hl)
  | cons b l ih =>
    intro ts n m hl h
    rw [ans_cons] at h
    cases hs : step 1000 ts n b m with
    | go ts' m' => rw [hs] at h; exact ih _ _ _ (step_many hs hl) h
    | bad p e => rw [hs] at h; cases h
theorem outToks_len (l : List UInt8) : (outToks (toksD l)).length ≤ 1000 := by
  unfold toksD
  split
  · exact Nat.zero_le _
  · unfold toks
    cases h : ans 1000 l [] 0 .btw with
    | ok ts => exact ans_many l [] 0 .btw (by simp [pend]) h
    | bad p e => exact Nat.zero_le _
theorem outToks_pl (l : List UInt8) : PlAll l (outToks (toksD l)) := by
  unfold toksD
  split
  · exact plAll_nil l
  · unfold toks
    cases h : ans 1000 l [] 0 .btw with
    | ok ts => exact places h
    | bad p e => exact plAll_nil l
theorem outE_toks (l : List UInt8) : outE (toksD l) = 0 ∨ (outToks (toksD l)).length = 0 := by
  cases toksD l with
  | ok ts => exact .inl rfl
  | bad p e => exact .inr rfl
end Go.Proofs.Ytpihmockcjdafaa.lx
end
section
/- LexQuotes: its walk. -/
namespace Go.Proofs.Ytpihmockcjdafaa.lx
open Go.RowKit

theorem toksD_small {l : List UInt8} (h : l.length ≤ 4096) : toksD l = toks l := by unfold toksD; rw [if_neg (by omega)]

end Go.Proofs.Ytpihmockcjdafaa.lx
end
section
/- LexBetween: its walk. -/
namespace Go.Proofs.Ytpihmockcjdafaa.lx
open Go.RowKit

theorem Tk.cut {B : Nat} {w : World} {a : Option Addr} {cap : Nat} {ts : List Tok} (h : Tk B w (.slice a ts.length cap) ts) {k : Nat} (hk : k ≤ ts.length) : Tk B w (.slice a k cap) (ts.take k) := by
  have hl : (ts.take k).length = k := by rw [List.length_take]; omega
  have ht : tcells (ts.take k) = (tcells ts).take (k * 4) := by
    have h1 := tcells_append (ts.take k) (ts.drop k)
    rw [List.take_append_drop] at h1
    have h2 : (tcells (ts.take k)).length = k * 4 := by rw [tcells_len, hl]
    rw [h1, ← h2, List.take_left]
  unfold Tk
  rw [hl]
  refine ⟨by rw [tcells_len, hl], ?_⟩
  rcases h.2 with ⟨h1, h2⟩ | ⟨g, cap', cur, h1, h2, h3, h4, h5, h6, h7⟩
  · left
    simp at h1
    obtain ⟨rfl, _, rfl⟩ := h1
    have : k = 0 := by omega
    subst this
    exact ⟨rfl, rfl⟩
  · right
    simp at h1
    obtain ⟨rfl, rfl⟩ := h1
    refine ⟨g, cap, cur, rfl, h2, h3, by omega, h5, h6, ?_⟩
    rw [ht, ← h7, List.take_take, Nat.min_eq_left (by omega)]
theorem oT_ok (ts : List Tok) : outToks (.ok ts) = ts := rfl
theorem oE_ok (ts : List Tok) : outE (.ok ts) = 0 := rfl
theorem oP_ok (ts : List Tok) : outP (.ok ts) = 0 := rfl
theorem outE_ok {l : List UInt8} (h : outE (toksD l) = 0) : ∃ A, toksD l = .ok A := by
  cases ho : toksD l with
  | ok A => exact ⟨A, rfl⟩
  | bad p e =>
    rw [ho] at h
    exfalso
    unfold toksD at ho
    split at ho
    · cases ho; exact absurd h (by decide)
    · exact ans_err _ _ _ _ _ _ ho h
theorem cat_data (a b : ByteArray) : (a ++ b).data.toList = a.data.toList ++ b.data.toList := by
  show (a.append b).data.toList = _
  simp

end Go.Proofs.Ytpihmockcjdafaa.lx
end
