/- The reference: Quote. -/
import Derived.Test.YtdcggedggngpoaaQt
import Derived.Test.YtdcggedggngpoaaRfV
namespace Go.Proofs.Ytdcggedggngpoaa.lx
open Go.RowKit

theorem start_err {M : Nat} {ts : List Tok} {n p e : Nat} {b : UInt8} (h : start M ts n b = .bad p e) : e ≠ 0 := by
  unfold start at h
  repeat' split at h
  all_goals first | (cases h; done) | (cases h; decide) | (obtain ⟨a, c, hc⟩ := opening_go ts n b; rw [hc] at h; cases h)
theorem step_err {M : Nat} {ts : List Tok} {n p e : Nat} {b : UInt8} {m : Mode} (h : step M ts n b m = .bad p e) : e ≠ 0 := by
  cases m <;> simp only [step] at h
  case btw => exact start_err h
  all_goals (repeat' split at h)
  all_goals first | exact start_err h | (cases h; done) | (cases h; decide)
theorem ans_err {M : Nat} : ∀ (l : List UInt8) (ts : List Tok) (n : Nat) (m : Mode) (p e : Nat), ans M l ts n m = .bad p e → e ≠ 0 := by
  intro l
  induction l with
  | nil =>
    intro ts n m p e h
    cases m <;> simp only [ans_nil, fin] at h
    case slash f => split at h <;> cases h; decide
    all_goals first | (cases h; done) | (cases h; decide)
  | cons b l ih =>
    intro ts n m p e h
    rw [ans_cons] at h
    cases hs : step M ts n b m with
    | go ts' m' => rw [hs] at h; exact ih _ _ _ _ _ h
    | bad q j => rw [hs] at h; cases h; exact step_err hs
theorem okL_snoc (l : List UInt8) (b : UInt8) : okL (l ++ [b]) = (okL l && okB b) := by simp [okL]
theorem okL_no {s : ByteArray} {m : Nat} (hm : m < s.size) (h : okB (bA s m) = false) : okL s.data.toList = false := by
  have hz : s.data.toList.length = s.size := by simp
  have e : bA s m = s.data.toList[m]'(by omega) := by
    unfold bA; rw [List.getD_eq_getElem?_getD, List.getElem?_eq_getElem (by omega)]; rfl
  cases hok : okL s.data.toList with
  | false => rfl
  | true =>
    have := List.all_eq_true.1 hok _ (List.getElem_mem (show m < s.data.toList.length by omega))
    rw [← e, h] at this; cases this
theorem take_snoc {s : ByteArray} {m : Nat} (hlt : m < s.size) : s.data.toList.take (m + 1) = s.data.toList.take m ++ [bA s m] := by
  have hz : s.data.toList.length = s.size := by simp
  rw [List.take_succ_eq_append_getElem (by omega)]
  unfold bA
  rw [List.getD_eq_getElem?_getD, List.getElem?_eq_getElem (by omega)]; rfl

set_option maxRecDepth 100000 in
set_option maxHeartbeats 1000000 in
theorem rquote_yes (s : ByteArray) (w : World) (hs : s.size ≤ 1024) (h1 : isOne s.data.toList (toks s.data.toList) = true) :
    Calls Try.prog 12 #[.string s] w fun e w' => e = .returned (.string ⟨(quoteS s.data.toList).toArray⟩) ∧ Below w.heap.size w w' := by
  have hgt := get_bA s
  have hz : s.data.toList.length = s.size := by simp
  have hq := Lib.hid (show (⟨(quoteS s.data.toList).toArray⟩ : ByteArray) = s by unfold quoteS; rw [if_pos h1])
  obtain ⟨f, n, hf⟩ := isOne_iff h1
  obtain ⟨rfl, rfl, h39⟩ := self_atom hf
  have hpos : 0 < s.size := by
    have := (places hf 0 (by simp)).2.1
    simp only [List.getElem_cons_zero] at this; omega
  have n39 : (bA s 0).toNat ≠ 39 := fun e => h39 (UInt8.toNat_inj.1 (by
    have : bA s 0 = s.data.toList.getD 0 0 := rfl
    rw [← this, e]; rfl))
  obtain ⟨a1, a2⟩ := ieq_no (a := (bA s 0).toNat) 39 (by omega)
  have kt := rtoks_c s w (by omega)
  rw [hf] at kt
  have x1 : (s.data.toList == s.toList) = true := by rw [ByteArray.toList_eq]; simp
  rw [hz] at kt
  clear hf h1 h39 n39 hz
  go_enter Try.func12, Try.ntmps12
  go_wp2_with fail
  refine kt.mono ?_
  rintro e w1 ⟨v, p, k, rfl, ⟨hT, rfl, rfl⟩, hb⟩
  obtain ⟨g, cap, rfl, hcap, _, _, hcell⟩ := hT.row (by simp)
  obtain ⟨c0, c1, c2, c3⟩ := hcell 0 (by simp)
  simp only [List.getElem_cons_zero, Nat.zero_mul, Nat.zero_add, List.length_singleton] at c0 c1 c2 c3 hcap
  have HB := Lib.hid hb
  clear hb hT kt hcell
  go_wp2
  go_ret
  exact ⟨ret_s hq.out.symm, HB.out⟩

set_option maxRecDepth 100000 in
set_option maxHeartbeats 8000000 in
theorem rquote_no (s : ByteArray) (w : World) (hs : s.size ≤ 1024) (h1 : isOne s.data.toList (toks s.data.toList) = false) :
    Calls Try.prog 12 #[.string s] w fun e w' => e = .returned (.string ⟨(quoteS s.data.toList).toArray⟩) ∧ Below w.heap.size w w' := by
  have hgt := get_bA s
  have hqs : Hid (quoteS s.data.toList = if okL s.data.toList = true then inQ s.data.toList else []) := Lib.hid (by unfold quoteS; rw [if_neg (by rw [h1]; decide)])
  have kt := rtoks_c s w (by omega)
  have hcase : (∃ p k, toks s.data.toList = .bad p k ∧ k ≠ 0) ∨ (∃ ts, toks s.data.toList = .ok ts ∧ ts.length ≠ 1) ∨ (∃ t, toks s.data.toList = .ok [t] ∧ t.kind ≠ 1) ∨ (∃ t, toks s.data.toList = .ok [t] ∧ t.kind = 1 ∧ t.text ≠ s.data.toList) := by
    cases ho : toks s.data.toList with
    | bad p k => exact .inl ⟨p, k, rfl, ans_err _ _ _ _ _ _ ho⟩
    | ok ts =>
      match ts, ho with
      | [], _ => exact .inr (.inl ⟨[], rfl, by decide⟩)
      | a :: b :: r, _ => exact .inr (.inl ⟨_, rfl, by show r.length + 2 ≠ 1; omega⟩)
      | [t], ho =>
        rw [ho] at h1
        by_cases hk : t.kind = 1
        · exact .inr (.inr (.inr ⟨t, rfl, hk, fun e => by simp [isOne, hk, e] at h1⟩))
        · exact .inr (.inr (.inl ⟨t, rfl, hk⟩))
  clear h1
  go_enter Try.func12, Try.ntmps12
  go_wp2_with fail
  refine kt.mono ?_
  clear kt
  rintro e w1 ⟨v, p, k, rfl, hG, hb⟩
  have HB := Lib.hid hb
  have hY1 := Lib.hid (By.one w.heap.size w1 hb.size 39 (e := 39) rfl)
  have hB1 := Lib.hid (hb.alloc hb.size (.cells #[.int .u8 39] 5))
  clear hb
  rcases hcase with ⟨p', k', ho, hk⟩ | ⟨ts, ho, hl⟩ | ⟨t, ho, hk⟩ | ⟨t, ho, hk, ht⟩
  · rw [ho] at hG
    obtain ⟨rfl, rfl, rfl⟩ := hG
    clear ho
    obtain ⟨a1, a2⟩ := ieq_no (a := k) 0 (by omega)
    go_wp2
    clear a1 a2
    go_loopg [6, 7] s.size (fun k v i wr => ∃ (m g cap : Nat), k = s.size - m ∧ m ≤ s.size ∧ v = .slice (some ⟨g, 0, none⟩) (39 :: encL (s.data.toList.take m)).length cap ∧ i = .int .i64 m ∧ Hid (okL (s.data.toList.take m) = true) ∧ Hid (By w.heap.size wr g cap (39 :: encL (s.data.toList.take m))) ∧ Hid (Below w.heap.size w wr))
    case atStart => exact ⟨0, w1.heap.size, 1, by omega, by omega, rfl, rfl, Lib.hid rfl, hY1, hB1⟩
    case round =>
      clear hY1 hB1 HB
      obtain ⟨m, g2, cap2, hgk, hm, rfl, rfl, hok, hY, hb⟩ := hrel
      have hel : (39 :: encL (s.data.toList.take m)).length ≤ 2050 := by
        have := (encL_len (s.data.toList.take m)).2
        have h2 := List.length_take_le m s.data.toList
        rw [List.length_cons]; omega
      have hsz := Lib.hid hb.out.size
      have hen := Lib.hid (show ∀ b, encL (s.data.toList.take m ++ [b]) = encL (s.data.toList.take m) ++ enc1 b from encL_snoc _)
      by_cases hlt : m < s.size
      · have hlt2 : (m : Int) < s.size := by omega
        have hsn := Lib.hid (take_snoc hlt)
        generalize hL : (39 :: encL (s.data.toList.take m)) = L at *
        have HL := Lib.hid hL
        clear hL
        by_cases c10 : (bA s m).toNat = 10
        · obtain ⟨a10, b10⟩ := ieq_yes (a := (bA s m).toNat) 10 (by omega)
          have ev : bA s m = 10 := UInt8.toNat_inj.1 (by rw [c10]; rfl)
          have he := Lib.hid (show enc1 (bA s m) = [92, 110] by rw [ev]; rfl)
          have hokb := Lib.hid (show okB (bA s m) = true by rw [ev]; rfl)
          clear ev c10
          go_wp2_with (at_builtin; refine wpList_push2 rfl _ _ rfl w.heap.size wr g2 cap2 L 92 110 _ _ rfl rfl rfl hY.out rfl (by omega) hsz.out ?_; intro g3 cap3 w3 hY3 hb3)
          have HY3 := Lib.hid (show By w.heap.size w3 g3 cap3 (39 :: encL (s.data.toList.take (m + 1))) from by
            rw [hsn.out, hen.out, he.out, ← List.cons_append, HL.out]; exact hY3)
          have HB3 := Lib.hid (hb.out.trans hb3)
          have hlen := Lib.hid (show L.length + 2 = (39 :: encL (s.data.toList.take (m + 1))).length by rw [hsn.out, hen.out, he.out, ← List.cons_append, HL.out, List.length_append]; rfl)
          clear hY3 hb3
          go_wp2
          go_roundg (s.size - (m + 1))
          case measure => omega
          case rel => exact ⟨m + 1, g3, cap3, rfl, by omega, by rw [← hlen.out], by go_num, Lib.hid (by rw [hsn.out, okL_snoc, hok.out, hokb.out]; rfl), HY3, HB3⟩
        obtain ⟨p10, q10⟩ := ieq_no (a := (bA s m).toNat) 10 (by omega)
        by_cases c9 : (bA s m).toNat = 9
        · obtain ⟨a9, b9⟩ := ieq_yes (a := (bA s m).toNat) 9 (by omega)
          have ev : bA s m = 9 := UInt8.toNat_inj.1 (by rw [c9]; rfl)
          have he := Lib.hid (show enc1 (bA s m) = [92, 116] by rw [ev]; rfl)
          have hokb := Lib.hid (show okB (bA s m) = true by rw [ev]; rfl)
          clear ev c10 c9
          go_wp2_with (at_builtin; refine wpList_push2 rfl _ _ rfl w.heap.size wr g2 cap2 L 92 116 _ _ rfl rfl rfl hY.out rfl (by omega) hsz.out ?_; intro g3 cap3 w3 hY3 hb3)
          have HY3 := Lib.hid (show By w.heap.size w3 g3 cap3 (39 :: encL (s.data.toList.take (m + 1))) from by
            rw [hsn.out, hen.out, he.out, ← List.cons_append, HL.out]; exact hY3)
          have HB3 := Lib.hid (hb.out.trans hb3)
          have hlen := Lib.hid (show L.length + 2 = (39 :: encL (s.data.toList.take (m + 1))).length by rw [hsn.out, hen.out, he.out, ← List.cons_append, HL.out, List.length_append]; rfl)
          clear hY3 hb3
          go_wp2
          go_roundg (s.size - (m + 1))
          case measure => omega
          case rel => exact ⟨m + 1, g3, cap3, rfl, by omega, by rw [← hlen.out], by go_num, Lib.hid (by rw [hsn.out, okL_snoc, hok.out, hokb.out]; rfl), HY3, HB3⟩
        obtain ⟨p9, q9⟩ := ieq_no (a := (bA s m).toNat) 9 (by omega)
        by_cases c92 : (bA s m).toNat = 92
        · obtain ⟨a92, b92⟩ := ieq_yes (a := (bA s m).toNat) 92 (by omega)
          have ev : bA s m = 92 := UInt8.toNat_inj.1 (by rw [c92]; rfl)
          have he := Lib.hid (show enc1 (bA s m) = [92, bA s m] by rw [ev]; rfl)
          have hokb := Lib.hid (show okB (bA s m) = true by rw [ev]; rfl)
          clear ev c10 c9 c92
          go_wp2_with (at_builtin; refine wpList_push2 rfl _ _ rfl w.heap.size wr g2 cap2 L 92 (bA s m) _ _ rfl rfl rfl hY.out rfl (by omega) hsz.out ?_; intro g3 cap3 w3 hY3 hb3)
          have HY3 := Lib.hid (show By w.heap.size w3 g3 cap3 (39 :: encL (s.data.toList.take (m + 1))) from by
            rw [hsn.out, hen.out, he.out, ← List.cons_append, HL.out]; exact hY3)
          have HB3 := Lib.hid (hb.out.trans hb3)
          have hlen := Lib.hid (show L.length + 2 = (39 :: encL (s.data.toList.take (m + 1))).length by rw [hsn.out, hen.out, he.out, ← List.cons_append, HL.out, List.length_append]; rfl)
          clear hY3 hb3
          go_wp2
          go_roundg (s.size - (m + 1))
          case measure => omega
          case rel => exact ⟨m + 1, g3, cap3, rfl, by omega, by rw [← hlen.out], by go_num, Lib.hid (by rw [hsn.out, okL_snoc, hok.out, hokb.out]; rfl), HY3, HB3⟩
        obtain ⟨p92, q92⟩ := ieq_no (a := (bA s m).toNat) 92 (by omega)
        by_cases c39 : (bA s m).toNat = 39
        · obtain ⟨a39, b39⟩ := ieq_yes (a := (bA s m).toNat) 39 (by omega)
          have ev : bA s m = 39 := UInt8.toNat_inj.1 (by rw [c39]; rfl)
          have he := Lib.hid (show enc1 (bA s m) = [92, bA s m] by rw [ev]; rfl)
          have hokb := Lib.hid (show okB (bA s m) = true by rw [ev]; rfl)
          clear ev c10 c9 c92 c39
          go_wp2_with (at_builtin; refine wpList_push2 rfl _ _ rfl w.heap.size wr g2 cap2 L 92 (bA s m) _ _ rfl rfl rfl hY.out rfl (by omega) hsz.out ?_; intro g3 cap3 w3 hY3 hb3)
          have HY3 := Lib.hid (show By w.heap.size w3 g3 cap3 (39 :: encL (s.data.toList.take (m + 1))) from by
            rw [hsn.out, hen.out, he.out, ← List.cons_append, HL.out]; exact hY3)
          have HB3 := Lib.hid (hb.out.trans hb3)
          have hlen := Lib.hid (show L.length + 2 = (39 :: encL (s.data.toList.take (m + 1))).length by rw [hsn.out, hen.out, he.out, ← List.cons_append, HL.out, List.length_append]; rfl)
          clear hY3 hb3
          go_wp2
          go_roundg (s.size - (m + 1))
          case measure => omega
          case rel => exact ⟨m + 1, g3, cap3, rfl, by omega, by rw [← hlen.out], by go_num, Lib.hid (by rw [hsn.out, okL_snoc, hok.out, hokb.out]; rfl), HY3, HB3⟩
        obtain ⟨p39, q39⟩ := ieq_no (a := (bA s m).toNat) 39 (by omega)
        by_cases c32 : (bA s m).toNat < 32
        · have t1 : (((bA s m).toNat : Nat) : Int) < 32 := by omega
          have hbad := Lib.hid (show okL s.data.toList = false from okL_no hlt (by
            unfold okB
            simp only [Bool.or_eq_false_iff, Bool.and_eq_false_iff, beq_eq_false_iff_ne, decide_eq_false_iff_not]
            exact ⟨⟨fun e => c10 (by rw [e]; rfl), fun e => c9 (by rw [e]; rfl)⟩, .inl (by omega)⟩))
          clear c10 c9 c92 c39 c32
          go_wp2
          go_ret
          exact ⟨ret_s (by rw [hqs.out, if_neg (by rw [hbad.out]; decide)]), hb.out⟩
        have t1 : ¬ ((((bA s m).toNat : Nat) : Int) < 32) := by omega
        by_cases c126 : 126 < (bA s m).toNat
        · have t2 : (126 : Int) < (((bA s m).toNat : Nat) : Int) := by omega
          have hbad := Lib.hid (show okL s.data.toList = false from okL_no hlt (by
            unfold okB
            simp only [Bool.or_eq_false_iff, Bool.and_eq_false_iff, beq_eq_false_iff_ne, decide_eq_false_iff_not]
            exact ⟨⟨fun e => c10 (by rw [e]; rfl), fun e => c9 (by rw [e]; rfl)⟩, .inr (by omega)⟩))
          clear c10 c9 c92 c39 c32 c126
          go_wp2
          go_ret
          exact ⟨ret_s (by rw [hqs.out, if_neg (by rw [hbad.out]; decide)]), hb.out⟩
        have t2 : ¬ ((126 : Int) < (((bA s m).toNat : Nat) : Int)) := by omega
        have he := Lib.hid (show enc1 (bA s m) = [bA s m] by
          unfold enc1
          rw [if_neg (fun e => c10 (by rw [e]; rfl)), if_neg (fun e => c9 (by rw [e]; rfl)), if_neg]
          rintro (e | e)
          · exact c92 (by rw [e]; rfl)
          · exact c39 (by rw [e]; rfl))
        have hokb := Lib.hid (show okB (bA s m) = true by
          unfold okB
          simp only [Bool.or_eq_true, Bool.and_eq_true, decide_eq_true_eq]
          exact .inr ⟨by omega, by omega⟩)
        clear c10 c9 c92 c39 c32 c126
        go_wp2_with (at_builtin; refine wpList_push1 rfl _ _ rfl w.heap.size wr g2 cap2 L (bA s m) _ rfl rfl hY.out rfl (by omega) hsz.out ?_; intro g3 cap3 w3 hY3 hb3)
        have HY3 := Lib.hid (show By w.heap.size w3 g3 cap3 (39 :: encL (s.data.toList.take (m + 1))) from by
          rw [hsn.out, hen.out, he.out, ← List.cons_append, HL.out]; exact hY3)
        have HB3 := Lib.hid (hb.out.trans hb3)
        have hlen := Lib.hid (show L.length + 1 = (39 :: encL (s.data.toList.take (m + 1))).length by rw [hsn.out, hen.out, he.out, ← List.cons_append, HL.out, List.length_append]; rfl)
        clear hY3 hb3
        go_wp2
        go_roundg (s.size - (m + 1))
        case measure => omega
        case rel => exact ⟨m + 1, g3, cap3, rfl, by omega, by rw [← hlen.out], by go_num, Lib.hid (by rw [hsn.out, okL_snoc, hok.out, hokb.out]; rfl), HY3, HB3⟩
      · have hlt2 : ¬ ((m : Int) < s.size) := by omega
        have htk := Lib.hid (show s.data.toList.take m = s.data.toList from List.take_of_length_le (by simp; omega))
        generalize hL : (39 :: encL (s.data.toList.take m)) = L at *
        have HL := Lib.hid hL
        clear hL
        go_wp2_with (at_builtin; refine wpList_push1 rfl _ _ rfl w.heap.size wr g2 cap2 L 39 _ rfl rfl hY.out rfl (by omega) hsz.out ?_; intro g3 cap3 w3 hY3 hb3; have hcv := hY3.conv; rw [List.length_append, List.length_singleton] at hcv; have HB3 := Lib.hid (hb.out.trans hb3); clear hY3 hb3)
        go_ret
        exact ⟨ret_s (by rw [hqs.out, if_pos (by rw [← htk.out]; exact hok.out), ← HL.out, htk.out]; rfl), HB3.out⟩
  · rw [ho] at hG
    obtain ⟨hT, rfl, rfl⟩ := hG
    clear ho
    obtain ⟨a, cap, rfl⟩ := hT.shape
    obtain ⟨a1, a2⟩ := ieq_no (a := ts.length) 1 (by omega)
    clear hl
    go_wp2
    clear a1 a2
    go_loopg [6, 7] s.size (fun k v i wr => ∃ (m g cap : Nat), k = s.size - m ∧ m ≤ s.size ∧ v = .slice (some ⟨g, 0, none⟩) (39 :: encL (s.data.toList.take m)).length cap ∧ i = .int .i64 m ∧ Hid (okL (s.data.toList.take m) = true) ∧ Hid (By w.heap.size wr g cap (39 :: encL (s.data.toList.take m))) ∧ Hid (Below w.heap.size w wr))
    case atStart => exact ⟨0, w1.heap.size, 1, by omega, by omega, rfl, rfl, Lib.hid rfl, hY1, hB1⟩
    case round =>
      clear hY1 hB1 HB
      obtain ⟨m, g2, cap2, hgk, hm, rfl, rfl, hok, hY, hb⟩ := hrel
      have hel : (39 :: encL (s.data.toList.take m)).length ≤ 2050 := by
        have := (encL_len (s.data.toList.take m)).2
        have h2 := List.length_take_le m s.data.toList
        rw [List.length_cons]; omega
      have hsz := Lib.hid hb.out.size
      have hen := Lib.hid (show ∀ b, encL (s.data.toList.take m ++ [b]) = encL (s.data.toList.take m) ++ enc1 b from encL_snoc _)
      by_cases hlt : m < s.size
      · have hlt2 : (m : Int) < s.size := by omega
        have hsn := Lib.hid (take_snoc hlt)
        generalize hL : (39 :: encL (s.data.toList.take m)) = L at *
        have HL := Lib.hid hL
        clear hL
        by_cases c10 : (bA s m).toNat = 10
        · obtain ⟨a10, b10⟩ := ieq_yes (a := (bA s m).toNat) 10 (by omega)
          have ev : bA s m = 10 := UInt8.toNat_inj.1 (by rw [c10]; rfl)
          have he := Lib.hid (show enc1 (bA s m) = [92, 110] by rw [ev]; rfl)
          have hokb := Lib.hid (show okB (bA s m) = true by rw [ev]; rfl)
          clear ev c10
          go_wp2_with (at_builtin; refine wpList_push2 rfl _ _ rfl w.heap.size wr g2 cap2 L 92 110 _ _ rfl rfl rfl hY.out rfl (by omega) hsz.out ?_; intro g3 cap3 w3 hY3 hb3)
          have HY3 := Lib.hid (show By w.heap.size w3 g3 cap3 (39 :: encL (s.data.toList.take (m + 1))) from by
            rw [hsn.out, hen.out, he.out, ← List.cons_append, HL.out]; exact hY3)
          have HB3 := Lib.hid (hb.out.trans hb3)
          have hlen := Lib.hid (show L.length + 2 = (39 :: encL (s.data.toList.take (m + 1))).length by rw [hsn.out, hen.out, he.out, ← List.cons_append, HL.out, List.length_append]; rfl)
          clear hY3 hb3
          go_wp2
          go_roundg (s.size - (m + 1))
          case measure => omega
          case rel => exact ⟨m + 1, g3, cap3, rfl, by omega, by rw [← hlen.out], by go_num, Lib.hid (by rw [hsn.out, okL_snoc, hok.out, hokb.out]; rfl), HY3, HB3⟩
        obtain ⟨p10, q10⟩ := ieq_no (a := (bA s m).toNat) 10 (by omega)
        by_cases c9 : (bA s m).toNat = 9
        · obtain ⟨a9, b9⟩ := ieq_yes (a := (bA s m).toNat) 9 (by omega)
          have ev : bA s m = 9 := UInt8.toNat_inj.1 (by rw [c9]; rfl)
          have he := Lib.hid (show enc1 (bA s m) = [92, 116] by rw [ev]; rfl)
          have hokb := Lib.hid (show okB (bA s m) = true by rw [ev]; rfl)
          clear ev c10 c9
          go_wp2_with (at_builtin; refine wpList_push2 rfl _ _ rfl w.heap.size wr g2 cap2 L 92 116 _ _ rfl rfl rfl hY.out rfl (by omega) hsz.out ?_; intro g3 cap3 w3 hY3 hb3)
          have HY3 := Lib.hid (show By w.heap.size w3 g3 cap3 (39 :: encL (s.data.toList.take (m + 1))) from by
            rw [hsn.out, hen.out, he.out, ← List.cons_append, HL.out]; exact hY3)
          have HB3 := Lib.hid (hb.out.trans hb3)
          have hlen := Lib.hid (show L.length + 2 = (39 :: encL (s.data.toList.take (m + 1))).length by rw [hsn.out, hen.out, he.out, ← List.cons_append, HL.out, List.length_append]; rfl)
          clear hY3 hb3
          go_wp2
          go_roundg (s.size - (m + 1))
          case measure => omega
          case rel => exact ⟨m + 1, g3, cap3, rfl, by omega, by rw [← hlen.out], by go_num, Lib.hid (by rw [hsn.out, okL_snoc, hok.out, hokb.out]; rfl), HY3, HB3⟩
        obtain ⟨p9, q9⟩ := ieq_no (a := (bA s m).toNat) 9 (by omega)
        by_cases c92 : (bA s m).toNat = 92
        · obtain ⟨a92, b92⟩ := ieq_yes (a := (bA s m).toNat) 92 (by omega)
          have ev : bA s m = 92 := UInt8.toNat_inj.1 (by rw [c92]; rfl)
          have he := Lib.hid (show enc1 (bA s m) = [92, bA s m] by rw [ev]; rfl)
          have hokb := Lib.hid (show okB (bA s m) = true by rw [ev]; rfl)
          clear ev c10 c9 c92
          go_wp2_with (at_builtin; refine wpList_push2 rfl _ _ rfl w.heap.size wr g2 cap2 L 92 (bA s m) _ _ rfl rfl rfl hY.out rfl (by omega) hsz.out ?_; intro g3 cap3 w3 hY3 hb3)
          have HY3 := Lib.hid (show By w.heap.size w3 g3 cap3 (39 :: encL (s.data.toList.take (m + 1))) from by
            rw [hsn.out, hen.out, he.out, ← List.cons_append, HL.out]; exact hY3)
          have HB3 := Lib.hid (hb.out.trans hb3)
          have hlen := Lib.hid (show L.length + 2 = (39 :: encL (s.data.toList.take (m + 1))).length by rw [hsn.out, hen.out, he.out, ← List.cons_append, HL.out, List.length_append]; rfl)
          clear hY3 hb3
          go_wp2
          go_roundg (s.size - (m + 1))
          case measure => omega
          case rel => exact ⟨m + 1, g3, cap3, rfl, by omega, by rw [← hlen.out], by go_num, Lib.hid (by rw [hsn.out, okL_snoc, hok.out, hokb.out]; rfl), HY3, HB3⟩
        obtain ⟨p92, q92⟩ := ieq_no (a := (bA s m).toNat) 92 (by omega)
        by_cases c39 : (bA s m).toNat = 39
        · obtain ⟨a39, b39⟩ := ieq_yes (a := (bA s m).toNat) 39 (by omega)
          have ev : bA s m = 39 := UInt8.toNat_inj.1 (by rw [c39]; rfl)
          have he := Lib.hid (show enc1 (bA s m) = [92, bA s m] by rw [ev]; rfl)
          have hokb := Lib.hid (show okB (bA s m) = true by rw [ev]; rfl)
          clear ev c10 c9 c92 c39
          go_wp2_with (at_builtin; refine wpList_push2 rfl _ _ rfl w.heap.size wr g2 cap2 L 92 (bA s m) _ _ rfl rfl rfl hY.out rfl (by omega) hsz.out ?_; intro g3 cap3 w3 hY3 hb3)
          have HY3 := Lib.hid (show By w.heap.size w3 g3 cap3 (39 :: encL (s.data.toList.take (m + 1))) from by
            rw [hsn.out, hen.out, he.out, ← List.cons_append, HL.out]; exact hY3)
          have HB3 := Lib.hid (hb.out.trans hb3)
          have hlen := Lib.hid (show L.length + 2 = (39 :: encL (s.data.toList.take (m + 1))).length by rw [hsn.out, hen.out, he.out, ← List.cons_append, HL.out, List.length_append]; rfl)
          clear hY3 hb3
          go_wp2
          go_roundg (s.size - (m + 1))
          case measure => omega
          case rel => exact ⟨m + 1, g3, cap3, rfl, by omega, by rw [← hlen.out], by go_num, Lib.hid (by rw [hsn.out, okL_snoc, hok.out, hokb.out]; rfl), HY3, HB3⟩
        obtain ⟨p39, q39⟩ := ieq_no (a := (bA s m).toNat) 39 (by omega)
        by_cases c32 : (bA s m).toNat < 32
        · have t1 : (((bA s m).toNat : Nat) : Int) < 32 := by omega
          have hbad := Lib.hid (show okL s.data.toList = false from okL_no hlt (by
            unfold okB
            simp only [Bool.or_eq_false_iff, Bool.and_eq_false_iff, beq_eq_false_iff_ne, decide_eq_false_iff_not]
            exact ⟨⟨fun e => c10 (by rw [e]; rfl), fun e => c9 (by rw [e]; rfl)⟩, .inl (by omega)⟩))
          clear c10 c9 c92 c39 c32
          go_wp2
          go_ret
          exact ⟨ret_s (by rw [hqs.out, if_neg (by rw [hbad.out]; decide)]), hb.out⟩
        have t1 : ¬ ((((bA s m).toNat : Nat) : Int) < 32) := by omega
        by_cases c126 : 126 < (bA s m).toNat
        · have t2 : (126 : Int) < (((bA s m).toNat : Nat) : Int) := by omega
          have hbad := Lib.hid (show okL s.data.toList = false from okL_no hlt (by
            unfold okB
            simp only [Bool.or_eq_false_iff, Bool.and_eq_false_iff, beq_eq_false_iff_ne, decide_eq_false_iff_not]
            exact ⟨⟨fun e => c10 (by rw [e]; rfl), fun e => c9 (by rw [e]; rfl)⟩, .inr (by omega)⟩))
          clear c10 c9 c92 c39 c32 c126
          go_wp2
          go_ret
          exact ⟨ret_s (by rw [hqs.out, if_neg (by rw [hbad.out]; decide)]), hb.out⟩
        have t2 : ¬ ((126 : Int) < (((bA s m).toNat : Nat) : Int)) := by omega
        have he := Lib.hid (show enc1 (bA s m) = [bA s m] by
          unfold enc1
          rw [if_neg (fun e => c10 (by rw [e]; rfl)), if_neg (fun e => c9 (by rw [e]; rfl)), if_neg]
          rintro (e | e)
          · exact c92 (by rw [e]; rfl)
          · exact c39 (by rw [e]; rfl))
        have hokb := Lib.hid (show okB (bA s m) = true by
          unfold okB
          simp only [Bool.or_eq_true, Bool.and_eq_true, decide_eq_true_eq]
          exact .inr ⟨by omega, by omega⟩)
        clear c10 c9 c92 c39 c32 c126
        go_wp2_with (at_builtin; refine wpList_push1 rfl _ _ rfl w.heap.size wr g2 cap2 L (bA s m) _ rfl rfl hY.out rfl (by omega) hsz.out ?_; intro g3 cap3 w3 hY3 hb3)
        have HY3 := Lib.hid (show By w.heap.size w3 g3 cap3 (39 :: encL (s.data.toList.take (m + 1))) from by
          rw [hsn.out, hen.out, he.out, ← List.cons_append, HL.out]; exact hY3)
        have HB3 := Lib.hid (hb.out.trans hb3)
        have hlen := Lib.hid (show L.length + 1 = (39 :: encL (s.data.toList.take (m + 1))).length by rw [hsn.out, hen.out, he.out, ← List.cons_append, HL.out, List.length_append]; rfl)
        clear hY3 hb3
        go_wp2
        go_roundg (s.size - (m + 1))
        case measure => omega
        case rel => exact ⟨m + 1, g3, cap3, rfl, by omega, by rw [← hlen.out], by go_num, Lib.hid (by rw [hsn.out, okL_snoc, hok.out, hokb.out]; rfl), HY3, HB3⟩
      · have hlt2 : ¬ ((m : Int) < s.size) := by omega
        have htk := Lib.hid (show s.data.toList.take m = s.data.toList from List.take_of_length_le (by simp; omega))
        generalize hL : (39 :: encL (s.data.toList.take m)) = L at *
        have HL := Lib.hid hL
        clear hL
        go_wp2_with (at_builtin; refine wpList_push1 rfl _ _ rfl w.heap.size wr g2 cap2 L 39 _ rfl rfl hY.out rfl (by omega) hsz.out ?_; intro g3 cap3 w3 hY3 hb3; have hcv := hY3.conv; rw [List.length_append, List.length_singleton] at hcv; have HB3 := Lib.hid (hb.out.trans hb3); clear hY3 hb3)
        go_ret
        exact ⟨ret_s (by rw [hqs.out, if_pos (by rw [← htk.out]; exact hok.out), ← HL.out, htk.out]; rfl), HB3.out⟩
  · rw [ho] at hG
    obtain ⟨hT, rfl, rfl⟩ := hG
    clear ho
    obtain ⟨g, cap, rfl, hcap, _, _, hcell⟩ := hT.row (by simp)
    obtain ⟨c0, c1, c2, c3⟩ := hcell 0 (by simp)
    simp only [List.getElem_cons_zero, Nat.zero_mul, Nat.zero_add, List.length_singleton] at c0 c1 c2 c3 hcap
    clear hT hcell
    obtain ⟨a1, a2⟩ := ieq_no (a := t.kind) 1 (by omega)
    clear hk
    go_wp2
    clear a1 a2
    go_loopg [6, 7] s.size (fun k v i wr => ∃ (m g cap : Nat), k = s.size - m ∧ m ≤ s.size ∧ v = .slice (some ⟨g, 0, none⟩) (39 :: encL (s.data.toList.take m)).length cap ∧ i = .int .i64 m ∧ Hid (okL (s.data.toList.take m) = true) ∧ Hid (By w.heap.size wr g cap (39 :: encL (s.data.toList.take m))) ∧ Hid (Below w.heap.size w wr))
    case atStart => exact ⟨0, w1.heap.size, 1, by omega, by omega, rfl, rfl, Lib.hid rfl, hY1, hB1⟩
    case round =>
      clear hY1 hB1 HB
      obtain ⟨m, g2, cap2, hgk, hm, rfl, rfl, hok, hY, hb⟩ := hrel
      have hel : (39 :: encL (s.data.toList.take m)).length ≤ 2050 := by
        have := (encL_len (s.data.toList.take m)).2
        have h2 := List.length_take_le m s.data.toList
        rw [List.length_cons]; omega
      have hsz := Lib.hid hb.out.size
      have hen := Lib.hid (show ∀ b, encL (s.data.toList.take m ++ [b]) = encL (s.data.toList.take m) ++ enc1 b from encL_snoc _)
      by_cases hlt : m < s.size
      · have hlt2 : (m : Int) < s.size := by omega
        have hsn := Lib.hid (take_snoc hlt)
        generalize hL : (39 :: encL (s.data.toList.take m)) = L at *
        have HL := Lib.hid hL
        clear hL
        by_cases c10 : (bA s m).toNat = 10
        · obtain ⟨a10, b10⟩ := ieq_yes (a := (bA s m).toNat) 10 (by omega)
          have ev : bA s m = 10 := UInt8.toNat_inj.1 (by rw [c10]; rfl)
          have he := Lib.hid (show enc1 (bA s m) = [92, 110] by rw [ev]; rfl)
          have hokb := Lib.hid (show okB (bA s m) = true by rw [ev]; rfl)
          clear ev c10
          go_wp2_with (at_builtin; refine wpList_push2 rfl _ _ rfl w.heap.size wr g2 cap2 L 92 110 _ _ rfl rfl rfl hY.out rfl (by omega) hsz.out ?_; intro g3 cap3 w3 hY3 hb3)
          have HY3 := Lib.hid (show By w.heap.size w3 g3 cap3 (39 :: encL (s.data.toList.take (m + 1))) from by
            rw [hsn.out, hen.out, he.out, ← List.cons_append, HL.out]; exact hY3)
          have HB3 := Lib.hid (hb.out.trans hb3)
          have hlen := Lib.hid (show L.length + 2 = (39 :: encL (s.data.toList.take (m + 1))).length by rw [hsn.out, hen.out, he.out, ← List.cons_append, HL.out, List.length_append]; rfl)
          clear hY3 hb3
          go_wp2
          go_roundg (s.size - (m + 1))
          case measure => omega
          case rel => exact ⟨m + 1, g3, cap3, rfl, by omega, by rw [← hlen.out], by go_num, Lib.hid (by rw [hsn.out, okL_snoc, hok.out, hokb.out]; rfl), HY3, HB3⟩
        obtain ⟨p10, q10⟩ := ieq_no (a := (bA s m).toNat) 10 (by omega)
        by_cases c9 : (bA s m).toNat = 9
        · obtain ⟨a9, b9⟩ := ieq_yes (a := (bA s m).toNat) 9 (by omega)
          have ev : bA s m = 9 := UInt8.toNat_inj.1 (by rw [c9]; rfl)
          have he := Lib.hid (show enc1 (bA s m) = [92, 116] by rw [ev]; rfl)
          have hokb := Lib.hid (show okB (bA s m) = true by rw [ev]; rfl)
          clear ev c10 c9
          go_wp2_with (at_builtin; refine wpList_push2 rfl _ _ rfl w.heap.size wr g2 cap2 L 92 116 _ _ rfl rfl rfl hY.out rfl (by omega) hsz.out ?_; intro g3 cap3 w3 hY3 hb3)
          have HY3 := Lib.hid (show By w.heap.size w3 g3 cap3 (39 :: encL (s.data.toList.take (m + 1))) from by
            rw [hsn.out, hen.out, he.out, ← List.cons_append, HL.out]; exact hY3)
          have HB3 := Lib.hid (hb.out.trans hb3)
          have hlen := Lib.hid (show L.length + 2 = (39 :: encL (s.data.toList.take (m + 1))).length by rw [hsn.out, hen.out, he.out, ← List.cons_append, HL.out, List.length_append]; rfl)
          clear hY3 hb3
          go_wp2
          go_roundg (s.size - (m + 1))
          case measure => omega
          case rel => exact ⟨m + 1, g3, cap3, rfl, by omega, by rw [← hlen.out], by go_num, Lib.hid (by rw [hsn.out, okL_snoc, hok.out, hokb.out]; rfl), HY3, HB3⟩
        obtain ⟨p9, q9⟩ := ieq_no (a := (bA s m).toNat) 9 (by omega)
        by_cases c92 : (bA s m).toNat = 92
        · obtain ⟨a92, b92⟩ := ieq_yes (a := (bA s m).toNat) 92 (by omega)
          have ev : bA s m = 92 := UInt8.toNat_inj.1 (by rw [c92]; rfl)
          have he := Lib.hid (show enc1 (bA s m) = [92, bA s m] by rw [ev]; rfl)
          have hokb := Lib.hid (show okB (bA s m) = true by rw [ev]; rfl)
          clear ev c10 c9 c92
          go_wp2_with (at_builtin; refine wpList_push2 rfl _ _ rfl w.heap.size wr g2 cap2 L 92 (bA s m) _ _ rfl rfl rfl hY.out rfl (by omega) hsz.out ?_; intro g3 cap3 w3 hY3 hb3)
          have HY3 := Lib.hid (show By w.heap.size w3 g3 cap3 (39 :: encL (s.data.toList.take (m + 1))) from by
            rw [hsn.out, hen.out, he.out, ← List.cons_append, HL.out]; exact hY3)
          have HB3 := Lib.hid (hb.out.trans hb3)
          have hlen := Lib.hid (show L.length + 2 = (39 :: encL (s.data.toList.take (m + 1))).length by rw [hsn.out, hen.out, he.out, ← List.cons_append, HL.out, List.length_append]; rfl)
          clear hY3 hb3
          go_wp2
          go_roundg (s.size - (m + 1))
          case measure => omega
          case rel => exact ⟨m + 1, g3, cap3, rfl, by omega, by rw [← hlen.out], by go_num, Lib.hid (by rw [hsn.out, okL_snoc, hok.out, hokb.out]; rfl), HY3, HB3⟩
        obtain ⟨p92, q92⟩ := ieq_no (a := (bA s m).toNat) 92 (by omega)
        by_cases c39 : (bA s m).toNat = 39
        · obtain ⟨a39, b39⟩ := ieq_yes (a := (bA s m).toNat) 39 (by omega)
          have ev : bA s m = 39 := UInt8.toNat_inj.1 (by rw [c39]; rfl)
          have he := Lib.hid (show enc1 (bA s m) = [92, bA s m] by rw [ev]; rfl)
          have hokb := Lib.hid (show okB (bA s m) = true by rw [ev]; rfl)
          clear ev c10 c9 c92 c39
          go_wp2_with (at_builtin; refine wpList_push2 rfl _ _ rfl w.heap.size wr g2 cap2 L 92 (bA s m) _ _ rfl rfl rfl hY.out rfl (by omega) hsz.out ?_; intro g3 cap3 w3 hY3 hb3)
          have HY3 := Lib.hid (show By w.heap.size w3 g3 cap3 (39 :: encL (s.data.toList.take (m + 1))) from by
            rw [hsn.out, hen.out, he.out, ← List.cons_append, HL.out]; exact hY3)
          have HB3 := Lib.hid (hb.out.trans hb3)
          have hlen := Lib.hid (show L.length + 2 = (39 :: encL (s.data.toList.take (m + 1))).length by rw [hsn.out, hen.out, he.out, ← List.cons_append, HL.out, List.length_append]; rfl)
          clear hY3 hb3
          go_wp2
          go_roundg (s.size - (m + 1))
          case measure => omega
          case rel => exact ⟨m + 1, g3, cap3, rfl, by omega, by rw [← hlen.out], by go_num, Lib.hid (by rw [hsn.out, okL_snoc, hok.out, hokb.out]; rfl), HY3, HB3⟩
        obtain ⟨p39, q39⟩ := ieq_no (a := (bA s m).toNat) 39 (by omega)
        by_cases c32 : (bA s m).toNat < 32
        · have t1 : (((bA s m).toNat : Nat) : Int) < 32 := by omega
          have hbad := Lib.hid (show okL s.data.toList = false from okL_no hlt (by
            unfold okB
            simp only [Bool.or_eq_false_iff, Bool.and_eq_false_iff, beq_eq_false_iff_ne, decide_eq_false_iff_not]
            exact ⟨⟨fun e => c10 (by rw [e]; rfl), fun e => c9 (by rw [e]; rfl)⟩, .inl (by omega)⟩))
          clear c10 c9 c92 c39 c32
          go_wp2
          go_ret
          exact ⟨ret_s (by rw [hqs.out, if_neg (by rw [hbad.out]; decide)]), hb.out⟩
        have t1 : ¬ ((((bA s m).toNat : Nat) : Int) < 32) := by omega
        by_cases c126 : 126 < (bA s m).toNat
        · have t2 : (126 : Int) < (((bA s m).toNat : Nat) : Int) := by omega
          have hbad := Lib.hid (show okL s.data.toList = false from okL_no hlt (by
            unfold okB
            simp only [Bool.or_eq_false_iff, Bool.and_eq_false_iff, beq_eq_false_iff_ne, decide_eq_false_iff_not]
            exact ⟨⟨fun e => c10 (by rw [e]; rfl), fun e => c9 (by rw [e]; rfl)⟩, .inr (by omega)⟩))
          clear c10 c9 c92 c39 c32 c126
          go_wp2
          go_ret
          exact ⟨ret_s (by rw [hqs.out, if_neg (by rw [hbad.out]; decide)]), hb.out⟩
        have t2 : ¬ ((126 : Int) < (((bA s m).toNat : Nat) : Int)) := by omega
        have he := Lib.hid (show enc1 (bA s m) = [bA s m] by
          unfold enc1
          rw [if_neg (fun e => c10 (by rw [e]; rfl)), if_neg (fun e => c9 (by rw [e]; rfl)), if_neg]
          rintro (e | e)
          · exact c92 (by rw [e]; rfl)
          · exact c39 (by rw [e]; rfl))
        have hokb := Lib.hid (show okB (bA s m) = true by
          unfold okB
          simp only [Bool.or_eq_true, Bool.and_eq_true, decide_eq_true_eq]
          exact .inr ⟨by omega, by omega⟩)
        clear c10 c9 c92 c39 c32 c126
        go_wp2_with (at_builtin; refine wpList_push1 rfl _ _ rfl w.heap.size wr g2 cap2 L (bA s m) _ rfl rfl hY.out rfl (by omega) hsz.out ?_; intro g3 cap3 w3 hY3 hb3)
        have HY3 := Lib.hid (show By w.heap.size w3 g3 cap3 (39 :: encL (s.data.toList.take (m + 1))) from by
          rw [hsn.out, hen.out, he.out, ← List.cons_append, HL.out]; exact hY3)
        have HB3 := Lib.hid (hb.out.trans hb3)
        have hlen := Lib.hid (show L.length + 1 = (39 :: encL (s.data.toList.take (m + 1))).length by rw [hsn.out, hen.out, he.out, ← List.cons_append, HL.out, List.length_append]; rfl)
        clear hY3 hb3
        go_wp2
        go_roundg (s.size - (m + 1))
        case measure => omega
        case rel => exact ⟨m + 1, g3, cap3, rfl, by omega, by rw [← hlen.out], by go_num, Lib.hid (by rw [hsn.out, okL_snoc, hok.out, hokb.out]; rfl), HY3, HB3⟩
      · have hlt2 : ¬ ((m : Int) < s.size) := by omega
        have htk := Lib.hid (show s.data.toList.take m = s.data.toList from List.take_of_length_le (by simp; omega))
        generalize hL : (39 :: encL (s.data.toList.take m)) = L at *
        have HL := Lib.hid hL
        clear hL
        go_wp2_with (at_builtin; refine wpList_push1 rfl _ _ rfl w.heap.size wr g2 cap2 L 39 _ rfl rfl hY.out rfl (by omega) hsz.out ?_; intro g3 cap3 w3 hY3 hb3; have hcv := hY3.conv; rw [List.length_append, List.length_singleton] at hcv; have HB3 := Lib.hid (hb.out.trans hb3); clear hY3 hb3)
        go_ret
        exact ⟨ret_s (by rw [hqs.out, if_pos (by rw [← htk.out]; exact hok.out), ← HL.out, htk.out]; rfl), HB3.out⟩
  · rw [ho] at hG
    obtain ⟨hT, rfl, rfl⟩ := hG
    clear ho
    obtain ⟨g, cap, rfl, hcap, _, _, hcell⟩ := hT.row (by simp)
    obtain ⟨c0, c1, c2, c3⟩ := hcell 0 (by simp)
    simp only [List.getElem_cons_zero, Nat.zero_mul, Nat.zero_add, List.length_singleton] at c0 c1 c2 c3 hcap
    clear hT hcell
    obtain ⟨a1, a2⟩ := ieq_yes (a := t.kind) 1 (by omega)
    have x1 : (t.text == s.toList) = false := by rw [ByteArray.toList_eq]; simpa using ht
    clear hk ht
    go_wp2
    clear a1 a2
    go_loopg [6, 7] s.size (fun k v i wr => ∃ (m g cap : Nat), k = s.size - m ∧ m ≤ s.size ∧ v = .slice (some ⟨g, 0, none⟩) (39 :: encL (s.data.toList.take m)).length cap ∧ i = .int .i64 m ∧ Hid (okL (s.data.toList.take m) = true) ∧ Hid (By w.heap.size wr g cap (39 :: encL (s.data.toList.take m))) ∧ Hid (Below w.heap.size w wr))
    case atStart => exact ⟨0, w1.heap.size, 1, by omega, by omega, rfl, rfl, Lib.hid rfl, hY1, hB1⟩
    case round =>
      clear hY1 hB1 HB
      obtain ⟨m, g2, cap2, hgk, hm, rfl, rfl, hok, hY, hb⟩ := hrel
      have hel : (39 :: encL (s.data.toList.take m)).length ≤ 2050 := by
        have := (encL_len (s.data.toList.take m)).2
        have h2 := List.length_take_le m s.data.toList
        rw [List.length_cons]; omega
      have hsz := Lib.hid hb.out.size
      have hen := Lib.hid (show ∀ b, encL (s.data.toList.take m ++ [b]) = encL (s.data.toList.take m) ++ enc1 b from encL_snoc _)
      by_cases hlt : m < s.size
      · have hlt2 : (m : Int) < s.size := by omega
        have hsn := Lib.hid (take_snoc hlt)
        generalize hL : (39 :: encL (s.data.toList.take m)) = L at *
        have HL := Lib.hid hL
        clear hL
        by_cases c10 : (bA s m).toNat = 10
        · obtain ⟨a10, b10⟩ := ieq_yes (a := (bA s m).toNat) 10 (by omega)
          have ev : bA s m = 10 := UInt8.toNat_inj.1 (by rw [c10]; rfl)
          have he := Lib.hid (show enc1 (bA s m) = [92, 110] by rw [ev]; rfl)
          have hokb := Lib.hid (show okB (bA s m) = true by rw [ev]; rfl)
          clear ev c10
          go_wp2_with (at_builtin; refine wpList_push2 rfl _ _ rfl w.heap.size wr g2 cap2 L 92 110 _ _ rfl rfl rfl hY.out rfl (by omega) hsz.out ?_; intro g3 cap3 w3 hY3 hb3)
          have HY3 := Lib.hid (show By w.heap.size w3 g3 cap3 (39 :: encL (s.data.toList.take (m + 1))) from by
            rw [hsn.out, hen.out, he.out, ← List.cons_append, HL.out]; exact hY3)
          have HB3 := Lib.hid (hb.out.trans hb3)
          have hlen := Lib.hid (show L.length + 2 = (39 :: encL (s.data.toList.take (m + 1))).length by rw [hsn.out, hen.out, he.out, ← List.cons_append, HL.out, List.length_append]; rfl)
          clear hY3 hb3
          go_wp2
          go_roundg (s.size - (m + 1))
          case measure => omega
          case rel => exact ⟨m + 1, g3, cap3, rfl, by omega, by rw [← hlen.out], by go_num, Lib.hid (by rw [hsn.out, okL_snoc, hok.out, hokb.out]; rfl), HY3, HB3⟩
        obtain ⟨p10, q10⟩ := ieq_no (a := (bA s m).toNat) 10 (by omega)
        by_cases c9 : (bA s m).toNat = 9
        · obtain ⟨a9, b9⟩ := ieq_yes (a := (bA s m).toNat) 9 (by omega)
          have ev : bA s m = 9 := UInt8.toNat_inj.1 (by rw [c9]; rfl)
          have he := Lib.hid (show enc1 (bA s m) = [92, 116] by rw [ev]; rfl)
          have hokb := Lib.hid (show okB (bA s m) = true by rw [ev]; rfl)
          clear ev c10 c9
          go_wp2_with (at_builtin; refine wpList_push2 rfl _ _ rfl w.heap.size wr g2 cap2 L 92 116 _ _ rfl rfl rfl hY.out rfl (by omega) hsz.out ?_; intro g3 cap3 w3 hY3 hb3)
          have HY3 := Lib.hid (show By w.heap.size w3 g3 cap3 (39 :: encL (s.data.toList.take (m + 1))) from by
            rw [hsn.out, hen.out, he.out, ← List.cons_append, HL.out]; exact hY3)
          have HB3 := Lib.hid (hb.out.trans hb3)
          have hlen := Lib.hid (show L.length + 2 = (39 :: encL (s.data.toList.take (m + 1))).length by rw [hsn.out, hen.out, he.out, ← List.cons_append, HL.out, List.length_append]; rfl)
          clear hY3 hb3
          go_wp2
          go_roundg (s.size - (m + 1))
          case measure => omega
          case rel => exact ⟨m + 1, g3, cap3, rfl, by omega, by rw [← hlen.out], by go_num, Lib.hid (by rw [hsn.out, okL_snoc, hok.out, hokb.out]; rfl), HY3, HB3⟩
        obtain ⟨p9, q9⟩ := ieq_no (a := (bA s m).toNat) 9 (by omega)
        by_cases c92 : (bA s m).toNat = 92
        · obtain ⟨a92, b92⟩ := ieq_yes (a := (bA s m).toNat) 92 (by omega)
          have ev : bA s m = 92 := UInt8.toNat_inj.1 (by rw [c92]; rfl)
          have he := Lib.hid (show enc1 (bA s m) = [92, bA s m] by rw [ev]; rfl)
          have hokb := Lib.hid (show okB (bA s m) = true by rw [ev]; rfl)
          clear ev c10 c9 c92
          go_wp2_with (at_builtin; refine wpList_push2 rfl _ _ rfl w.heap.size wr g2 cap2 L 92 (bA s m) _ _ rfl rfl rfl hY.out rfl (by omega) hsz.out ?_; intro g3 cap3 w3 hY3 hb3)
          have HY3 := Lib.hid (show By w.heap.size w3 g3 cap3 (39 :: encL (s.data.toList.take (m + 1))) from by
            rw [hsn.out, hen.out, he.out, ← List.cons_append, HL.out]; exact hY3)
          have HB3 := Lib.hid (hb.out.trans hb3)
          have hlen := Lib.hid (show L.length + 2 = (39 :: encL (s.data.toList.take (m + 1))).length by rw [hsn.out, hen.out, he.out, ← List.cons_append, HL.out, List.length_append]; rfl)
          clear hY3 hb3
          go_wp2
          go_roundg (s.size - (m + 1))
          case measure => omega
          case rel => exact ⟨m + 1, g3, cap3, rfl, by omega, by rw [← hlen.out], by go_num, Lib.hid (by rw [hsn.out, okL_snoc, hok.out, hokb.out]; rfl), HY3, HB3⟩
        obtain ⟨p92, q92⟩ := ieq_no (a := (bA s m).toNat) 92 (by omega)
        by_cases c39 : (bA s m).toNat = 39
        · obtain ⟨a39, b39⟩ := ieq_yes (a := (bA s m).toNat) 39 (by omega)
          have ev : bA s m = 39 := UInt8.toNat_inj.1 (by rw [c39]; rfl)
          have he := Lib.hid (show enc1 (bA s m) = [92, bA s m] by rw [ev]; rfl)
          have hokb := Lib.hid (show okB (bA s m) = true by rw [ev]; rfl)
          clear ev c10 c9 c92 c39
          go_wp2_with (at_builtin; refine wpList_push2 rfl _ _ rfl w.heap.size wr g2 cap2 L 92 (bA s m) _ _ rfl rfl rfl hY.out rfl (by omega) hsz.out ?_; intro g3 cap3 w3 hY3 hb3)
          have HY3 := Lib.hid (show By w.heap.size w3 g3 cap3 (39 :: encL (s.data.toList.take (m + 1))) from by
            rw [hsn.out, hen.out, he.out, ← List.cons_append, HL.out]; exact hY3)
          have HB3 := Lib.hid (hb.out.trans hb3)
          have hlen := Lib.hid (show L.length + 2 = (39 :: encL (s.data.toList.take (m + 1))).length by rw [hsn.out, hen.out, he.out, ← List.cons_append, HL.out, List.length_append]; rfl)
          clear hY3 hb3
          go_wp2
          go_roundg (s.size - (m + 1))
          case measure => omega
          case rel => exact ⟨m + 1, g3, cap3, rfl, by omega, by rw [← hlen.out], by go_num, Lib.hid (by rw [hsn.out, okL_snoc, hok.out, hokb.out]; rfl), HY3, HB3⟩
        obtain ⟨p39, q39⟩ := ieq_no (a := (bA s m).toNat) 39 (by omega)
        by_cases c32 : (bA s m).toNat < 32
        · have t1 : (((bA s m).toNat : Nat) : Int) < 32 := by omega
          have hbad := Lib.hid (show okL s.data.toList = false from okL_no hlt (by
            unfold okB
            simp only [Bool.or_eq_false_iff, Bool.and_eq_false_iff, beq_eq_false_iff_ne, decide_eq_false_iff_not]
            exact ⟨⟨fun e => c10 (by rw [e]; rfl), fun e => c9 (by rw [e]; rfl)⟩, .inl (by omega)⟩))
          clear c10 c9 c92 c39 c32
          go_wp2
          go_ret
          exact ⟨ret_s (by rw [hqs.out, if_neg (by rw [hbad.out]; decide)]), hb.out⟩
        have t1 : ¬ ((((bA s m).toNat : Nat) : Int) < 32) := by omega
        by_cases c126 : 126 < (bA s m).toNat
        · have t2 : (126 : Int) < (((bA s m).toNat : Nat) : Int) := by omega
          have hbad := Lib.hid (show okL s.data.toList = false from okL_no hlt (by
            unfold okB
            simp only [Bool.or_eq_false_iff, Bool.and_eq_false_iff, beq_eq_false_iff_ne, decide_eq_false_iff_not]
            exact ⟨⟨fun e => c10 (by rw [e]; rfl), fun e => c9 (by rw [e]; rfl)⟩, .inr (by omega)⟩))
          clear c10 c9 c92 c39 c32 c126
          go_wp2
          go_ret
          exact ⟨ret_s (by rw [hqs.out, if_neg (by rw [hbad.out]; decide)]), hb.out⟩
        have t2 : ¬ ((126 : Int) < (((bA s m).toNat : Nat) : Int)) := by omega
        have he := Lib.hid (show enc1 (bA s m) = [bA s m] by
          unfold enc1
          rw [if_neg (fun e => c10 (by rw [e]; rfl)), if_neg (fun e => c9 (by rw [e]; rfl)), if_neg]
          rintro (e | e)
          · exact c92 (by rw [e]; rfl)
          · exact c39 (by rw [e]; rfl))
        have hokb := Lib.hid (show okB (bA s m) = true by
          unfold okB
          simp only [Bool.or_eq_true, Bool.and_eq_true, decide_eq_true_eq]
          exact .inr ⟨by omega, by omega⟩)
        clear c10 c9 c92 c39 c32 c126
        go_wp2_with (at_builtin; refine wpList_push1 rfl _ _ rfl w.heap.size wr g2 cap2 L (bA s m) _ rfl rfl hY.out rfl (by omega) hsz.out ?_; intro g3 cap3 w3 hY3 hb3)
        have HY3 := Lib.hid (show By w.heap.size w3 g3 cap3 (39 :: encL (s.data.toList.take (m + 1))) from by
          rw [hsn.out, hen.out, he.out, ← List.cons_append, HL.out]; exact hY3)
        have HB3 := Lib.hid (hb.out.trans hb3)
        have hlen := Lib.hid (show L.length + 1 = (39 :: encL (s.data.toList.take (m + 1))).length by rw [hsn.out, hen.out, he.out, ← List.cons_append, HL.out, List.length_append]; rfl)
        clear hY3 hb3
        go_wp2
        go_roundg (s.size - (m + 1))
        case measure => omega
        case rel => exact ⟨m + 1, g3, cap3, rfl, by omega, by rw [← hlen.out], by go_num, Lib.hid (by rw [hsn.out, okL_snoc, hok.out, hokb.out]; rfl), HY3, HB3⟩
      · have hlt2 : ¬ ((m : Int) < s.size) := by omega
        have htk := Lib.hid (show s.data.toList.take m = s.data.toList from List.take_of_length_le (by simp; omega))
        generalize hL : (39 :: encL (s.data.toList.take m)) = L at *
        have HL := Lib.hid hL
        clear hL
        go_wp2_with (at_builtin; refine wpList_push1 rfl _ _ rfl w.heap.size wr g2 cap2 L 39 _ rfl rfl hY.out rfl (by omega) hsz.out ?_; intro g3 cap3 w3 hY3 hb3; have hcv := hY3.conv; rw [List.length_append, List.length_singleton] at hcv; have HB3 := Lib.hid (hb.out.trans hb3); clear hY3 hb3)
        go_ret
        exact ⟨ret_s (by rw [hqs.out, if_pos (by rw [← htk.out]; exact hok.out), ← HL.out, htk.out]; rfl), HB3.out⟩
theorem rquote_c (s : ByteArray) (w : World) (hs : s.size ≤ 1024) :
    Calls Try.prog 12 #[.string s] w fun e w' => e = .returned (.string ⟨(quoteS s.data.toList).toArray⟩) ∧ Below w.heap.size w w' := by
  cases h1 : isOne s.data.toList (toks s.data.toList) with
  | true => exact rquote_yes s w hs h1
  | false => exact rquote_no s w hs h1
end Go.Proofs.Ytdcggedggngpoaa.lx
