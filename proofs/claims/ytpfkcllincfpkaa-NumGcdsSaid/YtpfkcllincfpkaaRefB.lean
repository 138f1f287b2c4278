/- Contracts of the reference's functions on digits: of, plus, less. -/
import Derived.Test.YtpfkcllincfpkaaRefA
import Derived.Laws.ResultCell
namespace Go.Proofs.Ytpfkcllincfpkaa.dg
open Go.RowKit

/-- what a number's wide one is -/
def Wide (w w' : World) (e : Ending) (s : Bool) (n : Nat) : Prop :=
  ∃ g cap, e = .returned (.agg #[.bool s, .slice (some ⟨g, 0, none⟩) (digs n).length cap]) ∧ Sl w' g cap (digs n) ∧ Below w.heap.size w w'

theorem digs_short {n : Nat} (h : n ≤ 9223372036854775808) : (digs n).length ≤ 5 := digs_len_lt (by omega)

theorem wide_end {w wr : World} {g cap n : Nat} {s : Bool} {o : List Nat} {C : Array Value} {t : TypeId} (hown : SlB (w.heap.size + 1) wr g cap o) (hb : Below (w.heap.size + 1) (w.alloc (.cells C t)) wr) (hD : Hid (digs n = o)) {v u : Value} :
    Wide w ((wr.setCell ⟨w.heap.size, 0, none⟩ v).setCell ⟨w.heap.size, 1, none⟩ u) (.returned (.agg #[.bool s, .slice (some ⟨g, 0, none⟩) o.length cap])) s n := by
  have h1 := hD.out
  subst h1
  refine ⟨g, cap, rfl, ?_, ?_⟩
  · exact SlB.mono (ownsRow_setCell_below (ownsRow_setCell_below hown (by simp) _) (by simp) _) (Nat.zero_le _)
  · exact ((((Below.refl _ _).alloc (Nat.le_refl _) _).trans (hb.mono (by omega))).setCell (Nat.le_refl _) _).setCell (Nat.le_refl _) _

theorem of_c (a : Int) (ha : -9223372036854775808 ≤ a ∧ a ≤ 9223372036854775807) (w : World) :
    Calls Try.prog 45 #[.int .i64 a] w fun e w' => Wide w w' e (decide (a < 0)) a.natAbs := by
  have hN := Lib.hid (digs_short (n := a.natAbs) (by omega))
  by_cases h0 : a < 0
  · have hd : decide (a < 0) = true := by simp; omega
    rw [hd]
    go_enter Try.func45, Try.ntmps45
    go_wp2
    go_loopw [4, 3] (fun v n wr => ∃ (m g cap : Nat) (o : List Nat), n = .int .u64 m ∧ v = .slice (some ⟨g, 0, none⟩) o.length cap ∧ SlB (w.heap.size + 1) wr g cap o ∧ Hid (digs a.natAbs = o ++ digs m) ∧ m ≤ 18446744073709551615 ∧ Below (w.heap.size + 1) (w.alloc (.cells #[.bool false, .slice none 0 0] 36)) wr) (fun _ n _ => (intOf n).toNat)
    case atStart =>
      refine ⟨a.natAbs, w.heap.size + 1, 0, [], by go_num, rfl, ?_, Lib.hid rfl, by omega, ?_⟩
      · have := SlB.empty (w.heap.size + 1) (w.alloc (.cells #[.bool false, .slice none 0 0] 36)) (by simp)
        simpa using this
      · exact (Below.refl _ _).alloc (by simp) _
    case round =>
      obtain ⟨m, g, cap, o, rfl, rfl, hown, hD, hm, hb⟩ := hrel
      have hz := hb.size
      have c0 : wr.cell? ⟨w.heap.size, 0, none⟩ = some (.bool false) := by rw [hb.cell (by simp)]; go_cell
      have c1 : wr.cell? ⟨w.heap.size, 1, none⟩ = some (.slice none 0 0) := by rw [hb.cell (by simp)]; go_cell
      have f0 : wr.frozen? ⟨w.heap.size, 0, none⟩ = false := by rw [hb.frozen (by simp)]; go_cell
      have f1 : wr.frozen? ⟨w.heap.size, 1, none⟩ = false := by rw [hb.frozen (by simp)]; go_cell
      have hl : o.length ≤ 5 := by have := hN.out; rw [hD.out] at this; simp at this; omega
      by_cases hm0 : m = 0
      · subst hm0
        have hD' := Lib.hid (show digs a.natAbs = o by have := hD.out; rwa [digs_zero, List.append_nil] at this)
        clear hD
        go_wp2
        refine bodyPost_ret (v := .agg #[.bool true, .slice (some ⟨g, 0, none⟩) o.length cap]) (by simp [results, Try.results45, go_sem, c0, c1]) rfl ?_
        exact wide_end hown hb hD'
      · go_wp2_with (at_builtin; refine wpList_push rfl _ _ rfl (w.heap.size + 1) _ g cap (m % 32768) o _ rfl hown rfl ?c1 ?c2 ?c3 ?c4)
        case c1 => go_num
        case c2 => first | omega | (simp at hz; omega)
        case c3 => first | omega | (simp at hz; omega)
        case c4 =>
          intro g' cap' w' hown' hb'
          have hD' := Lib.hid (show digs a.natAbs = (o ++ [m % 32768]) ++ digs (m / 32768) by rw [hD.out, digs_pos (by omega)]; simp)
          have hb2 := hb.trans hb'
          have hl2 := Lib.hid (show (o ++ [m % 32768]).length = o.length + 1 by simp)
          generalize o ++ [m % 32768] = o' at *
          clear hown hD hb c0 c1 f0 f1 hb' hl
          go_wp2
          exact ⟨⟨m / 32768, g', cap', o', by go_num, by rw [hl2.out], hown', hD', by omega, hb2⟩, by simp [intOf]; omega⟩
  · have hd : decide (a < 0) = false := by simp; omega
    rw [hd]
    go_enter Try.func45, Try.ntmps45
    go_wp2
    go_loopw [4, 3] (fun v n wr => ∃ (m g cap : Nat) (o : List Nat), n = .int .u64 m ∧ v = .slice (some ⟨g, 0, none⟩) o.length cap ∧ SlB (w.heap.size + 1) wr g cap o ∧ Hid (digs a.natAbs = o ++ digs m) ∧ m ≤ 18446744073709551615 ∧ Below (w.heap.size + 1) (w.alloc (.cells #[.bool false, .slice none 0 0] 36)) wr) (fun _ n _ => (intOf n).toNat)
    case atStart =>
      refine ⟨a.natAbs, w.heap.size + 1, 0, [], by go_num, rfl, ?_, Lib.hid rfl, by omega, ?_⟩
      · have := SlB.empty (w.heap.size + 1) (w.alloc (.cells #[.bool false, .slice none 0 0] 36)) (by simp)
        simpa using this
      · exact (Below.refl _ _).alloc (by simp) _
    case round =>
      obtain ⟨m, g, cap, o, rfl, rfl, hown, hD, hm, hb⟩ := hrel
      have hz := hb.size
      have c0 : wr.cell? ⟨w.heap.size, 0, none⟩ = some (.bool false) := by rw [hb.cell (by simp)]; go_cell
      have c1 : wr.cell? ⟨w.heap.size, 1, none⟩ = some (.slice none 0 0) := by rw [hb.cell (by simp)]; go_cell
      have f0 : wr.frozen? ⟨w.heap.size, 0, none⟩ = false := by rw [hb.frozen (by simp)]; go_cell
      have f1 : wr.frozen? ⟨w.heap.size, 1, none⟩ = false := by rw [hb.frozen (by simp)]; go_cell
      have hl : o.length ≤ 5 := by have := hN.out; rw [hD.out] at this; simp at this; omega
      by_cases hm0 : m = 0
      · subst hm0
        have hD' := Lib.hid (show digs a.natAbs = o by have := hD.out; rwa [digs_zero, List.append_nil] at this)
        clear hD
        go_wp2
        refine bodyPost_ret (v := .agg #[.bool false, .slice (some ⟨g, 0, none⟩) o.length cap]) (by simp [results, Try.results45, go_sem, c0, c1]) rfl ?_
        exact wide_end hown hb hD'
      · go_wp2_with (at_builtin; refine wpList_push rfl _ _ rfl (w.heap.size + 1) _ g cap (m % 32768) o _ rfl hown rfl ?c1 ?c2 ?c3 ?c4)
        case c1 => go_num
        case c2 => first | omega | (simp at hz; omega)
        case c3 => first | omega | (simp at hz; omega)
        case c4 =>
          intro g' cap' w' hown' hb'
          have hD' := Lib.hid (show digs a.natAbs = (o ++ [m % 32768]) ++ digs (m / 32768) by rw [hD.out, digs_pos (by omega)]; simp)
          have hb2 := hb.trans hb'
          have hl2 := Lib.hid (show (o ++ [m % 32768]).length = o.length + 1 by simp)
          generalize o ++ [m % 32768] = o' at *
          clear hown hD hb c0 c1 f0 f1 hb' hl
          go_wp2
          exact ⟨⟨m / 32768, g', cap', o', by go_num, by rw [hl2.out], hown', hD', by omega, hb2⟩, by simp [intOf]; omega⟩

/-- what a list of digits comes to -/
def Gives (w w' : World) (e : Ending) (n : Nat) : Prop :=
  ∃ g cap, e = .returned (.slice (some ⟨g, 0, none⟩) (digs n).length cap) ∧ SlB w.heap.size w' g cap (digs n) ∧ Below w.heap.size w w'

theorem plus_c (w : World) (g cap g' cap' m n : Nat) (h : Sl w g cap (digs m)) (h' : Sl w g' cap' (digs n)) (hb1 : (digs m).length ≤ 100000) (hb2 : (digs n).length ≤ 100000) :
    Calls Try.prog 57 #[.slice (some ⟨g, 0, none⟩) (digs m).length cap, .slice (some ⟨g', 0, none⟩) (digs n).length cap'] w fun e w' => Gives w w' e (m + n) := by
  have hS := Lib.hid (show trimL (sumD (digs m) (digs n) 0) = digs (m + n) by rw [trimL_val (sumD_low _ _ _), sumD_val, val_digs, val_digs, Nat.add_zero])
  have l1 := Lib.hid (digs_low m)
  have l2 := Lib.hid (digs_low n)
  generalize digs m = a at *
  generalize digs n = b at *
  go_enter Try.func57, Try.ntmps57
  go_wp2
  go_loopw [6, 5, 7] (fun c v i wr => ∃ (k q g2 cap2 : Nat) (o : List Nat), c = .int .i64 q ∧ v = .slice (some ⟨g2, 0, none⟩) o.length cap2 ∧ i = .int .i64 k ∧ Hid (o.length = k) ∧ SlB w.heap.size wr g2 cap2 o ∧ Hid (sumD a b 0 = o ++ sumD (a.drop k) (b.drop k) q) ∧ q ≤ 1 ∧ (q = 0 ∨ k ≤ a.length ∨ k ≤ b.length) ∧ Below w.heap.size w wr ∧ k ≤ 200000) (fun _ _ i _ => a.length + b.length + 1 - (intOf i).toNat)
  case atStart =>
    refine ⟨0, 0, w.heap.size, 0, [], rfl, rfl, rfl, Lib.hid rfl, SlB.empty _ _ (Nat.le_refl _), Lib.hid rfl, by omega, .inl rfl, (Below.refl _ _).alloc (Nat.le_refl _) _, by omega⟩
  case round =>
    obtain ⟨k, q, g2, cap2, o, rfl, rfl, rfl, hol, hown, hD, hq, hqk, hb, hk⟩ := hrel
    have hz := hb.size
    have hl : o.length ≤ 200000 := by have := hol.out; omega
    have hr := h.stay hb
    have hr' := h'.stay hb
    by_cases ha : k < a.length
    · by_cases hbb : k < b.length
      · have hc := hr.cell k (by omega)
        have hx := l1.out _ (List.getElem_mem (show k < a.length by omega))
        have hc' := hr'.cell k (by omega)
        have hy := l2.out _ (List.getElem_mem (show k < b.length by omega))
        have hD' := Lib.hid (show sumD a b 0 = (o ++ [(q + a[k] + b[k]) % 32768]) ++ sumD (a.drop (k + 1)) (b.drop (k + 1)) ((q + a[k] + b[k]) / 32768) by rw [hD.out, List.drop_eq_getElem_cons (show k < a.length by omega), List.drop_eq_getElem_cons (show k < b.length by omega), sumD]; simp)
        go_wp2_with (at_builtin; refine wpList_push rfl _ _ rfl w.heap.size _ g2 cap2 ((q + a[k] + b[k]) % 32768) o _ rfl hown rfl ?c1a ?c2a ?c3a ?c4a)
        try (case c1a => go_num)
        try (case c2a => first | omega | (simp at hz; omega))
        try (case c3a => first | omega | (simp at hz; omega))
        case c4a =>
          intro g3 cap3 w' hown' hb'
          have hb2 := hb.trans hb'
          have hl2 := Lib.hid (show (o ++ [(q + a[k] + b[k]) % 32768]).length = o.length + 1 by simp)
          have hl3 := Lib.hid (show (o ++ [(q + a[k] + b[k]) % 32768]).length = k + 1 by simp [hol.out])
          generalize o ++ [(q + a[k] + b[k]) % 32768] = o' at *
          clear hown hD hb hb' hl hr hr' hol
          go_wp2
          exact ⟨⟨k + 1, (q + a[k] + b[k]) / 32768, g3, cap3, o', by go_num, by rw [hl2.out], by go_num, hl3, hown', hD', by omega, by omega, hb2, by omega⟩, by simp [intOf]; omega⟩
      · have hc := hr.cell k (by omega)
        have hx := l1.out _ (List.getElem_mem (show k < a.length by omega))
        have hD' := Lib.hid (show sumD a b 0 = (o ++ [(q + a[k]) % 32768]) ++ sumD (a.drop (k + 1)) (b.drop (k + 1)) ((q + a[k]) / 32768) by rw [hD.out, List.drop_eq_getElem_cons (show k < a.length by omega), List.drop_eq_nil_of_le (show b.length ≤ k by omega), sumD, List.drop_eq_nil_of_le (show b.length ≤ k + 1 by omega)]; simp)
        go_wp2_with (at_builtin; refine wpList_push rfl _ _ rfl w.heap.size _ g2 cap2 ((q + a[k]) % 32768) o _ rfl hown rfl ?c1b ?c2b ?c3b ?c4b)
        try (case c1b => go_num)
        try (case c2b => first | omega | (simp at hz; omega))
        try (case c3b => first | omega | (simp at hz; omega))
        case c4b =>
          intro g3 cap3 w' hown' hb'
          have hb2 := hb.trans hb'
          have hl2 := Lib.hid (show (o ++ [(q + a[k]) % 32768]).length = o.length + 1 by simp)
          have hl3 := Lib.hid (show (o ++ [(q + a[k]) % 32768]).length = k + 1 by simp [hol.out])
          generalize o ++ [(q + a[k]) % 32768] = o' at *
          clear hown hD hb hb' hl hr hr' hol
          go_wp2
          exact ⟨⟨k + 1, (q + a[k]) / 32768, g3, cap3, o', by go_num, by rw [hl2.out], by go_num, hl3, hown', hD', by omega, by omega, hb2, by omega⟩, by simp [intOf]; omega⟩
    · by_cases hbb : k < b.length
      · have hc' := hr'.cell k (by omega)
        have hy := l2.out _ (List.getElem_mem (show k < b.length by omega))
        have hD' := Lib.hid (show sumD a b 0 = (o ++ [(q + b[k]) % 32768]) ++ sumD (a.drop (k + 1)) (b.drop (k + 1)) ((q + b[k]) / 32768) by rw [hD.out, List.drop_eq_nil_of_le (show a.length ≤ k by omega), List.drop_eq_getElem_cons (show k < b.length by omega), sumD, List.drop_eq_nil_of_le (show a.length ≤ k + 1 by omega)]; simp)
        go_wp2_with (at_builtin; refine wpList_push rfl _ _ rfl w.heap.size _ g2 cap2 ((q + b[k]) % 32768) o _ rfl hown rfl ?c1c ?c2c ?c3c ?c4c)
        try (case c1c => go_num)
        try (case c2c => first | omega | (simp at hz; omega))
        try (case c3c => first | omega | (simp at hz; omega))
        case c4c =>
          intro g3 cap3 w' hown' hb'
          have hb2 := hb.trans hb'
          have hl2 := Lib.hid (show (o ++ [(q + b[k]) % 32768]).length = o.length + 1 by simp)
          have hl3 := Lib.hid (show (o ++ [(q + b[k]) % 32768]).length = k + 1 by simp [hol.out])
          generalize o ++ [(q + b[k]) % 32768] = o' at *
          clear hown hD hb hb' hl hr hr' hol
          go_wp2
          exact ⟨⟨k + 1, (q + b[k]) / 32768, g3, cap3, o', by go_num, by rw [hl2.out], by go_num, hl3, hown', hD', by omega, by omega, hb2, by omega⟩, by simp [intOf]; omega⟩
      · by_cases hq0 : 0 < q
        · have hD' := Lib.hid (show sumD a b 0 = (o ++ [(q) % 32768]) ++ sumD (a.drop (k + 1)) (b.drop (k + 1)) ((q) / 32768) by rw [hD.out, List.drop_eq_nil_of_le (show a.length ≤ k by omega), List.drop_eq_nil_of_le (show b.length ≤ k by omega), List.drop_eq_nil_of_le (show a.length ≤ k + 1 by omega), List.drop_eq_nil_of_le (show b.length ≤ k + 1 by omega), sumD, sumD, digs_pos (show 0 < q by omega)]; simp)
          go_wp2_with (at_builtin; refine wpList_push rfl _ _ rfl w.heap.size _ g2 cap2 ((q) % 32768) o _ rfl hown rfl ?c1d ?c2d ?c3d ?c4d)
          try (case c1d => go_num)
          try (case c2d => first | omega | (simp at hz; omega))
          try (case c3d => first | omega | (simp at hz; omega))
          case c4d =>
            intro g3 cap3 w' hown' hb'
            have hb2 := hb.trans hb'
            have hl2 := Lib.hid (show (o ++ [(q) % 32768]).length = o.length + 1 by simp)
            have hl3 := Lib.hid (show (o ++ [(q) % 32768]).length = k + 1 by simp [hol.out])
            generalize o ++ [(q) % 32768] = o' at *
            clear hown hD hb hb' hl hr hr' hol
            go_wp2
            exact ⟨⟨k + 1, (q) / 32768, g3, cap3, o', by go_num, by rw [hl2.out], by go_num, hl3, hown', hD', by omega, by omega, hb2, by omega⟩, by simp [intOf]; omega⟩
        · have hD' := Lib.hid (show sumD a b 0 = o by have := hD.out; rw [List.drop_eq_nil_of_le (show a.length ≤ k by omega), List.drop_eq_nil_of_le (show b.length ≤ k by omega), show q = 0 from by omega, sumD, digs_zero, List.append_nil] at this; exact this)
          clear hD
          go_wp2_with (go_at_call 59; refine (trim_c _ g2 cap2 o (hown.mono (Nat.zero_le _))).mono ?_; rintro e w' ⟨rfl, rfl⟩)
          go_ret
          refine ⟨g2, cap2, slice_len (by rw [← hS.out, hD'.out]), ?_, hb⟩
          rw [← hS.out, hD'.out, trimL_pre]
          exact hown.cut _

theorem less_c (w : World) (g cap g' cap' m n : Nat) (h : Sl w g cap (digs m)) (h' : Sl w g' cap' (digs n)) (hb1 : (digs m).length ≤ 100000) (hmn : n ≤ m) :
    Calls Try.prog 58 #[.slice (some ⟨g, 0, none⟩) (digs m).length cap, .slice (some ⟨g', 0, none⟩) (digs n).length cap'] w fun e w' => Gives w w' e (m - n) := by
  have hS := Lib.hid (show trimL (lessD (digs m) (digs n) 0) = digs (m - n) by
    obtain ⟨i1, _, i3⟩ := lessD_val (digs m) (digs n) 0 (digs_low m) (digs_low n) (by omega) (by rw [val_digs, val_digs]; exact hmn)
    rw [trimL_val i1, i3, val_digs, val_digs, Nat.add_zero])
  have l1 := Lib.hid (digs_low m)
  have l2 := Lib.hid (digs_low n)
  obtain ⟨s1, s2, _⟩ := h'.small
  unfold maxLen at s2
  generalize digs m = a at *
  generalize digs n = b at *
  go_enter Try.func58, Try.ntmps58
  go_wp2
  go_loopw [5, 6, 7] (fun v c i wr => ∃ (k q g2 cap2 : Nat) (o : List Nat), c = .int .i64 q ∧ v = .slice (some ⟨g2, 0, none⟩) o.length cap2 ∧ i = .int .i64 k ∧ Hid (o.length = k) ∧ SlB w.heap.size wr g2 cap2 o ∧ Hid (lessD a b 0 = o ++ lessD (a.drop k) (b.drop k) q) ∧ q ≤ 1 ∧ Below w.heap.size w wr ∧ k ≤ a.length) (fun _ _ i _ => a.length - (intOf i).toNat)
  case atStart =>
    refine ⟨0, 0, w.heap.size, 0, [], rfl, rfl, rfl, Lib.hid rfl, SlB.empty _ _ (Nat.le_refl _), Lib.hid rfl, by omega, (Below.refl _ _).alloc (Nat.le_refl _) _, by omega⟩
  case round =>
    obtain ⟨k, q, g2, cap2, o, rfl, rfl, rfl, hol, hown, hD, hq, hb, hk⟩ := hrel
    have hz := hb.size
    have hl : o.length ≤ 200000 := by have := hol.out; omega
    have hr := h.stay hb
    have hr' := h'.stay hb
    by_cases ha : k < a.length
    · have hc := hr.cell k (by omega)
      have hx := l1.out _ (List.getElem_mem (show k < a.length by omega))
      by_cases hbb : k < b.length
      · by_cases hx0 : ((a[k] : Nat) : Int) - (q : Int) - ((b[k] : Nat) : Int) < 0
        · have hc' := hr'.cell k (by omega)
          have hy := l2.out _ (List.getElem_mem (show k < b.length by omega))
          have hD' := Lib.hid (show lessD a b 0 = (o ++ [low1 (((a[k] : Nat) : Int) - (q : Int) - ((b[k] : Nat) : Int))]) ++ lessD (a.drop (k + 1)) (b.drop (k + 1)) (lent (((a[k] : Nat) : Int) - (q : Int) - ((b[k] : Nat) : Int))) by rw [hD.out, List.drop_eq_getElem_cons (show k < a.length by omega), List.drop_eq_getElem_cons (show k < b.length by omega), lessD]; simp)
          have hlo := Lib.hid (show (((a[k] : Nat) : Int) - (q : Int) - ((b[k] : Nat) : Int)) + 32768 = (low1 (((a[k] : Nat) : Int) - (q : Int) - ((b[k] : Nat) : Int)) : Nat) by unfold low1; rw [if_pos (by omega)]; omega)
          have hle := Lib.hid (show lent (((a[k] : Nat) : Int) - (q : Int) - ((b[k] : Nat) : Int)) = 1 from if_pos (by omega))
          generalize low1 (((a[k] : Nat) : Int) - (q : Int) - ((b[k] : Nat) : Int)) = d at hD' hlo
          generalize lent (((a[k] : Nat) : Int) - (q : Int) - ((b[k] : Nat) : Int)) = u at hD' hle
          go_wp2_with (at_builtin; refine wpList_push rfl _ _ rfl w.heap.size _ g2 cap2 d o _ rfl hown rfl ?c1aa ?c2aa ?c3aa ?c4aa)
          try (case c1aa => exact hlo.out)
          try (case c2aa => first | omega | (simp at hz; omega))
          try (case c3aa => first | omega | (simp at hz; omega))
          case c4aa =>
            intro g3 cap3 w' hown' hb'
            have hb2 := hb.trans hb'
            have hl2 := Lib.hid (show (o ++ [d]).length = o.length + 1 by simp)
            have hl3 := Lib.hid (show (o ++ [d]).length = k + 1 by simp [hol.out])
            rw [hle.out] at hD'
            generalize o ++ [d] = o' at *
            clear hown hD hb hb' hl hr hr' hol hlo
            go_wp2
            exact ⟨⟨k + 1, 1, g3, cap3, o', by go_num, by rw [hl2.out], by go_num, hl3, hown', hD', by omega, hb2, by omega⟩, by simp [intOf]; omega⟩
        · have hc' := hr'.cell k (by omega)
          have hy := l2.out _ (List.getElem_mem (show k < b.length by omega))
          have hD' := Lib.hid (show lessD a b 0 = (o ++ [low1 (((a[k] : Nat) : Int) - (q : Int) - ((b[k] : Nat) : Int))]) ++ lessD (a.drop (k + 1)) (b.drop (k + 1)) (lent (((a[k] : Nat) : Int) - (q : Int) - ((b[k] : Nat) : Int))) by rw [hD.out, List.drop_eq_getElem_cons (show k < a.length by omega), List.drop_eq_getElem_cons (show k < b.length by omega), lessD]; simp)
          have hlo := Lib.hid (show (((a[k] : Nat) : Int) - (q : Int) - ((b[k] : Nat) : Int)) = (low1 (((a[k] : Nat) : Int) - (q : Int) - ((b[k] : Nat) : Int)) : Nat) by unfold low1; rw [if_neg (by omega)]; omega)
          have hle := Lib.hid (show lent (((a[k] : Nat) : Int) - (q : Int) - ((b[k] : Nat) : Int)) = 0 from if_neg (by omega))
          generalize low1 (((a[k] : Nat) : Int) - (q : Int) - ((b[k] : Nat) : Int)) = d at hD' hlo
          generalize lent (((a[k] : Nat) : Int) - (q : Int) - ((b[k] : Nat) : Int)) = u at hD' hle
          go_wp2_with (at_builtin; refine wpList_push rfl _ _ rfl w.heap.size _ g2 cap2 d o _ rfl hown rfl ?c1ab ?c2ab ?c3ab ?c4ab)
          try (case c1ab => exact hlo.out)
          try (case c2ab => first | omega | (simp at hz; omega))
          try (case c3ab => first | omega | (simp at hz; omega))
          case c4ab =>
            intro g3 cap3 w' hown' hb'
            have hb2 := hb.trans hb'
            have hl2 := Lib.hid (show (o ++ [d]).length = o.length + 1 by simp)
            have hl3 := Lib.hid (show (o ++ [d]).length = k + 1 by simp [hol.out])
            rw [hle.out] at hD'
            generalize o ++ [d] = o' at *
            clear hown hD hb hb' hl hr hr' hol hlo
            go_wp2
            exact ⟨⟨k + 1, 0, g3, cap3, o', by go_num, by rw [hl2.out], by go_num, hl3, hown', hD', by omega, hb2, by omega⟩, by simp [intOf]; omega⟩
      · by_cases hx0 : ((a[k] : Nat) : Int) - (q : Int) < 0
        · have hD' := Lib.hid (show lessD a b 0 = (o ++ [low1 (((a[k] : Nat) : Int) - (q : Int))]) ++ lessD (a.drop (k + 1)) (b.drop (k + 1)) (lent (((a[k] : Nat) : Int) - (q : Int))) by rw [hD.out, List.drop_eq_getElem_cons (show k < a.length by omega), List.drop_eq_nil_of_le (show b.length ≤ k by omega), lessD, List.drop_eq_nil_of_le (show b.length ≤ k + 1 by omega)]; simp)
          have hlo := Lib.hid (show (((a[k] : Nat) : Int) - (q : Int)) + 32768 = (low1 (((a[k] : Nat) : Int) - (q : Int)) : Nat) by unfold low1; rw [if_pos (by omega)]; omega)
          have hle := Lib.hid (show lent (((a[k] : Nat) : Int) - (q : Int)) = 1 from if_pos (by omega))
          generalize low1 (((a[k] : Nat) : Int) - (q : Int)) = d at hD' hlo
          generalize lent (((a[k] : Nat) : Int) - (q : Int)) = u at hD' hle
          go_wp2_with (at_builtin; refine wpList_push rfl _ _ rfl w.heap.size _ g2 cap2 d o _ rfl hown rfl ?c1ba ?c2ba ?c3ba ?c4ba)
          try (case c1ba => exact hlo.out)
          try (case c2ba => first | omega | (simp at hz; omega))
          try (case c3ba => first | omega | (simp at hz; omega))
          case c4ba =>
            intro g3 cap3 w' hown' hb'
            have hb2 := hb.trans hb'
            have hl2 := Lib.hid (show (o ++ [d]).length = o.length + 1 by simp)
            have hl3 := Lib.hid (show (o ++ [d]).length = k + 1 by simp [hol.out])
            rw [hle.out] at hD'
            generalize o ++ [d] = o' at *
            clear hown hD hb hb' hl hr hr' hol hlo
            go_wp2
            exact ⟨⟨k + 1, 1, g3, cap3, o', by go_num, by rw [hl2.out], by go_num, hl3, hown', hD', by omega, hb2, by omega⟩, by simp [intOf]; omega⟩
        · have hD' := Lib.hid (show lessD a b 0 = (o ++ [low1 (((a[k] : Nat) : Int) - (q : Int))]) ++ lessD (a.drop (k + 1)) (b.drop (k + 1)) (lent (((a[k] : Nat) : Int) - (q : Int))) by rw [hD.out, List.drop_eq_getElem_cons (show k < a.length by omega), List.drop_eq_nil_of_le (show b.length ≤ k by omega), lessD, List.drop_eq_nil_of_le (show b.length ≤ k + 1 by omega)]; simp)
          have hlo := Lib.hid (show (((a[k] : Nat) : Int) - (q : Int)) = (low1 (((a[k] : Nat) : Int) - (q : Int)) : Nat) by unfold low1; rw [if_neg (by omega)]; omega)
          have hle := Lib.hid (show lent (((a[k] : Nat) : Int) - (q : Int)) = 0 from if_neg (by omega))
          generalize low1 (((a[k] : Nat) : Int) - (q : Int)) = d at hD' hlo
          generalize lent (((a[k] : Nat) : Int) - (q : Int)) = u at hD' hle
          go_wp2_with (at_builtin; refine wpList_push rfl _ _ rfl w.heap.size _ g2 cap2 d o _ rfl hown rfl ?c1bb ?c2bb ?c3bb ?c4bb)
          try (case c1bb => exact hlo.out)
          try (case c2bb => first | omega | (simp at hz; omega))
          try (case c3bb => first | omega | (simp at hz; omega))
          case c4bb =>
            intro g3 cap3 w' hown' hb'
            have hb2 := hb.trans hb'
            have hl2 := Lib.hid (show (o ++ [d]).length = o.length + 1 by simp)
            have hl3 := Lib.hid (show (o ++ [d]).length = k + 1 by simp [hol.out])
            rw [hle.out] at hD'
            generalize o ++ [d] = o' at *
            clear hown hD hb hb' hl hr hr' hol hlo
            go_wp2
            exact ⟨⟨k + 1, 0, g3, cap3, o', by go_num, by rw [hl2.out], by go_num, hl3, hown', hD', by omega, hb2, by omega⟩, by simp [intOf]; omega⟩
    · have hD' := Lib.hid (show lessD a b 0 = o by have := hD.out; rw [List.drop_eq_nil_of_le (show a.length ≤ k by omega), lessD, List.append_nil] at this; exact this)
      clear hD
      go_wp2_with (go_at_call 59; refine (trim_c _ g2 cap2 o (hown.mono (Nat.zero_le _))).mono ?_; rintro e w' ⟨rfl, rfl⟩)
      go_ret
      refine ⟨g2, cap2, slice_len (by rw [← hS.out, hD'.out]), ?_, hb⟩
      rw [← hS.out, hD'.out, trimL_pre]
      exact hown.cut _
end Go.Proofs.Ytpfkcllincfpkaa.dg
