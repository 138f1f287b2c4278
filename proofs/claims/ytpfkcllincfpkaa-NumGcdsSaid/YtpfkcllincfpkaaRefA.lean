/- Contracts of the reference's functions on digits: trim, order. -/
import Derived.Test.YtpfkcllincfpkaaProg
import Derived.Test.YtpfkcllincfpkaaDig
import Derived.WalkKit
import Derived.Handy
import Derived.Outline
import Derived.Lib.Hide
import Derived.BigQuiet
import Derived.Deep.QuietTactic
import Derived.RegionTactic
import Derived.WalkSmall
namespace Go.Proofs.Ytpfkcllincfpkaa.dg
open Go.RowKit

/-- numbers as values -/
def nums (l : List Nat) : List Value := l.map fun (d : Nat) => Value.int .i64 (d : Int)
theorem nums_len (l : List Nat) : (nums l).length = l.length := by simp [nums]
/-- in the world w the slice at block g of room cap holds the numbers l -/
def SlB (B : Nat) (w : World) (g cap : Nat) (l : List Nat) : Prop := w.ownsRow B 3 1 (.slice (some ⟨g, 0, none⟩) l.length cap) l.length (nums l)
abbrev Sl := SlB 0
theorem SlB.mono {B B' : Nat} {w : World} {g cap : Nat} {l : List Nat} (h : SlB B w g cap l) (hB : B' ≤ B) : SlB B' w g cap l := by
  refine ⟨h.1, ?_⟩
  rcases h.2 with h1 | ⟨g', cap', cur, h1, h2, h3⟩
  · exact .inl h1
  · exact .inr ⟨g', cap', cur, h1, Nat.le_trans hB h2, h3⟩
theorem SlB.lt {B : Nat} {w : World} {g cap : Nat} {l : List Nat} (h : SlB B w g cap l) : B ≤ g ∧ g < w.heap.size := (World.ownsRow.lt h) g rfl
theorem SlB.kept {B k : Nat} {w w' : World} {g cap : Nat} {l : List Nat} (h : SlB B w g cap l) (hb : Below k w w') (hg : g < k) : SlB B w' g cap l := by
  refine ⟨h.1, ?_⟩
  rcases h.2 with h1 | ⟨g', cap', cur, h1, h2, h3, h4⟩
  · exact .inl h1
  · simp at h1; obtain ⟨rfl, rfl⟩ := h1
    exact .inr ⟨g, cap, cur, rfl, h2, by rw [hb.block g hg]; exact h3, h4⟩
theorem SlB.stay {B : Nat} {w w' : World} {g cap : Nat} {l : List Nat} (h : SlB B w g cap l) (hb : Below w.heap.size w w') : SlB B w' g cap l := h.kept hb h.lt.2
theorem SlB.alloc {B : Nat} {w : World} {g cap : Nat} {l : List Nat} (h : SlB B w g cap l) (o : Obj) : SlB B (w.alloc o) g cap l := World.ownsRow.alloc h o
/-- a slice that is made empty -/
theorem SlB.empty (B : Nat) (w : World) (hB : B ≤ w.heap.size) : SlB B (w.alloc (.cells #[] 3)) w.heap.size 0 [] :=
  ⟨rfl, .inr ⟨w.heap.size, 0, #[], rfl, hB, heap_alloc_new w _, Nat.le_refl _, by unfold maxLen; omega, rfl, rfl⟩⟩
theorem SlB.cut {B : Nat} {w : World} {g cap : Nat} {l : List Nat} (h : SlB B w g cap l) (k : Nat) : SlB B w g cap (l.take k) := by
  have e : nums (l.take k) = (nums l).take k := by simp [nums, List.map_take]
  refine ⟨by rw [nums_len]; omega, ?_⟩
  rcases h.2 with ⟨h1, _⟩ | ⟨g', cap', cur, h1, h2, h3, h4, h5, h6, h7⟩
  · simp at h1
  · simp at h1; obtain ⟨rfl, rfl⟩ := h1
    have hle : (l.take k).length ≤ l.length := List.length_take_le' ..
    refine .inr ⟨g, cap, cur, rfl, h2, h3, by omega, h5, h6, ?_⟩
    rw [e, ← h7, List.take_take, Nat.mul_one, List.length_take, Nat.mul_one]

theorem info_int : (Try.prog.info? 3).map (fun i => (i.zero, i.size, i.bytes)) = some (some (.int .i64 0), 1, 8) := by kernel_rfl
/-- 'out = append(out, d)' behind the making of the slice of one element -/
theorem wpList_push {ops : Array Oper} {rest : List Oper} {o : Oper} {a : Act} {Q : Exit → Act → World → Prop} (hgd : o.guard = none) (s x : Operand)
    (ho : o.op = .call { callee := .builtin .append, args := #[s, x], argTypes := #[34, 34] })
    (B : Nat) (w : World) (g cap d : Nat) (l : List Nat) (e : Int) (hs : a.eval s = .slice (some ⟨g, 0, none⟩) l.length cap) (hown : SlB B w g cap l)
    (hx : a.eval x = .slice (some ⟨w.heap.size, 0, none⟩) 1 1) (he : e = (d : Int)) (hlen : l.length ≤ 1000000) (hB : B ≤ w.heap.size)
    (h : ∀ g' cap' w', SlB B w' g' cap' (l ++ [d]) → Below B w w' → wpList Try.prog ops Q rest (a.put o.dst (.slice (some ⟨g', 0, none⟩) (l.length + 1) cap')) w') :
    wpList Try.prog ops Q (o :: rest) a (w.alloc (.cells #[.int .i64 e] 3)) := by
  subst he
  obtain ⟨i0, hi, hz0, hz1, hz2⟩ := info_parts info_int
  refine wpList_append_own _ hgd s x 34 ho B 3 i0 (.int .i64 0) 1 8 Try.underlying34 hi hz0 hz1 hz2 rfl (by decide) _ l.length (nums l) hs (World.ownsRow.alloc hown _) ⟨w.heap.size, 0, none⟩ 1 1 [.int .i64 (d : Int)] hx rfl ?_ ?_ ?_ ?_ ?_ ?_
  · intro j u hj
    match j, hj with
    | 0, hj => simp at hj; subst hj; simp [Addr.add]
  · intro u hu; simp at hu; subst hu; rfl
  · unfold maxLen; omega
  · omega
  · simp; omega
  · intro v' w' hown' hgr hnil
    have e1 : nums l ++ [.int .i64 (d : Int)] = nums (l ++ [d]) := by simp [nums]
    rw [e1] at hown'
    have hb : Below B w w' := ((Below.refl B w).alloc hB _).grown hgr (by simp; omega) (fun k hk => by simp [Value.ownBlock] at hk; have := hown.lt.1; omega)
    rcases hown'.2 with ⟨h1, h2⟩ | ⟨g', cap', cur, h1, h2⟩
    · omega
    · subst h1
      refine h g' cap' w' ?_ hb
      have : SlB B w' g' cap' (l ++ [d]) := by unfold SlB; simpa using hown'
      exact this
theorem SlB.cell {B : Nat} {w : World} {g cap : Nat} {l : List Nat} (h : SlB B w g cap l) (j : Nat) (hj : j < l.length) : w.cell? ⟨g, j, none⟩ = some (.int .i64 (l[j] : Nat)) := by
  rw [World.ownsRow.cellAt h j (by omega)]; simp [nums, hj]
theorem SlB.small {B : Nat} {w : World} {g cap : Nat} {l : List Nat} (h : SlB B w g cap l) : l.length ≤ cap ∧ cap ≤ maxLen ∧ g < w.heap.size := by
  have hl := (World.ownsRow.lt h) g rfl
  rcases h.2 with ⟨h1, _⟩ | ⟨g', cap', cur, h1, _, _, h2, h3, _⟩
  · simp at h1
  · simp at h1; obtain ⟨rfl, rfl⟩ := h1; exact ⟨h2, h3, hl.2⟩

theorem slice_len {a : Option Addr} {m n cap : Nat} (h : m = n) : Ending.returned (.slice a m cap) = .returned (.slice a n cap) := by rw [h]

theorem trim_c (w : World) (g cap : Nat) (l : List Nat) (h : Sl w g cap l) :
    Calls Try.prog 59 #[.slice (some ⟨g, 0, none⟩) l.length cap] w fun e w' => e = .returned (.slice (some ⟨g, 0, none⟩) (trimL l).length cap) ∧ w = w' := by
  obtain ⟨b1, b2, _⟩ := h.small
  unfold maxLen at b2
  go_enter Try.func59, Try.ntmps59
  go_wp2
  go_loop [0] (fun v => ∃ k : Nat, k ≤ l.length ∧ v = .slice (some ⟨g, 0, none⟩) k cap ∧ Hid (trimL (l.take k) = trimL l)) (fun v => match v with | .slice _ k _ => k | _ => 0)
  case atStart => exact ⟨l.length, Nat.le_refl _, rfl, Lib.hid (by rw [List.take_length])⟩
  case round =>
    obtain ⟨k, hk, rfl, hT⟩ := hrel
    by_cases h0 : k = 0
    · subst h0
      go_wp2
      go_ret
      exact ⟨slice_len (by have := hT.out; rw [List.take_zero, trimL_nil] at this; rw [← this]; rfl), rfl⟩
    · obtain ⟨m, rfl⟩ : ∃ m, k = m + 1 := ⟨k - 1, by omega⟩
      have hc := h.cell m (by omega)
      have hs := Lib.hid (show l.take (m + 1) = l.take m ++ [l[m]] from List.take_succ_eq_append_getElem (by omega))
      by_cases hz : l[m] = 0
      · have hz' : (((l[m] : Nat) : Int) == 0) = true := by simp [hz]
        have hz2 := Lib.hid hz
        clear hz
        go_wp2
        exact ⟨⟨m, by omega, rfl, Lib.hid (by rw [← hT.out, hs.out, hz2.out, trimL_zero])⟩, by simp⟩
      · have hz' : (((l[m] : Nat) : Int) == 0) = false := by simp; omega
        have hz2 := Lib.hid hz
        clear hz
        go_wp2
        go_ret
        exact ⟨slice_len (by rw [← hT.out, hs.out, trimL_ne _ hz2.out]; simp; omega), rfl⟩

theorem val_take_succ (l : List Nat) (k : Nat) (h : k < l.length) : l = l.take k ++ l[k] :: l.drop (k + 1) := by
  rw [List.getElem_cons_drop, List.take_append_drop]

/-- which of two numbers is the greater one -/
def ord (a b : Nat) : Int := if a < b then -1 else if b < a then 1 else 0

theorem low_lt {a b : List Nat} {k : Nat} (la : Low a) (hl : a.length = b.length) (hk : k < a.length) (hd : a.drop (k + 1) = b.drop (k + 1)) (h : a[k] < b[k]'(by omega)) : val a < val b := by
  have ha := val_take_succ a k hk
  have hb := val_take_succ b k (by omega)
  rw [ha, hb, hd]
  exact val_low_lt (fun d hd => la d (List.mem_of_mem_take hd)) (by simp; omega) h
theorem ret_int {k : IntKind} {a b : Int} (h : a = b) : Ending.returned (.int k a) = .returned (.int k b) := by rw [h]

theorem drewN_some2 (w : World) (a b : Nat) : ∃ k, (w.drewN a).drewN b = w.drewN k := ⟨_, World.drewN_drewN ..⟩
theorem drewN_some3 (w : World) (a b c : Nat) : ∃ k, ((w.drewN a).drewN b).drewN c = w.drewN k := ⟨_, by rw [World.drewN_drewN, World.drewN_drewN]⟩

theorem order_c (w : World) (g cap g' cap' : Nat) (m n : Nat) (h : Sl w g cap (digs m)) (h' : Sl w g' cap' (digs n)) :
    Calls Try.prog 56 #[.slice (some ⟨g, 0, none⟩) (digs m).length cap, .slice (some ⟨g', 0, none⟩) (digs n).length cap'] w fun e w' => e = .returned (.int .i64 (ord m n)) ∧ ∃ k, w' = w.drewN k := by
  obtain ⟨b1, b2, _⟩ := h.small
  obtain ⟨c1, c2, _⟩ := h'.small
  unfold maxLen at b2 c2
  have lm := digs_low m
  have ln := digs_low n
  have vm := val_digs m
  have vn := val_digs n
  have mono1 : (digs m).length < (digs n).length → m < n := fun hl => by
    refine Nat.lt_of_not_le fun c => ?_
    have := digs_len_mono c; omega
  have mono2 : (digs n).length < (digs m).length → n < m := fun hl => by
    refine Nat.lt_of_not_le fun c => ?_
    have := digs_len_mono c; omega
  generalize digs m = a at *
  generalize digs n = b at *
  by_cases hlt : a.length < b.length
  · have e1 : ord m n = -1 := if_pos (mono1 hlt)
    rw [e1]
    clear mono1 mono2 vm vn lm ln h h' e1
    have t1 : ((a.length : Int) != b.length) = true := by simp; omega
    go_enter Try.func56, Try.ntmps56
    go_wp2
    go_ret
    exact ⟨rfl, 0, rfl⟩
  · by_cases hgt : b.length < a.length
    · have e1 : ord m n = 1 := by have := mono2 hgt; unfold ord; rw [if_neg (by omega), if_pos this]
      rw [e1]
      clear mono1 mono2 vm vn lm ln h h' e1
      have t1 : ((a.length : Int) != b.length) = true := by simp; omega
      go_enter Try.func56, Try.ntmps56
      go_wp2
      go_ret
      exact ⟨rfl, 0, rfl⟩
    · have t1 : ((a.length : Int) != b.length) = false := by simp; omega
      have hl : a.length = b.length := by omega
      have HL := Lib.hid hl
      clear hl mono1 mono2
      go_enter Try.func56, Try.ntmps56
      go_wp2
      go_loopw [5] (fun i wr => ∃ k nq : Nat, k ≤ a.length ∧ i = .int .i64 ((k : Int) - 1) ∧ Hid (a.drop k = b.drop k) ∧ wr = w.drewN nq) (fun i _ => (intOf i + 1).toNat)
      case atStart => exact ⟨a.length, 0, Nat.le_refl _, rfl, Lib.hid (by rw [List.drop_length, HL.out, List.drop_length]), rfl⟩
      case round =>
        obtain ⟨k, nq, hk, rfl, hD, rfl⟩ := hrel
        by_cases h0 : k = 0
        · subst h0
          go_wp2
          go_ret
          exact ⟨ret_int (by have := hD.out; rw [List.drop_zero, List.drop_zero] at this; rw [← vm, ← vn, this]; unfold ord; rw [if_neg (by omega), if_neg (by omega)]), nq, rfl⟩
        · obtain ⟨m', rfl⟩ : ∃ m', k = m' + 1 := ⟨k - 1, by omega⟩
          rw [show (((m' + 1 : Nat) : Int) - 1) = (m' : Int) from by omega]
          have hb : m' < b.length := by have := HL.out; omega
          have hc := h.cell m' (by omega)
          have hc' := h'.cell m' hb
          by_cases hx : a[m'] < b[m']
          · have hO := Lib.hid (low_lt lm HL.out (by omega) hD.out hx)
            go_wp2
            go_quiet (fail)
            go_wp2
            go_ret
            exact ⟨ret_int (by rw [← vm, ← vn]; exact (if_pos hO.out).symm), drewN_some2 _ _ _⟩
          · by_cases hy : b[m'] < a[m']
            · have hO := Lib.hid (low_lt ln HL.out.symm hb hD.out.symm hy)
              go_wp2
              go_quiet (fail)
              go_wp2
              go_quiet (fail)
              go_wp2
              go_ret
              exact ⟨ret_int (by rw [← vm, ← vn]; unfold ord; rw [if_neg (by have := hO.out; omega), if_pos hO.out]), by first | exact drewN_some2 _ _ _ | exact drewN_some3 _ _ _ _⟩
            · go_wp2
              go_quiet (fail)
              go_wp2
              go_quiet (fail)
              go_wp2
              exact ⟨⟨m', _, by omega, rfl, Lib.hid (by rw [List.drop_eq_getElem_cons (by omega), List.drop_eq_getElem_cons hb, hD.out, show a[m'] = b[m'] from by omega]), rfl⟩, by first | (simp [intOf]; done) | (simp [intOf]; omega)⟩
end Go.Proofs.Ytpfkcllincfpkaa.dg
