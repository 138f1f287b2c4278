/- The scanner's opens: whether a '(' opens what stands right ahead of it. -/
import Derived.Test.YtdcggedggngpoaaScanA
import Derived.Deep.RegionHeld3
import Derived.StillTailTactics
import Derived.Deep.Fields
import Derived.Deep.WholeRow
namespace Go.Proofs.Ytdcggedggngpoaa.lx
open Go.RowKit

theorem below_drawn (B : Nat) (w : World) (k : Nat) : Below B w (w.drewN k) := ⟨rfl, rfl, rfl, Nat.le_refl _, fun _ _ => rfl⟩
theorem opens_nil (n : Nat) : opens [] n = false := rfl
theorem opens_snoc (l : List Tok) (t : Tok) (n : Nat) : opens (l ++ [t]) n = (t.kind == 1 && t.to == n) := by simp [opens]

set_option maxHeartbeats 1000000 in
theorem opens_none {B c n : Nat} {s : ByteArray} {v : Value} {ts : List Tok} {w : World} (h : Sc B c s n v ts w) (hn : n < s.size) (_hs : s.size ≤ 4096) (hb : (bA s n).toNat ≠ 40 ∨ ts = []) :
    Calls Try.prog 46 #[.pointer (some ⟨c, 0, none⟩)] w fun e w' => e = .returned (.bool false) ∧ Below w.heap.size w w' := by
  have c0 := h.c0
  have c1 := h.c1
  have c2 := h.c2
  obtain ⟨a, cap, rfl⟩ := h.row.shape
  clear h
  have hgt := get_bA s
  by_cases h1 : (bA s n).toNat = 40
  · obtain rfl : ts = [] := hb.resolve_left (by simpa using h1)
    obtain ⟨a1, a2⟩ := ieq_yes (a := (bA s n).toNat) 40 (by omega)
    clear h1 hb
    rw [List.length_nil] at c2
    go_enter Try.func46, Try.ntmps46
    go_wp2
    go_quiet (fail)
    go_wp2
    go_ret
    exact ⟨rfl, below_drawn ..⟩
  · obtain ⟨a1, a2⟩ := ieq_no (a := (bA s n).toNat) 40 (by omega)
    clear h1 hb
    go_enter Try.func46, Try.ntmps46
    go_wp2
    go_quiet (fail)
    go_wp2
    go_ret
    exact ⟨rfl, below_drawn ..⟩

set_option maxHeartbeats 1000000 in
theorem opens_some {B c n : Nat} {s : ByteArray} {v : Value} {ts : List Tok} {w : World} (h : Sc B c s n v ts w) (hn : n < s.size) (_hs : s.size ≤ 4096) (hb : (bA s n).toNat = 40) (h0 : 0 < ts.length) (h1 : ts.length ≤ 1000) :
    Calls Try.prog 46 #[.pointer (some ⟨c, 0, none⟩)] w fun e w' => e = .returned (.bool (opens ts n)) ∧ Below w.heap.size w w' := by
  have c0 := h.c0
  have c1 := h.c1
  have c2 := h.c2
  obtain ⟨g, cap, rfl, hcap, hg, hgl, hcell⟩ := h.row.row h0
  have hlc := h.lt
  clear h
  obtain ⟨l, t, rfl⟩ : ∃ l t, ts = l ++ [t] := ⟨ts.dropLast, ts.getLast (by intro e; rw [e] at h0; exact absurd h0 (by decide)), (List.dropLast_concat_getLast _).symm⟩
  obtain ⟨d0, d1, d2, d3⟩ := hcell l.length (by simp)
  rw [List.getElem_append_right (Nat.le_refl _)] at d0 d1 d2 d3
  simp only [Nat.sub_self, List.getElem_cons_zero] at d0 d1 d2 d3
  rw [List.length_append, List.length_singleton] at c2 hcap h1
  rw [opens_snoc]
  clear hcell h0
  have hgt := get_bA s
  generalize l.length = m at *
  have m1 : IntKind.i64.wrap (((m + 1 : Nat) : Int) - 1) = (m : Int) := by rw [IntWalk.i64_in _ (by omega)]; omega
  obtain ⟨a1, a2⟩ := ieq_yes (a := (bA s n).toNat) 40 (by omega)
  clear hb
  go_enter Try.func46, Try.ntmps46
  go_wp2
  go_quiet (fail)
  generalize hw1 : World.drewN w _ = w1
  have hb1 : Below w.heap.size w w1 := hw1 ▸ below_drawn _ _ _
  have hz : w1.heap.size = w.heap.size := by rw [← hw1]; rfl
  have x1 : ∀ (k : Nat) (j : Nat), k < w.heap.size → w1.cell? ⟨k, j, none⟩ = w.cell? ⟨k, j, none⟩ := fun k j hk => World.cell?_of_block (hb1.block k hk)
  rw [← x1 _ _ hlc] at c0 c1 c2
  rw [← x1 _ _ hgl] at d0 d1 d2 d3
  rw [← hz] at hgl hlc
  clear hw1 hz x1
  have hb2 := Lib.hid hb1
  clear hb1
  go_wp2
  go_region
  generalize hw2 : World.drew (World.alloc w1 _) = w2
  have hbl : w2.heap[w1.heap.size]? = some (.cells #[.int .i64 (t.kind : Nat), .string ⟨t.text.toArray⟩, .int .i64 (t.frm : Nat), .int .i64 (t.to : Nat)] 29 (0, 0)) := by rw [← hw2]; exact heap_alloc_new w1 _
  have e1 : w2.cell? ⟨c, 1, none⟩ = some (.int .i64 (n : Nat)) := by rw [← hw2, ← c1]; exact World.cell?_of_block (Lib.alloc_old w1 _ c hlc)
  have p0 : w2.cell? ⟨w1.heap.size, 0, none⟩ = some (.int .i64 (t.kind : Nat)) := by rw [cell_at hbl]; rfl
  have p3 : w2.cell? ⟨w1.heap.size, 3, none⟩ = some (.int .i64 (t.to : Nat)) := by rw [cell_at hbl]; rfl
  have hb3 := Lib.hid (show Below w.heap.size w w2 by rw [← hw2]; exact (hb2.out.alloc hb2.out.size _).drew)
  clear hw2 hbl c0 c1 c2 d0 d1 d2 d3 hb2
  by_cases h5 : t.kind = 1
  · obtain ⟨r1, r2⟩ := ieq_yes (a := t.kind) 1 (by omega)
    have h6 : ((t.to : Int) == (n : Int)) = (t.to == n) := by rw [Bool.eq_iff_iff]; simp; omega
    have H5 := Lib.hid (show (t.kind == 1) = true by simpa using h5)
    clear h5
    go_wp2
    go_quiet (fail)
    go_wp2
    go_ret
    exact ⟨ret_b (by rw [H5.out, Bool.true_and]), hb3.out.trans (below_drawn ..)⟩
  · obtain ⟨r1, r2⟩ := ieq_no (a := t.kind) 1 (by omega)
    have H5 := Lib.hid (show (t.kind == 1) = false by simpa using h5)
    clear h5
    go_wp2
    go_quiet (fail)
    go_wp2
    go_ret
    exact ⟨ret_b (by rw [H5.out]; rfl), hb3.out.trans (below_drawn ..)⟩

theorem opens_c {B c n : Nat} {s : ByteArray} {v : Value} {ts : List Tok} {w : World} (h : Sc B c s n v ts w) (hn : n < s.size) (hs : s.size ≤ 4096) (h1 : ts.length ≤ 1000) :
    Calls Try.prog 46 #[.pointer (some ⟨c, 0, none⟩)] w fun e w' => e = .returned (.bool (decide (bA s n = 40) && opens ts n)) ∧ Below w.heap.size w w' := by
  by_cases hb : bA s n = 40
  · by_cases h0 : ts = []
    · rw [h0, opens_nil, Bool.and_false]; exact opens_none h hn hs (.inr h0)
    · rw [decide_eq_true hb, Bool.true_and]
      exact opens_some h hn hs (by rw [hb]; rfl) (List.length_pos_iff.2 h0) h1
  · rw [decide_eq_false hb, Bool.false_and]
    exact opens_none h hn hs (.inl fun e => hb (UInt8.toNat_inj.1 e))

/-- the kind of what begins at n, with a byte of the class y -/
def kindS (s : ByteArray) (n : Nat) (ts : List Tok) (y : Nat) : Nat :=
  if y = 3 then 2 else if y = 4 then 3 else if y = 8 then (if (decide (bA s n = 40) && opens ts n) = true then 4 else 5) else if y = 5 then (if endsB s n = true then 6 else 1) else 1

set_option maxHeartbeats 1000000 in
theorem kind_c {B c n : Nat} {s : ByteArray} {v : Value} {ts : List Tok} {w : World} (h : Sc B c s n v ts w) (hn : n < s.size) (hs : s.size ≤ 4096) (h1 : ts.length ≤ 1000) (y : Nat) :
    Calls Try.prog 38 #[.pointer (some ⟨c, 0, none⟩), .int .i64 y] w fun e w' => e = .returned (.int .i64 (kindS s n ts y : Nat)) ∧ Below w.heap.size w w' := by
  have ko := opens_c h hn hs h1
  have ke := ends_c h hn hs
  clear h
  unfold kindS
  by_cases y3 : y = 3
  · subst y3
    rw [if_pos rfl]
    clear ko ke
    go_enter Try.func38, Try.ntmps38
    go_wp2
    go_ret
    exact ⟨rfl, Below.refl _ _⟩
  by_cases y4 : y = 4
  · subst y4
    rw [if_neg (by decide), if_pos rfl]
    clear ko ke
    go_enter Try.func38, Try.ntmps38
    go_wp2
    go_ret
    exact ⟨rfl, Below.refl _ _⟩
  rw [if_neg y3, if_neg y4]
  by_cases y8 : y = 8
  · subst y8
    rw [if_pos rfl]
    clear ke y3 y4
    cases ho : (decide (bA s n = 40) && opens ts n) <;> rw [ho] at ko
    all_goals
      have Ho := Lib.hid ho
      clear ho
      go_enter Try.func38, Try.ntmps38
      go_wp2_with (go_at_call 46; (with_reducible refine ko.mono ?_); rintro e w' ⟨rfl, hb⟩)
      go_ret
      exact ⟨rfl, hb⟩
  rw [if_neg y8]
  by_cases y5 : y = 5
  · subst y5
    rw [if_pos rfl]
    clear ko y3 y4 y8
    cases ho : endsB s n <;> rw [ho] at ke
    all_goals
      have Ho := Lib.hid ho
      clear ho
      go_enter Try.func38, Try.ntmps38
      go_wp2_with (go_at_call 47; (with_reducible refine ke.mono ?_); rintro e w' ⟨rfl, k, rfl⟩)
      go_ret
      exact ⟨rfl, below_drawn ..⟩
  rw [if_neg y5]
  clear ko ke
  obtain ⟨p1, p2⟩ := ieq_no (a := y) 3 (by omega)
  obtain ⟨q1, q2⟩ := ieq_no (a := y) 4 (by omega)
  obtain ⟨r1, r2⟩ := ieq_no (a := y) 8 (by omega)
  obtain ⟨s1, s2⟩ := ieq_no (a := y) 5 (by omega)
  clear y3 y4 y8 y5
  go_enter Try.func38, Try.ntmps38
  go_wp2
  go_ret
  exact ⟨rfl, Below.refl _ _⟩
end Go.Proofs.Ytdcggedggngpoaa.lx
