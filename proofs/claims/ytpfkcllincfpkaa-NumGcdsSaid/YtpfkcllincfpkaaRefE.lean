/- The contract of the reference's product. -/
import Derived.Test.YtpfkcllincfpkaaRefD
import Derived.BigRegion
namespace Go.Proofs.Ytpfkcllincfpkaa.dg
open Go.RowKit

/-! ### plain -/
theorem val_set (l : List Nat) (p d : Nat) (h : p < l.length) : val (l.set p d) + 32768 ^ p * l[p] = val l + 32768 ^ p * d := by
  induction l generalizing p with
  | nil => simp at h
  | cons x l ih =>
    cases p with
    | zero => simp only [List.set_cons_zero, val_cons, List.getElem_cons_zero, Nat.pow_zero]; omega
    | succ p =>
      have := ih p (by simpa using h)
      rw [List.set_cons_succ, val_cons, val_cons, List.getElem_cons_succ, Nat.pow_succ, Nat.mul_comm (32768 ^ p) 32768, Nat.mul_assoc, Nat.mul_assoc]
      omega

/-- one step of a product, as the text makes it in three stores -/
def stepL (l : List Nat) (p t : Nat) : List Nat :=
  ((l.set p (l.getD p 0 + t)).set (p + 1) (l.getD (p + 1) 0 + (l.getD p 0 + t) / 32768)).set p ((l.getD p 0 + t) % 32768)
theorem stepL_len (l : List Nat) (p t : Nat) : (stepL l p t).length = l.length := by simp [stepL]
theorem getD_get (l : List Nat) (p : Nat) (h : p < l.length) : l.getD p 0 = l[p] := by simp [h]
theorem getD_set (l : List Nat) (p d j : Nat) (h : p < l.length) : (l.set p d).getD j 0 = if j = p then d else l.getD j 0 := by
  simp only [List.getD_eq_getElem?_getD, List.getElem?_set]
  split
  · subst_vars; simp
  · rw [if_neg (by omega)]
theorem stepL_getD (l : List Nat) (p t j : Nat) (h : p + 1 < l.length) :
    (stepL l p t).getD j 0 = if j = p then (l.getD p 0 + t) % 32768 else if j = p + 1 then l.getD (p + 1) 0 + (l.getD p 0 + t) / 32768 else l.getD j 0 := by
  unfold stepL
  rw [getD_set _ _ _ _ (by simp; omega), getD_set _ _ _ _ (by simp; omega), getD_set _ _ _ _ (by omega)]
  by_cases h1 : j = p
  · rw [if_pos h1, if_pos h1]
  · simp only [if_neg h1]
theorem stepL_val (l : List Nat) (p t : Nat) (h : p + 1 < l.length) : val (stepL l p t) = val l + 32768 ^ p * t := by
  unfold stepL
  have e0 := getD_get l p (by omega)
  have e1 := getD_get l (p + 1) h
  have h1 := val_set l p (l.getD p 0 + t) (by omega)
  have h2 := val_set (l.set p (l.getD p 0 + t)) (p + 1) (l.getD (p + 1) 0 + (l.getD p 0 + t) / 32768) (by simp; omega)
  have h3 := val_set ((l.set p (l.getD p 0 + t)).set (p + 1) (l.getD (p + 1) 0 + (l.getD p 0 + t) / 32768)) p ((l.getD p 0 + t) % 32768) (by simp; omega)
  rw [List.getElem_set_ne (by omega)] at h2
  rw [List.getElem_set_ne (by omega), List.getElem_set_self] at h3
  rw [← e0] at h1
  rw [← e1] at h2
  generalize (((l.set p (l.getD p 0 + t)).set (p + 1) (l.getD (p + 1) 0 + (l.getD p 0 + t) / 32768)).set p ((l.getD p 0 + t) % 32768)) = l3 at *
  generalize ((l.set p (l.getD p 0 + t)).set (p + 1) (l.getD (p + 1) 0 + (l.getD p 0 + t) / 32768)) = l2 at *
  generalize l.set p (l.getD p 0 + t) = l1 at *
  generalize l.getD p 0 = x at *
  generalize l.getD (p + 1) 0 = y at *
  have hd := Nat.div_add_mod (x + t) 32768
  generalize (x + t) / 32768 = q at *
  generalize (x + t) % 32768 = r at *
  have hp : 32768 ^ (p + 1) = 32768 * 32768 ^ p := by rw [Nat.pow_succ, Nat.mul_comm]
  rw [hp] at h2
  generalize 32768 ^ p = P at *
  have e2 : P * (32768 * q) = 32768 * P * q := by rw [← Nat.mul_assoc, Nat.mul_comm P 32768]
  have e4 : P * x + P * t = P * (32768 * q) + P * r := by rw [← Nat.mul_add, ← Nat.mul_add, hd]
  simp only [Nat.mul_add] at h1 h2 h3
  omega

/-- what holds of the places in the midst of a row -/
structure InOk (l : List Nat) (i k n : Nat) : Prop where
  low : ∀ j, j < i + k → l.getD j 0 < 32768
  at0 : l.getD (i + k) 0 ≤ 65542
  atEnd : k = n → l.getD (i + k) 0 ≤ 32771
  next : ∀ j, i + k < j → l.getD j 0 ≤ 32771
  zero : ∀ j, i + n ≤ j → (k = 0 ∨ i + k < j) → l.getD j 0 = 0
structure OutOk (l : List Nat) (i n : Nat) : Prop where
  low : ∀ j, j < i → l.getD j 0 < 32768
  next : ∀ j, i ≤ j → l.getD j 0 ≤ 32771
  zero : ∀ j, i + n ≤ j → l.getD j 0 = 0
theorem OutOk.inn {l : List Nat} {i n : Nat} (h : OutOk l i n) : InOk l i 0 n :=
  ⟨fun j hj => h.low j (by omega), by have := h.next (i + 0) (by omega); omega, fun _ => h.next _ (by omega), fun j hj => h.next j (by omega), fun j hj _ => h.zero j hj⟩
theorem InOk.out {l : List Nat} {i n : Nat} (h : InOk l i n n) : OutOk l (i + 1) n := by
  refine ⟨fun j hj => ?_, fun j hj => ?_, fun j hj => h.zero j (by omega) (.inr (by omega))⟩
  · by_cases h0 : j < i + n
    · exact h.low j h0
    · have := h.zero j (by omega) (by omega); omega
  · by_cases h0 : j < i + n
    · have := h.low j h0; omega
    · by_cases h1 : j = i + n
      · subst h1; exact h.atEnd rfl
      · exact h.next j (by omega)
theorem prod_le {x y : Nat} (hx : x < 32768) (hy : y < 32768) : x * y ≤ 1073676289 := Nat.mul_le_mul (show x ≤ 32767 by omega) (show y ≤ 32767 by omega)
theorem InOk.step {l : List Nat} {i k n x y : Nat} (h : InOk l i k n) (hk : k < n) (hl : i + k + 1 < l.length) (hx : x < 32768) (hy : y < 32768) : InOk (stepL l (i + k) (x * y)) i (k + 1) n := by
  have hp := prod_le hx hy
  have h0 := h.at0
  have hs : (l.getD (i + k) 0 + x * y) / 32768 ≤ 32768 := by omega
  have g := fun j => stepL_getD l (i + k) (x * y) j hl
  generalize stepL l (i + k) (x * y) = l' at *
  refine ⟨fun j hj => ?_, ?_, fun he => ?_, fun j hj => ?_, fun j hj hj2 => ?_⟩
  · rw [g]; split
    · omega
    · rw [if_neg (by omega)]; exact h.low j (by omega)
  · rw [show i + (k + 1) = i + k + 1 from rfl, g, if_neg (by omega), if_pos rfl]
    have := h.next (i + k + 1) (by omega); omega
  · rw [show i + (k + 1) = i + k + 1 from rfl, g, if_neg (by omega), if_pos rfl]
    have := h.zero (i + k + 1) (by omega) (.inr (by omega)); omega
  · rw [g, if_neg (by omega), if_neg (by omega)]; exact h.next j (by omega)
  · rw [g, if_neg (by omega), if_neg (by omega)]; exact h.zero j hj (.inr (by omega))

/-- in the midst of the last pass -/
structure EndOk (l : List Nat) (i : Nat) : Prop where
  low : ∀ j, j < i → l.getD j 0 < 32768
  at0 : l.getD i 0 ≤ 65542
  next : ∀ j, i < j → l.getD j 0 ≤ 32771
theorem EndOk.step {l : List Nat} {i : Nat} (h : EndOk l i) (hl : i + 1 < l.length) : EndOk (stepL l i 0) (i + 1) := by
  have h0 := h.at0
  have g := fun j => stepL_getD l i 0 j hl
  generalize stepL l i 0 = l' at *
  refine ⟨fun j hj => ?_, ?_, fun j hj => ?_⟩
  · rw [g]; split
    · omega
    · rw [if_neg (by omega)]; exact h.low j (by omega)
  · rw [g, if_neg (by omega), if_pos rfl]
    have := h.next (i + 1) (by omega); omega
  · rw [g, if_neg (by omega), if_neg (by omega)]; exact h.next j (by omega)
theorem OutOk.fin {l : List Nat} {i n : Nat} (h : OutOk l i n) : EndOk l 0 :=
  ⟨fun j hj => absurd hj (Nat.not_lt_zero _), by by_cases c : 0 < i; (have := h.low 0 c; omega); (have := h.next 0 (by omega); omega),
   fun j _ => by by_cases c : j < i; (have := h.low j c; omega); exact h.next j (by omega)⟩
theorem EndOk.low_all {l : List Nat} {i : Nat} (h : EndOk l i) (hl : l.length = i + 1) (hv : val l < 32768 ^ i) : Low l := by
  have h1 : ∀ d ∈ l.take i, d < 32768 := fun d hd => by
    obtain ⟨j, hj, e⟩ := List.mem_take_iff_getElem.1 hd
    have := h.low j (by omega)
    rw [getD_get l j (by omega), e] at this; exact this
  have e : l = l.take i ++ [l[i]] := by rw [← List.take_succ_eq_append_getElem (by omega), List.take_of_length_le (by omega)]
  have h2 : val l = val (l.take i) + 32768 ^ i * l[i] := by
    rw [show val l = val (l.take i ++ [l[i]]) from congrArg val e, val_append, List.length_take, Nat.min_eq_left (by omega), val_cons, val_nil]; rfl
  have h3 : l[i] = 0 := by
    rcases Nat.eq_zero_or_pos l[i] with h3 | h3
    · exact h3
    · have : 32768 ^ i * 1 ≤ 32768 ^ i * l[i] := Nat.mul_le_mul (Nat.le_refl _) h3
      omega
  rw [e]
  exact low_append.2 ⟨h1, low_cons.2 ⟨by omega, low_nil⟩⟩


theorem nums_set (l : List Nat) (j d : Nat) : nums (l.set j d) = (nums l).set j (.int .i64 (d : Int)) := by simp [nums, List.map_set]
theorem nums_zeros (n : Nat) : nums (List.replicate n 0) = List.replicate n (.int .i64 0) := by simp [nums]
/-- a number is stored -/
theorem SlB.store {B : Nat} {w : World} {g cap : Nat} {l : List Nat} (h : SlB B w g cap l) (j d : Nat) :
    SlB B (w.setCell ⟨g, j, none⟩ (.int .i64 (d : Int))) g cap (l.set j d) := by
  have := (World.ownsRow.stored h j (.int .i64 (d : Int))).1
  rw [← nums_set] at this
  unfold SlB; rwa [List.length_set]
theorem SlB.drawn {B : Nat} {w : World} {g cap : Nat} {l : List Nat} (h : SlB B w g cap l) (k : Nat) : SlB B (w.drewN k) g cap l := h
theorem SlB.drew {B : Nat} {w : World} {g cap : Nat} {l : List Nat} (h : SlB B w g cap l) : SlB B w.drew g cap l := h
theorem SlB.free {B : Nat} {w : World} {g cap : Nat} {l : List Nat} (h : SlB B w g cap l) (j : Nat) : w.frozen? ⟨g, j, none⟩ = false := World.ownsRow.frozenAt h j
theorem SlB.at {B : Nat} {w : World} {g cap : Nat} {l : List Nat} (h : SlB B w g cap l) (j : Nat) (hj : j < l.length) : w.cell? ⟨g, j, none⟩ = some (.int .i64 (l.getD j 0 : Nat)) := by
  rw [h.cell j hj, getD_get l j hj]

/-- 'make([]int, n)' -/
theorem wpList_zeros {ops : Array Oper} {rest : List Oper} {o : Oper} {a : Act} {Q : Exit → Act → World → Prop} (w : World) (hg : o.guard = none) (x y : Operand) (hop : o.op = Op.makeSlice 34 x y)
    (B n : Nat) (C D : Int) (hl : a.eval x = .int .i64 C) (hc : a.eval y = .int .i64 D) (hC : C = (n : Int)) (hD : D = (n : Int)) (hn : n ≤ 1000000) (hB : B ≤ w.heap.size)
    (h : ∀ w', SlB B w' w.heap.size n (List.replicate n 0) → Below w.heap.size w w' → wpList Try.prog ops Q rest (a.put o.dst (.slice (some ⟨w.heap.size, 0, none⟩) n n)) w') :
    wpList Try.prog ops Q (o :: rest) a w := by
  obtain ⟨i0, hi, hz0, hz1, hz2⟩ := info_parts info_int
  refine wpList_make_full w hg x y 34 hop B 3 i0 (.int .i64 0) 1 Try.underlying34 hi hz0 hz1 .i64 .i64 C D n hl hc hC hD (by rw [hz2]; omega) (by unfold maxLen; omega) hB ?_
  intro w' hown hgr
  refine h w' ?_ ((Below.refl _ w).grown hgr (Nat.le_refl _) (fun k hk => by simp at hk))
  unfold SlB
  rw [nums_zeros, List.length_replicate]
  rw [show (Value.int .i64 0).cells = #[.int .i64 0] from rfl, Nat.mul_one, toList_madeCells_one] at hown
  exact hown

theorem step_own {B : Nat} {w : World} {g cap : Nat} {l : List Nat} {p t S u1 : Nat} (h : SlB B w g cap (l.set p S)) (hS : S = l.getD p 0 + t) (hu : u1 = l.getD (p + 1) 0) :
    SlB B ((w.setCell ⟨g, p + 1, none⟩ (.int .i64 ((u1 : Int) + (S : Int) / 32768))).setCell ⟨g, p, none⟩ (.int .i64 ((S : Int) % 32768))) g cap (stepL l p t) := by
  rw [show ((u1 : Int) + (S : Int) / 32768) = ((u1 + S / 32768 : Nat) : Int) from by omega, show ((S : Int) % 32768) = ((S % 32768 : Nat) : Int) from by omega]
  have := (h.store (p + 1) (u1 + S / 32768)).store p (S % 32768)
  unfold stepL
  rw [← hS, ← hu]; exact this

theorem last_own {B : Nat} {w : World} {g cap : Nat} {l : List Nat} {p u u1 : Nat} (h : SlB B w g cap l) (hs : l.getD p 0 = u) (hu : l.getD (p + 1) 0 = u1) :
    SlB B ((w.setCell ⟨g, p + 1, none⟩ (.int .i64 ((u1 : Int) + (u : Int) / 32768))).setCell ⟨g, p, none⟩ (.int .i64 ((u : Int) % 32768))) g cap (stepL l p 0) := by
  refine step_own ?_ (by rw [hs, Nat.add_zero]) hu.symm
  have : l.set p u = l := by
    by_cases c : p < l.length
    · rw [← hs, getD_get l p c, List.set_getElem_self]
    · exact List.set_eq_of_length_le (by omega)
  rw [this]; exact h

theorem times_end {N C n : Nat} {w W wr : World} {s : Bool} {o : List Nat} (hN : w.heap.size = N) (hb0 : Below w.heap.size w W) (hb : Below (N + 1 + 1 + 1) W wr) (hown : SlB (N + 1 + 1 + 1) wr (N + 1 + 1 + 1) C o) (hT : trimL o = digs n) {v u : Value} :
    WideF w ((wr.setCell ⟨N + 1 + 1, 0, none⟩ v).setCell ⟨N + 1 + 1, 1, none⟩ u).drew (.returned (.agg #[.bool s, .slice (some ⟨N + 1 + 1 + 1, 0, none⟩) (digs n).length C])) s n := by
  subst hN
  refine ⟨_, _, rfl, ?_, ?_⟩
  · rw [← hT, trimL_pre]
    exact SlB.drew (SlB.mono (ownsRow_setCell_below (ownsRow_setCell_below (hown.cut _) (by simp) _) (by simp) _) (by omega))
  · exact (((hb0.trans (hb.mono (by omega))).setCell (by simp; omega) _).setCell (by simp; omega) _).drew

theorem box_facts {N : Nat} {W wr : World} (hb : Below (N + 1 + 1 + 1) W wr) {x0 x1 x2 x3 x4 x5 : Value} {f6 f7 : Bool}
    (q : W.cell? ⟨N, 0, none⟩ = some x0 ∧ W.cell? ⟨N, 1, none⟩ = some x1 ∧ W.cell? ⟨N + 1, 0, none⟩ = some x2 ∧ W.cell? ⟨N + 1, 1, none⟩ = some x3 ∧ W.cell? ⟨N + 1 + 1, 0, none⟩ = some x4 ∧ W.cell? ⟨N + 1 + 1, 1, none⟩ = some x5 ∧ W.frozen? ⟨N + 1 + 1, 0, none⟩ = f6 ∧ W.frozen? ⟨N + 1 + 1, 1, none⟩ = f7) :
    wr.cell? ⟨N, 0, none⟩ = some x0 ∧ wr.cell? ⟨N, 1, none⟩ = some x1 ∧ wr.cell? ⟨N + 1, 0, none⟩ = some x2 ∧ wr.cell? ⟨N + 1, 1, none⟩ = some x3 ∧ wr.cell? ⟨N + 1 + 1, 0, none⟩ = some x4 ∧ wr.cell? ⟨N + 1 + 1, 1, none⟩ = some x5 ∧ wr.frozen? ⟨N + 1 + 1, 0, none⟩ = f6 ∧ wr.frozen? ⟨N + 1 + 1, 1, none⟩ = f7 := by
  obtain ⟨a, b, c, d, e, f, k, l⟩ := q
  exact ⟨(hb.cell (by go_size)).trans a, (hb.cell (by go_size)).trans b, (hb.cell (by go_size)).trans c, (hb.cell (by go_size)).trans d, (hb.cell (by simp)).trans e, (hb.cell (by simp)).trans f, (hb.frozen (by simp)).trans k, (hb.frozen (by simp)).trans l⟩

theorem row_begin {o a b : List Nat} {x V : Nat} (hx : x < a.length) (h : val o + 32768 ^ x * (val (a.drop x) * val b) = V) :
    val o + 32768 ^ (x + 0) * (a[x] * val (b.drop 0)) + 32768 ^ (x + 1) * (val (a.drop (x + 1)) * val b) = V := by
  rw [val_drop a x hx] at h
  rw [List.drop_zero, Nat.add_zero, Nat.pow_succ, ← h, Nat.add_mul, Nat.mul_add, Nat.mul_assoc (32768 ^ x), ← Nat.mul_assoc 32768, Nat.add_assoc]
theorem row_step {o b : List Nat} {x y z V : Nat} {R : Nat} (hy : y < b.length) (hl : x + y + 1 < o.length) (h : val o + 32768 ^ (x + y) * (z * val (b.drop y)) + R = V) :
    val (stepL o (x + y) (z * b[y])) + 32768 ^ (x + (y + 1)) * (z * val (b.drop (y + 1))) + R = V := by
  rw [val_drop b y hy] at h
  rw [stepL_val _ _ _ hl, ← h, ← Nat.add_assoc, Nat.pow_succ, Nat.mul_add z, Nat.mul_add (32768 ^ (x + y)), Nat.mul_assoc (32768 ^ (x + y)) 32768, ← Nat.mul_assoc 32768, Nat.mul_comm 32768 z, Nat.mul_assoc z, ← Nat.add_assoc]
theorem row_end {o a b : List Nat} {x z V : Nat} (h : val o + 32768 ^ (x + b.length) * (z * val (b.drop b.length)) + 32768 ^ (x + 1) * (val (a.drop (x + 1)) * val b) = V) :
    val o + 32768 ^ (x + 1) * (val (a.drop (x + 1)) * val b) = V := by
  rw [List.drop_length, val_nil, Nat.mul_zero, Nat.mul_zero, Nat.add_zero] at h; exact h

theorem zeros_get (n j : Nat) : (List.replicate n 0).getD j 0 = 0 := by
  simp only [List.getD_eq_getElem?_getD, List.getElem?_replicate]; split <;> rfl
theorem zeros_ok (n m : Nat) : OutOk (List.replicate n 0) 0 m :=
  ⟨fun j hj => absurd hj (Nat.not_lt_zero _), fun j _ => by rw [zeros_get]; omega, fun j _ => zeros_get n j⟩
theorem zeros_val (n : Nat) : val (List.replicate n 0) = 0 := by
  induction n with
  | zero => rfl
  | succ n ih => rw [List.replicate_succ, val_cons, ih]

set_option maxRecDepth 100000 in
set_option maxHeartbeats 2000000 in
theorem times_f (w : World) (s t : Bool) (g cap g' cap' m n : Nat) (h : Sl w g cap (digs m)) (h' : Sl w g' cap' (digs n)) (hb1 : (digs m).length ≤ 100000) (hb2 : (digs n).length ≤ 100000) :
    Calls Try.prog 47 #[.agg #[.bool s, .slice (some ⟨g, 0, none⟩) (digs m).length cap], .agg #[.bool t, .slice (some ⟨g', 0, none⟩) (digs n).length cap']] w fun e w' => WideF w w' e (s != t) (m * n) := by
  have l1 := Lib.hid (digs_low m)
  have l2 := Lib.hid (digs_low n)
  have v1 := Lib.hid (val_digs m)
  have v2 := Lib.hid (val_digs n)
  generalize digs m = a at *
  generalize digs n = b at *
  go_enter Try.func47, Try.ntmps47
  go_wp2_with (at_make; refine wpList_zeros _ rfl _ _ rfl (w.heap.size + 1 + 1 + 1) (a.length + b.length + 1) _ _ rfl rfl ?c1 ?c2 ?c3 ?c4 ?c5)
  case c1 => omega
  case c2 => omega
  case c3 => omega
  case c4 => go_size
  case c5 =>
  intro w1 hown hb
  generalize hN : w.heap.size = N at *
  generalize hW3 : (((w.alloc (Obj.cells #[Value.bool s, Value.slice (some { block := g, off := 0 }) a.length cap] 36)).alloc (Obj.cells #[Value.bool t, Value.slice (some { block := g', off := 0 }) b.length cap'] 36)).alloc (Obj.cells #[Value.bool false, Value.slice none 0 0] 36)) = W3 at *
  have q0 : W3.cell? ⟨N, 0, none⟩ = some (.bool s) := by subst hW3 hN; go_cell
  have q1 : W3.cell? ⟨N, 1, none⟩ = some (.slice (some ⟨g, 0, none⟩) a.length cap) := by subst hW3 hN; go_cell
  have q2 : W3.cell? ⟨N + 1, 0, none⟩ = some (.bool t) := by subst hW3 hN; go_cell
  have q3 : W3.cell? ⟨N + 1, 1, none⟩ = some (.slice (some ⟨g', 0, none⟩) b.length cap') := by subst hW3 hN; go_cell
  have q4 : W3.cell? ⟨N + 1 + 1, 0, none⟩ = some (.bool false) := by subst hW3 hN; go_cell
  have q5 : W3.cell? ⟨N + 1 + 1, 1, none⟩ = some (.slice none 0 0) := by subst hW3 hN; go_cell
  have q6 : W3.frozen? ⟨N + 1 + 1, 0, none⟩ = false := by subst hW3 hN; go_cell
  have q7 : W3.frozen? ⟨N + 1 + 1, 1, none⟩ = false := by subst hW3 hN; go_cell
  have hz3 : W3.heap.size = N + 1 + 1 + 1 := by subst hW3 hN; simp
  have hbW := Lib.hid (show Below w.heap.size w W3 by subst hW3 hN; go_grown)
  have ga := h.lt.2
  have gb := h'.lt.2
  rw [hN] at ga gb
  have h3 : Sl W3 g cap a := h.stay hbW.out
  have h3' : Sl W3 g' cap' b := h'.stay hbW.out
  have HN := Lib.hid hN
  have Hz := Lib.hid hz3
  have Q := Lib.hid (And.intro q0 (And.intro q1 (And.intro q2 (And.intro q3 (And.intro q4 (And.intro q5 (And.intro q6 q7)))))))
  clear hN hz3 hW3 q0 q1 q2 q3 q4 q5 q6 q7 h h'
  go_wp2
  have hC : w1.heap.size = w1.heap.size := rfl
  go_loopw [6] (fun i wr => ∃ (x : Nat) (o : List Nat), i = .int .i64 x ∧ x ≤ a.length ∧ SlB (N + 1 + 1 + 1) wr (N + 1 + 1 + 1) (a.length + b.length + 1) o ∧ Hid (o.length = a.length + b.length + 1) ∧ Hid (OutOk o x b.length) ∧ Hid (val o + 32768 ^ x * (val (a.drop x) * val b) = val a * val b) ∧ Below (N + 1 + 1 + 1) W3 wr) (fun i _ => a.length - (intOf i).toNat)
  case atStart =>
    refine ⟨0, List.replicate (a.length + b.length + 1) 0, rfl, by omega, hown, Lib.hid (List.length_replicate ..), Lib.hid ?_, Lib.hid ?_, hb⟩
    · exact zeros_ok _ _
    · rw [zeros_val, List.drop_zero, Nat.pow_zero, Nat.one_mul, Nat.zero_add]
  case round =>
    obtain ⟨x, o, rfl, hx, hown, hol, hok, hV, hb⟩ := hrel
    obtain ⟨q0, q1, q2, q3, q4, q5, q6, q7⟩ := box_facts hb Q.out
    by_cases hxa : x < a.length
    · have hV' := Lib.hid (row_begin hxa hV.out)
      have hok' := Lib.hid hok.out.inn
      obtain ⟨wo, rfl⟩ : ∃ wo : World, wo = wr := ⟨_, rfl⟩
      clear hV hok
      go_wp2
      go_loopw [7] (fun k wr => ∃ (y : Nat) (o : List Nat), k = .int .i64 y ∧ y ≤ b.length ∧ SlB (N + 1 + 1 + 1) wr (N + 1 + 1 + 1) (a.length + b.length + 1) o ∧ Hid (o.length = a.length + b.length + 1) ∧ Hid (InOk o x y b.length) ∧ Hid (val o + 32768 ^ (x + y) * (a[x] * val (b.drop y)) + 32768 ^ (x + 1) * (val (a.drop (x + 1)) * val b) = val a * val b) ∧ Below (N + 1 + 1 + 1) W3 wr) (fun k _ => b.length - (intOf k).toNat)
      case atStart => exact ⟨0, o, rfl, by omega, hown, hol, hok', hV', hb⟩
      case round =>
        clear hown hol hok' hV' hb q0 q1 q2 q3 q4 q5 q6 q7
        obtain ⟨y, o, rfl, hy, hown, hol, hok, hV, hb⟩ := hrel
        obtain ⟨q0, q1, q2, q3, q4, q5, q6, q7⟩ := box_facts hb Q.out
        by_cases hyb : y < b.length
        · have hV' := Lib.hid (row_step (o := o) hyb (by have := hol.out; omega) hV.out)
          have lx := l1.out _ (List.getElem_mem hxa)
          have ly := l2.out _ (List.getElem_mem hyb)
          have hok' := Lib.hid (hok.out.step hyb (by have := hol.out; omega) lx ly)
          have ba := hok.out.at0
          have bb := hok.out.next (x + y + 1) (by omega)
          have ca := (h3.kept hb (by omega)).cell x hxa
          have cb := (h3'.kept hb (by omega)).cell y hyb
          have co := hown.at (x + y) (by have := hol.out; omega)
          have co1 := hown.at (x + y + 1) (by have := hol.out; omega)
          have fo := hown.free (x + y)
          have fo1 := hown.free (x + y + 1)
          have hp := prod_le lx ly
          have hown' := hown
          clear hok hV hown
          generalize a[x] = xa at *
          generalize b[y] = yb at *
          have hp1 : (xa : Int) * (yb : Int) ≤ 1073676289 := by have := Int.ofNat_le.2 hp; rwa [Int.natCast_mul] at this
          have hp0 : 0 ≤ (xa : Int) * (yb : Int) := Int.mul_nonneg (by omega) (by omega)
          generalize hu : o.getD (x + y) 0 = u at *
          generalize hu1 : o.getD (x + y + 1) 0 = u1 at *
          have Hu := Lib.hid hu
          have Hu1 := Lib.hid hu1
          clear hu hu1 hp
          go_wp2
          go_region
          go_wp2
          obtain ⟨S, hS⟩ : ∃ S : Nat, S = u + xa * yb := ⟨_, rfl⟩
          rw [show ((u : Int) + (xa : Int) * (yb : Int)) = (S : Int) from by rw [hS, Int.natCast_add, Int.natCast_mul]]
          have bS : S ≤ 1073741831 := by have : xa * yb ≤ 1073676289 := (by have := hp1; rw [← Int.natCast_mul] at this; exact Int.ofNat_le.1 this); omega
          have hown1 := (hown'.store (x + y) S).drew
          have hb1' := (hb.setCell (p := ⟨N + 1 + 1 + 1, x + y, none⟩) (Nat.le_refl _) (.int .i64 (S : Int))).drew
          have HS := Lib.hid hS
          clear hS co co1 fo fo1 ca cb hp0 hp1 hown' hb q0 q1 q2 q3 q4 q5 q6 q7
          generalize (wr.setCell ⟨N + 1 + 1 + 1, x + y, none⟩ (.int .i64 (S : Int))).drew = wr2 at *
          have lo1 : (o.set (x + y) S).length = a.length + b.length + 1 := by rw [List.length_set, hol.out]
          have co := hown1.at (x + y) (by omega)
          rw [getD_set _ _ _ _ (by have := hol.out; omega), if_pos rfl] at co
          have co1 := hown1.at (x + y + 1) (by omega)
          rw [getD_set _ _ _ _ (by have := hol.out; omega), if_neg (by omega), Hu1.out] at co1
          have fo := hown1.free (x + y)
          have fo1 := hown1.free (x + y + 1)
          have hown2 := Lib.hid hown1
          have Lo1 := Lib.hid lo1
          clear hown1 lo1
          go_region
          go_wp2_with fail
          exact ⟨⟨y + 1, stepL o (x + y) (xa * yb), by go_num, by omega, (step_own hown2.out (by rw [HS.out, Hu.out]) Hu1.out.symm).drew, Lib.hid (by rw [stepL_len, hol.out]), hok', hV', ((hb1'.setCell (Nat.le_refl _) _).setCell (Nat.le_refl _) _).drew⟩, by simp [intOf]; omega⟩
        · obtain rfl : y = b.length := by omega
          have hV2 := Lib.hid (row_end hV.out)
          have hok2 := Lib.hid hok.out.out
          clear hV hok
          go_wp2
          exact ⟨⟨x + 1, o, by go_num, by omega, hown, hol, hok2, hV2, hb⟩, by simp [intOf]; omega⟩
    · obtain rfl : x = a.length := by omega
      have hV2 := Lib.hid (show val o = val a * val b by have := hV.out; rwa [List.drop_length, val_nil, Nat.zero_mul, Nat.mul_zero, Nat.add_zero] at this)
      have hok2 := Lib.hid hok.out.fin
      obtain ⟨wo, rfl⟩ : ∃ wo : World, wo = wr := ⟨_, rfl⟩
      clear hV hok
      go_wp2
      go_loopw [8] (fun i wr => ∃ (x : Nat) (o : List Nat), i = .int .i64 x ∧ x ≤ a.length + b.length ∧ SlB (N + 1 + 1 + 1) wr (N + 1 + 1 + 1) (a.length + b.length + 1) o ∧ Hid (o.length = a.length + b.length + 1) ∧ Hid (EndOk o x) ∧ Hid (val o = val a * val b) ∧ Below (N + 1 + 1 + 1) W3 wr) (fun i _ => a.length + b.length - (intOf i).toNat)
      case atStart => exact ⟨0, o, rfl, by omega, hown, hol, hok2, hV2, hb⟩
      case round =>
        clear hown hol hok2 hV2 hb q0 q1 q2 q3 q4 q5 q6 q7
        obtain ⟨x, o, rfl, hx, hown, hol, hok, hV, hb⟩ := hrel
        by_cases hxa : x < a.length + b.length
        · have hV' := Lib.hid (show val (stepL o x 0) = val a * val b by rw [stepL_val _ _ _ (by have := hol.out; omega), Nat.mul_zero, Nat.add_zero]; exact hV.out)
          have hok' := Lib.hid (hok.out.step (by have := hol.out; omega))
          have ba := hok.out.at0
          have bb := hok.out.next (x + 1) (by omega)
          have co := hown.at x (by have := hol.out; omega)
          have co1 := hown.at (x + 1) (by have := hol.out; omega)
          have fo := hown.free x
          have fo1 := hown.free (x + 1)
          generalize hu : o.getD x 0 = u at *
          generalize hu1 : o.getD (x + 1) 0 = u1 at *
          have hown' := Lib.hid (last_own hown hu hu1)
          clear hown hu hu1 hok hV
          go_wp2
          go_region
          go_wp2_with fail
          exact ⟨⟨x + 1, stepL o x 0, by go_num, by omega, hown'.out.drew, Lib.hid (by rw [stepL_len, hol.out]), hok', hV', ((hb.setCell (Nat.le_refl _) _).setCell (Nat.le_refl _) _).drew⟩, by simp [intOf]; omega⟩
        · obtain rfl : x = a.length + b.length := by omega
          obtain ⟨q0, q1, q2, q3, q4, q5, q6, q7⟩ := box_facts hb Q.out
          have hlow := Lib.hid (hok.out.low_all hol.out (by
            rw [hV.out, Nat.pow_add]; exact Nat.mul_lt_mul'' (val_lt_pow l1.out) (val_lt_pow l2.out)))
          have hT := Lib.hid (show trimL o = digs (m * n) by rw [trimL_val hlow.out, hV.out, v1.out, v2.out])
          have tc : ∀ W : World, Sl W (N + 1 + 1 + 1) (a.length + b.length + 1) o → Calls Try.prog 59 #[.slice (some ⟨N + 1 + 1 + 1, 0, none⟩) (a.length + b.length + 1) (a.length + b.length + 1)] W fun e w' => e = .returned (.slice (some ⟨N + 1 + 1 + 1, 0, none⟩) (digs (m * n)).length (a.length + b.length + 1)) ∧ W = w' := fun W hW => by
            have := trim_c W _ _ o hW; rw [hol.out, hT.out] at this; exact this
          have hown' := hown.mono (Nat.zero_le _)
          clear hok hV hlow
          go_wp2
          go_region_held3 (fun w' => w'.cell? ⟨N, 0, none⟩ = some (.bool s) ∧ w'.cell? ⟨N + 1, 0, none⟩ = some (.bool t))
            (first | (refine ⟨?_, ?_⟩ <;> (simp [q0, q2]; done)) | (refine ⟨?_, ?_⟩ <;> go_cell))
            (first | (go_at_call 59; refine (tc _ (by exact hown')).mono ?_; rintro e w' ⟨rfl, rfl⟩))
          go_wp2
          refine bodyPost_ret (v := .agg #[.bool (s != t), .slice (some ⟨N + 1 + 1 + 1, 0, none⟩) (digs (m * n)).length (a.length + b.length + 1)]) (by simp [results, Try.results47, go_sem, q4, q5]; cases s <;> cases t <;> rfl) rfl ?_
          exact times_end HN.out hbW.out hb hown hT.out

theorem times_c (w : World) (s t : Bool) (g cap g' cap' m n : Nat) (h : Sl w g cap (digs m)) (h' : Sl w g' cap' (digs n)) (hb1 : (digs m).length ≤ 100000) (hb2 : (digs n).length ≤ 100000) :
    Calls Try.prog 47 #[.agg #[.bool s, .slice (some ⟨g, 0, none⟩) (digs m).length cap], .agg #[.bool t, .slice (some ⟨g', 0, none⟩) (digs n).length cap']] w fun e w' => Wide w w' e (s != t) (m * n) :=
  (times_f w s t g cap g' cap' m n h h' hb1 hb2).mono fun _ _ h => h.wide
end Go.Proofs.Ytpfkcllincfpkaa.dg
