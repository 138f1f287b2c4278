/- The program's most, Infix, Prefix. -/
import Derived.Test.YtnbbcegfcpcndaaDoorRefI
namespace Go.Proofs.YtnbbcegfcpcndaaDoor.op
open Go.RowKit

abbrev rowV (n : List UInt8) (k p : Int) : Array Value := #[.string (bs n), .int .i64 k, .int .i64 p]
theorem most_c (v : ByteArray) (k p : Int) (b : Bool) (h0 : 0 ≤ p) (h1 : p ≤ 1200) (w : World) :
    Calls Tryd.prog 10 #[.agg #[.string v, .int .i64 k, .int .i64 p], .bool b] w fun e w' => e = .returned (.int .i64 (if b then p else p - 1)) ∧ Below w.heap.size w w' := by
  cases b
  · go_enter Tryd.func10, Tryd.ntmps10
    go_wp2
    go_ret
    exact ⟨by go_num, (Below.refl _ _).alloc (Nat.le_refl _) _⟩
  · go_enter Tryd.func10, Tryd.ntmps10
    go_wp2
    go_ret
    exact ⟨rfl, (Below.refl _ _).alloc (Nat.le_refl _) _⟩

/-- the rows of the two tables: name, kind, priority -/
def rowsI : List (List UInt8 × Int × Int) := [([58, 45], 0, 1200), ([59], 1, 1100), ([45, 62], 1, 1050), ([44], 1, 1000), ([35, 60, 61, 62], 0, 760),
  ([61], 0, 700), ([92, 61], 0, 700), ([61, 61], 0, 700), ([92, 61, 61], 0, 700), ([64, 60], 0, 700), ([64, 62], 0, 700), ([64, 61, 60], 0, 700), ([64, 62, 61], 0, 700),
  ([105, 115], 0, 700), ([61, 58, 61], 0, 700), ([61, 92, 61], 0, 700), ([60], 0, 700), ([62], 0, 700), ([61, 60], 0, 700), ([62, 61], 0, 700), ([61, 46, 46], 0, 700),
  ([35, 61], 0, 700), ([35, 92, 61], 0, 700), ([35, 60], 0, 700), ([35, 62], 0, 700), ([35, 61, 60], 0, 700), ([35, 62, 61], 0, 700), ([105, 110], 0, 700),
  ([92, 47], 2, 550), ([46, 46], 0, 450), ([43], 2, 500), ([45], 2, 500), ([42], 2, 400), ([47, 47], 2, 400), ([114, 101, 109], 2, 400), ([109, 111, 100], 2, 400), ([100, 105, 118], 2, 400), ([94], 1, 200)]
def rowsP : List (List UInt8 × Int × Int) := [([58, 45], 3, 1200), ([92, 43], 4, 900), ([43], 4, 200), ([45], 4, 200)]
def cellsR (l : List (List UInt8 × Int × Int)) : Array Value := (l.flatMap fun r => [.string (bs r.1), .int .i64 r.2.1, .int .i64 r.2.2]).toArray
/-- the table of t's type lies in block g -/
def Tb (g : Nat) (t : TypeId) (l : List (List UInt8 × Int × Int)) (w : World) : Prop := ∃ tt fr, w.heap[g]? = some (.cells (cellsR l) tt fr) ∧ t = t
theorem Tb.kept {g : Nat} {t : TypeId} {l : List (List UInt8 × Int × Int)} {w w' : World} (h : Tb g t l w) (hb : Below w.heap.size w w') : Tb g t l w' := by
  obtain ⟨tt, fr, h, _⟩ := h
  have hg : g < w.heap.size := by
    by_cases hlt : g < w.heap.size
    · exact hlt
    · rw [Array.getElem?_eq_none (by omega)] at h; cases h
  exact ⟨tt, fr, by rw [hb.block g hg]; exact h, rfl⟩
theorem Tb.cell {g : Nat} {t : TypeId} {l : List (List UInt8 × Int × Int)} {w : World} (h : Tb g t l w) (j : Nat) : w.cell? ⟨g, j, none⟩ = (cellsR l)[j]? := by
  obtain ⟨tt, fr, h, _⟩ := h
  exact cell_at h
theorem wpList_loadTb {ops : Array Oper} {rest : List Oper} {o : Oper} {a : Act} {w : World} {Q : Exit → Act → World → Prop} (hgd : o.guard = none) (x : Operand) {g n : Nat} {t e : TypeId} {l : List (List UInt8 × Int × Int)}
    (ho : o.op = .load t x) (hx : a.eval x = .pointer (some ⟨g, 0, none⟩)) (h : Tb g t l w) (hu : Tryd.prog.underlying t = some (.array n e)) (hi : (Tryd.prog.info? t).map (·.size) = some (cellsR l).size)
    (hK : wpList Tryd.prog ops Q rest (a.put o.dst (.agg (cellsR l))) w) : wpList Tryd.prog ops Q (o :: rest) a w := by
  obtain ⟨tt, fr, h, _⟩ := h
  exact wpList_load_row hgd t x ho g hx tt _ fr (.array n e) h hu rfl hi hK
theorem drop3 {α β : Type} (f : α → List β) (h3 : ∀ a, (f a).length = 3) : ∀ (l : List α) (m : Nat) (r : α), l[m]? = some r → ((l.flatMap f).drop (m * 3)).take 3 = f r
  | [], m, r, h => by simp at h
  | a :: l, 0, r, h => by
    simp at h; subst h
    rw [List.flatMap_cons, Nat.zero_mul, List.drop_zero, List.take_append_of_le_length (by rw [h3]; exact Nat.le_refl _), List.take_of_length_le (by rw [h3]; exact Nat.le_refl _)]
  | a :: l, m + 1, r, h => by
    have ih := drop3 f h3 l m r (by simpa using h)
    rw [List.flatMap_cons, show (m + 1) * 3 = (f a).length + m * 3 from by rw [h3]; omega, List.drop_length_add_append]
    exact ih
theorem cellsR_part {l : List (List UInt8 × Int × Int)} {m : Nat} {r : List UInt8 × Int × Int} (h : l[m]? = some r) : (cellsR l).extract (m * 3) (m * 3 + 3) = #[.string (bs r.1), .int .i64 r.2.1, .int .i64 r.2.2] := by
  have := drop3 (fun r : List UInt8 × Int × Int => [Value.string (bs r.1), .int .i64 r.2.1, .int .i64 r.2.2]) (fun _ => rfl) l m r h
  apply Array.ext'
  unfold cellsR
  rw [List.extract_toArray, List.extract_eq_take_drop]
  simpa using this
theorem row_info : (Tryd.prog.info? 29).map (·.size) = some 3 := by kernel_rfl
theorem wpList_indexR {ops : Array Oper} {rest : List Oper} {o : Oper} {a : Act} {w : World} {Q : Exit → Act → World → Prop} (hgd : o.guard = none) (x ix : Operand) {t : TypeId} {n m : Nat} {l : List (List UInt8 × Int × Int)} {A : Array Value} (r : List UInt8 × Int × Int)
    (ho : o.op = .index t x ix) (hx : a.eval x = .agg A) (hA : A = cellsR l) (hi : a.eval ix = .int .i64 m) (hu : Tryd.prog.underlying t = some (.array n 29)) (hm : l[m]? = some r) (hn : m < n)
    (hK : wpList Tryd.prog ops Q rest (a.put o.dst (.agg #[.string (bs r.1), .int .i64 r.2.1, .int .i64 r.2.2])) w) : wpList Tryd.prog ops Q (o :: rest) a w := by
  refine wpList_plain hgd fun K hKK => ?_
  obtain ⟨i, hi1, hi2⟩ := Option.map_eq_some_iff.1 row_info
  have hrun : (Instr.index t (.agg A) (.int .i64 m)).run Tryd.prog w = .ok (.agg #[.string (bs r.1), .int .i64 r.2.1, .int .i64 r.2.2]) w := by
    subst hA
    rw [← cellsR_part hm]
    simp [Instr.index, run_underlying hu, asIntOf, hn, part, sizeOf, typeInfo, hi1, hi2, go_sem]
  unfold Oper.wp execOp
  simp only [ho, hx, hi, Sem.run_bind, Sem.run_pure, Result.andThen_ok, hrun]
  exact hKK _ _ hK

theorem find_hit {l : List (List UInt8 × Int × Int)} {n : List UInt8} {m : Nat} {r : List UInt8 × Int × Int} (h : l[m]? = some r) (he : r.1 = n) (hN : ∀ j r, j < m → l[j]? = some r → r.1 ≠ n) : l.find? (fun r => r.1 == n) = some r := by
  rw [List.find?_eq_some_iff_getElem]
  obtain ⟨hm, hr⟩ := List.getElem?_eq_some_iff.1 h
  refine ⟨by simpa using he, m, hm, hr, fun j hj => ?_⟩
  simpa using hN j _ hj (List.getElem?_eq_getElem _)
theorem find_no {l : List (List UInt8 × Int × Int)} {n : List UInt8} (hN : ∀ j r, j < l.length → l[j]? = some r → r.1 ≠ n) : l.find? (fun r => r.1 == n) = none := by
  rw [List.find?_eq_none]
  intro r hr
  obtain ⟨i, hi, rfl⟩ := List.mem_iff_getElem.1 hr
  simpa using hN i _ hi (List.getElem?_eq_getElem _)
def pI (r : List UInt8 × Int × Int) : Int × Int × Int × Bool := (r.2.2, (if r.2.1 == 2 then r.2.2 else r.2.2 - 1), (if r.2.1 == 1 then r.2.2 else r.2.2 - 1), true)
def progI (n : List UInt8) : Int × Int × Int × Bool := match rowsI.find? (fun r => r.1 == n) with | some r => pI r | none => (0, 0, 0, false)
def pP (r : List UInt8 × Int × Int) : Int × Int × Bool := (r.2.2, (if r.2.1 == 4 then r.2.2 else r.2.2 - 1), true)
def progP (n : List UInt8) : Int × Int × Bool := match rowsP.find? (fun r => r.1 == n) with | some r => pP r | none => (0, 0, false)
theorem sizeI : (Tryd.prog.info? 30).map (·.size) = some (cellsR rowsI).size := by kernel_rfl
theorem sizeP : (Tryd.prog.info? 33).map (·.size) = some (cellsR rowsP).size := by kernel_rfl
theorem rowsI_pri : ∀ r ∈ rowsI, 0 ≤ r.2.2 ∧ r.2.2 ≤ 1200 := by decide
theorem rowsP_pri : ∀ r ∈ rowsP, 0 ≤ r.2.2 ∧ r.2.2 ≤ 1200 := by decide
theorem x_no {a : List UInt8} {n : ByteArray} (h : a ≠ n.data.toList) : ((bs a).toList == n.toList) = false := by
  rw [ByteArray.toList_eq, ByteArray.toList_eq]
  simpa [bs] using h
set_option maxRecDepth 10000 in
set_option maxHeartbeats 4000000 in
theorem infix_c (n : ByteArray) (w : World) (hT : Tb 0 30 rowsI w) :
    Calls Tryd.prog 6 #[.string n] w fun e w' => e = .returned (tupI (progI n.data.toList)) ∧ Below w.heap.size w w' := by
  have HT := Lib.hid hT
  clear hT
  have hlen : rowsI.length = 38 := by rfl
  have Hp := Lib.hid (show ∀ (m : Nat) r, rowsI[m]? = some r → 0 ≤ r.2.2 ∧ r.2.2 ≤ 1200 from fun m r h => rowsI_pri r (List.mem_of_getElem? h))
  have HR := Lib.hid (show progI n.data.toList = match rowsI.find? (fun r => r.1 == n.data.toList) with | some r => pI r | none => (0, 0, 0, false) from rfl)
  generalize progI n.data.toList = R at *
  have HI := Lib.hid sizeI
  generalize hA : cellsR rowsI = A at *
  have HA := Lib.hid hA
  clear hA
  generalize rowsI = L at *
  go_enter Tryd.func6, Tryd.ntmps6
  go_wp2_with (refine wpList_loadTb rfl (.global 0) rfl rfl HT.out Tryd.underlying30 (by rw [HA.out]; exact HI.out) ?_; rw [HA.out])
  go_loopg [9] 38 (fun k i wr => ∃ m : Nat, k = 38 - m ∧ m ≤ 38 ∧ i = .int .i64 m ∧ Hid (∀ j r, j < m → L[j]? = some r → r.1 ≠ n.data.toList) ∧ Hid (Below w.heap.size w wr))
  case atStart => exact ⟨0, by omega, by omega, rfl, Lib.hid (fun j _ h => absurd h (by omega)), Lib.hid (Below.refl _ _)⟩
  case round =>
    obtain ⟨m, hgk, hm, rfl, hN, hB⟩ := hrel
    by_cases hlt : m < 38
    · have hlt2 : (m : Int) < 38 := by omega
      obtain ⟨r, hr⟩ : ∃ r, L[m]? = some r := ⟨_, List.getElem?_eq_getElem (by omega)⟩
      have hb1 := Lib.hid (hB.out.alloc hB.out.size (.cells #[.string (bs r.1), .int .i64 r.2.1, .int .i64 r.2.2] 29))
      by_cases he : r.1 = n.data.toList
      · obtain ⟨hp0, hp1⟩ := Hp.out m r hr
        have hRr : R = pI r := by rw [HR.out, find_hit hr he hN.out]
        have Hr := Lib.hid hr
        clear hr
        subst hRr
        obtain ⟨nm, kd, pr⟩ := r
        simp only at *
        have hz := hB.out.size
        have Hz := Lib.hid hz
        subst he
        rw [bs_data] at hb1
        have HM2 := fun W => most_c n kd pr (kd == 2) hp0 hp1 W
        have HM1 := fun W => most_c n kd pr (kd == 1) hp0 hp1 W
        obtain ⟨A2, hA2⟩ : ∃ x, x = (if (kd == 2) = true then pr else pr - 1) := ⟨_, rfl⟩
        obtain ⟨A1, hA1⟩ : ∃ x, x = (if (kd == 1) = true then pr else pr - 1) := ⟨_, rfl⟩
        rw [← hA2] at HM2
        rw [← hA1] at HM1
        have HA2 := Lib.hid hA2
        have HA1 := Lib.hid hA1
        clear hA1 hA2 hp0 hp1 hz
        go_wp2_with (refine wpList_indexR rfl _ _ _ rfl rfl HA.out.symm rfl Tryd.underlying30 Hr.out hlt ?_; simp only [bs_data])
        have HB := Lib.hid (show Below w.heap.size w (wr.alloc (.cells #[.string n, .int .i64 kd, .int .i64 pr] 29)) from hb1.out)
        generalize hW1 : World.alloc wr _ = W1 at *
        have hblk : W1.heap[wr.heap.size]? = some (.cells #[.string n, .int .i64 kd, .int .i64 pr] 29 (0, 0)) := by rw [← hW1]; exact heap_alloc_new wr _
        have c0 : W1.cell? ⟨wr.heap.size, 0, none⟩ = some (.string n) := by rw [cell_at hblk]; rfl
        have c1 : W1.cell? ⟨wr.heap.size, 1, none⟩ = some (.int .i64 kd) := by rw [cell_at hblk]; rfl
        have c2 : W1.cell? ⟨wr.heap.size, 2, none⟩ = some (.int .i64 pr) := by rw [cell_at hblk]; rfl
        have z1 : wr.heap.size < W1.heap.size := by rw [← hW1]; simp
        clear hW1 hblk
        go_region_held3 (fun w' => w'.cell? ⟨wr.heap.size, 0, none⟩ = some (.string n) ∧ w'.cell? ⟨wr.heap.size, 1, none⟩ = some (.int .i64 kd) ∧ w'.cell? ⟨wr.heap.size, 2, none⟩ = some (.int .i64 pr))
          (first | exact ⟨c0, c1, c2⟩ | (refine ⟨?_, ?_, ?_⟩ <;> (rw [b6.cell (by go_size)]; first | assumption | go_cell)) | (refine ⟨?_, ?_, ?_⟩ <;> (rw [b5.cell (by go_size)]; first | assumption | go_cell)))
          (first
            | (go_at_call_of 10 (Value.bool (kd == 2)); (refine (HM2 _).mono ?_); rintro e w5 ⟨rfl, b5⟩; have z5 : wr.heap.size < w5.heap.size := (by have := b5.size; simp at this; omega))
            | (go_at_call_of 10 (Value.bool (kd == 1)); (refine (HM1 _).mono ?_); rintro e w6 ⟨rfl, b6⟩; have z6 : wr.heap.size < w6.heap.size := (by have := b6.size; omega)))
        go_wp2
        (try simp only [Exit.inBlock, Exit.then]); refine bodyPost_ret (res4 rfl _ _ _) rfl ?_
        exact ⟨by rw [HA2.out, HA1.out]; rfl, HB.out.trans (((below_drawn _ W1 1).trans (b5.mono HB.out.size)).trans (b6.mono (Nat.le_trans HB.out.size (Nat.le_trans (by simp) b5.size))))⟩
      · have x1 := x_no he
        have Hr := Lib.hid hr
        have HN := Lib.hid (show ∀ j r, j < m + 1 → L[j]? = some r → r.1 ≠ n.data.toList from fun j r' hj h => by
          by_cases e : j = m
          · subst e; rw [h] at hr; cases hr; exact he
          · exact hN.out j r' (by omega) h)
        clear hr he
        obtain ⟨nm, kd, pr⟩ := r
        simp only at *
        go_wp2_with (refine wpList_indexR rfl _ _ _ rfl rfl HA.out.symm rfl Tryd.underlying30 Hr.out hlt ?_)
        go_roundg (38 - (m + 1))
        case measure => omega
        case rel => exact ⟨m + 1, rfl, by omega, by go_num, HN, hb1⟩
    · obtain rfl : m = 38 := by omega
      have hRr : R = (0, 0, 0, false) := by rw [HR.out, find_no (by rw [hlen]; exact hN.out)]
      subst hRr
      go_wp2
      (try simp only [Exit.inBlock, Exit.then]); refine bodyPost_ret (res4 rfl _ _ _) rfl ?_
      exact ⟨rfl, hB.out⟩
set_option maxRecDepth 10000 in
set_option maxHeartbeats 4000000 in
theorem prefix_c (n : ByteArray) (w : World) (hT : Tb 1 33 rowsP w) :
    Calls Tryd.prog 8 #[.string n] w fun e w' => e = .returned (tupP (progP n.data.toList)) ∧ Below w.heap.size w w' := by
  have HT := Lib.hid hT
  clear hT
  have hlen : rowsP.length = 4 := by rfl
  have Hp := Lib.hid (show ∀ (m : Nat) r, rowsP[m]? = some r → 0 ≤ r.2.2 ∧ r.2.2 ≤ 1200 from fun m r h => rowsP_pri r (List.mem_of_getElem? h))
  have HR := Lib.hid (show progP n.data.toList = match rowsP.find? (fun r => r.1 == n.data.toList) with | some r => pP r | none => (0, 0, false) from rfl)
  generalize progP n.data.toList = R at *
  have HI := Lib.hid sizeP
  generalize hA : cellsR rowsP = A at *
  have HA := Lib.hid hA
  clear hA
  generalize rowsP = L at *
  go_enter Tryd.func8, Tryd.ntmps8
  go_wp2_with (refine wpList_loadTb rfl (.global 1) rfl rfl HT.out Tryd.underlying33 (by rw [HA.out]; exact HI.out) ?_; rw [HA.out])
  go_loopg [8] 4 (fun k i wr => ∃ m : Nat, k = 4 - m ∧ m ≤ 4 ∧ i = .int .i64 m ∧ Hid (∀ j r, j < m → L[j]? = some r → r.1 ≠ n.data.toList) ∧ Hid (Below w.heap.size w wr))
  case atStart => exact ⟨0, by omega, by omega, rfl, Lib.hid (fun j _ h => absurd h (by omega)), Lib.hid (Below.refl _ _)⟩
  case round =>
    obtain ⟨m, hgk, hm, rfl, hN, hB⟩ := hrel
    by_cases hlt : m < 4
    · have hlt2 : (m : Int) < 4 := by omega
      obtain ⟨r, hr⟩ : ∃ r, L[m]? = some r := ⟨_, List.getElem?_eq_getElem (by omega)⟩
      have hb1 := Lib.hid (hB.out.alloc hB.out.size (.cells #[.string (bs r.1), .int .i64 r.2.1, .int .i64 r.2.2] 29))
      by_cases he : r.1 = n.data.toList
      · obtain ⟨hp0, hp1⟩ := Hp.out m r hr
        have hRr : R = pP r := by rw [HR.out, find_hit hr he hN.out]
        have Hr := Lib.hid hr
        clear hr
        subst hRr
        obtain ⟨nm, kd, pr⟩ := r
        simp only at *
        have hz := hB.out.size
        have Hz := Lib.hid hz
        subst he
        rw [bs_data] at hb1
        have HM2 := fun W => most_c n kd pr (kd == 4) hp0 hp1 W
        obtain ⟨A2, hA2⟩ : ∃ x, x = (if (kd == 4) = true then pr else pr - 1) := ⟨_, rfl⟩
        rw [← hA2] at HM2
        have HA2 := Lib.hid hA2
        clear hA2 hp0 hp1 hz
        go_wp2_with (refine wpList_indexR rfl _ _ _ rfl rfl HA.out.symm rfl Tryd.underlying33 Hr.out hlt ?_; simp only [bs_data])
        have HB := Lib.hid (show Below w.heap.size w (wr.alloc (.cells #[.string n, .int .i64 kd, .int .i64 pr] 29)) from hb1.out)
        generalize hW1 : World.alloc wr _ = W1 at *
        have hblk : W1.heap[wr.heap.size]? = some (.cells #[.string n, .int .i64 kd, .int .i64 pr] 29 (0, 0)) := by rw [← hW1]; exact heap_alloc_new wr _
        have c0 : W1.cell? ⟨wr.heap.size, 0, none⟩ = some (.string n) := by rw [cell_at hblk]; rfl
        have c1 : W1.cell? ⟨wr.heap.size, 1, none⟩ = some (.int .i64 kd) := by rw [cell_at hblk]; rfl
        have c2 : W1.cell? ⟨wr.heap.size, 2, none⟩ = some (.int .i64 pr) := by rw [cell_at hblk]; rfl
        have z1 : wr.heap.size < W1.heap.size := by rw [← hW1]; simp
        clear hW1 hblk
        go_region_held3 (fun w' => w'.cell? ⟨wr.heap.size, 0, none⟩ = some (.string n) ∧ w'.cell? ⟨wr.heap.size, 1, none⟩ = some (.int .i64 kd) ∧ w'.cell? ⟨wr.heap.size, 2, none⟩ = some (.int .i64 pr))
          (first | exact ⟨c0, c1, c2⟩ | (refine ⟨?_, ?_, ?_⟩ <;> (rw [b5.cell (by go_size)]; first | assumption | go_cell)))
          (first
            | (go_at_call_of 10 (Value.bool (kd == 4)); (refine (HM2 _).mono ?_); rintro e w5 ⟨rfl, b5⟩; have z5 : wr.heap.size < w5.heap.size := (by have := b5.size; simp at this; omega)))
        go_wp2
        go_ret3
        exact ⟨by rw [HA2.out]; rfl, HB.out.trans ((below_drawn _ W1 1).trans (b5.mono HB.out.size))⟩
      · have x1 := x_no he
        have Hr := Lib.hid hr
        have HN := Lib.hid (show ∀ j r, j < m + 1 → L[j]? = some r → r.1 ≠ n.data.toList from fun j r' hj h => by
          by_cases e : j = m
          · subst e; rw [h] at hr; cases hr; exact he
          · exact hN.out j r' (by omega) h)
        clear hr he
        obtain ⟨nm, kd, pr⟩ := r
        simp only at *
        go_wp2_with (refine wpList_indexR rfl _ _ _ rfl rfl HA.out.symm rfl Tryd.underlying33 Hr.out hlt ?_)
        go_roundg (4 - (m + 1))
        case measure => omega
        case rel => exact ⟨m + 1, rfl, by omega, by go_num, HN, hb1⟩
    · obtain rfl : m = 4 := by omega
      have hRr : R = (0, 0, false) := by rw [HR.out, find_no (by rw [hlen]; exact hN.out)]
      subst hRr
      go_wp2
      go_ret3
      exact ⟨rfl, hB.out⟩
end Go.Proofs.YtnbbcegfcpcndaaDoor.op
