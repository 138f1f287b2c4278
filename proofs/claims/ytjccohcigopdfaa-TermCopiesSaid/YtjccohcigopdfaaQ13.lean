/- A slice of bytes in a block of the call's own: made, appended to, made a string.; The bytes' classes: the reference's sign.; The reference: two, run, between.; The reference: quoted.; The reference: run.; The reference: between.; The reference: Tokens: what its walk leans on. -/
import Derived.Test.YtjccohcigopdfaaQ3
import Derived.Lib.UnsafeStr
import Derived.WideShapes
import Derived.Test.YtjccohcigopdfaaQ2
import Derived.Test.YtjccohcigopdfaaQ12
import Derived.Deep.WholeRow
set_option linter.unusedVariables false
set_option linter.unusedSimpArgs false
section
/- A slice of bytes in a block of the call's own: made, appended to, made a string. -/
namespace Go.Proofs.Ytjccohcigopdfaa.lx
open Go.RowKit

/-- the slice at block g of room cap holds the bytes l -/
def By (B : Nat) (w : World) (g cap : Nat) (l : List UInt8) : Prop := w.ownsRow B 5 1 (.slice (some ⟨g, 0, none⟩) l.length cap) l.length (Lib.byteCells l)
theorem By.lt {B : Nat} {w : World} {g cap : Nat} {l : List UInt8} (h : By B w g cap l) : B ≤ g ∧ g < w.heap.size := (World.ownsRow.lt h) g rfl
theorem By.drawn {B : Nat} {w : World} {g cap : Nat} {l : List UInt8} (h : By B w g cap l) (k : Nat) : By B (w.drewN k) g cap l := h
theorem By.empty (B : Nat) (w : World) (hB : B ≤ w.heap.size) : By B (w.alloc (.cells #[] 5)) w.heap.size 0 [] :=
  ⟨rfl, .inr ⟨w.heap.size, 0, #[], rfl, hB, heap_alloc_new w _, Nat.le_refl _, by unfold maxLen; omega, rfl, rfl⟩⟩
theorem By.one (B : Nat) (w : World) (hB : B ≤ w.heap.size) (b : UInt8) {e : Int} (he : e = (b.toNat : Nat)) : By B (w.alloc (.cells #[.int .u8 e] 5)) w.heap.size 1 [b] := by
  subst he
  exact ⟨rfl, .inr ⟨w.heap.size, 1, #[.int .u8 (b.toNat : Nat)], rfl, hB, heap_alloc_new w _, Nat.le_refl _, by unfold maxLen; omega, rfl, rfl⟩⟩
theorem wpList_pushN {ops : Array Oper} {rest : List Oper} {o : Oper} {a : Act} {Q : Exit → Act → World → Prop} (hgd : o.guard = none) (s x : Operand)
    (ho : o.op = .call { callee := .builtin .append, args := #[s, x], argTypes := #[22, 22] })
    (B : Nat) (w : World) (g cap : Nat) (l news : List UInt8) (cs : Array Value) (hcs : cs.toList = Lib.byteCells news) (hn0 : 0 < news.length) (hs : a.eval s = .slice (some ⟨g, 0, none⟩) l.length cap) (hown : By B w g cap l)
    (m : Nat) (hm : m = news.length) (hx : a.eval x = .slice (some ⟨w.heap.size, 0, none⟩) m m) (hlen : l.length + news.length ≤ 1000000) (hB : B ≤ w.heap.size)
    (h : ∀ g' cap' w', By B w' g' cap' (l ++ news) → Below B w w' → wpList Try.prog ops Q rest (a.put o.dst (.slice (some ⟨g', 0, none⟩) (l.length + m) cap')) w') :
    wpList Try.prog ops Q (o :: rest) a (w.alloc (.cells cs 5)) := by
  obtain ⟨i0, hi, hz0, hz1, hz2⟩ := info_parts u8_info
  have hbn : (Lib.byteCells news).length = news.length := Lib.byteCells_length news
  have hbl : (Lib.byteCells l).length = l.length := Lib.byteCells_length l
  have hb0 : (w.alloc (.cells cs 5)).heap[w.heap.size]? = some (.cells cs 5 (0, 0)) := heap_alloc_new w _
  refine wpList_append_own _ hgd s x 22 ho B 5 i0 (.int .u8 0) 1 1 Try.underlying22 hi hz0 hz1 hz2 rfl (by decide) _ l.length (Lib.byteCells l) hs (World.ownsRow.alloc hown _) ⟨w.heap.size, 0, none⟩ m m (Lib.byteCells news) hx (by rw [hbn, hm, Nat.mul_one]) ?_ ?_ ?_ ?_ ?_ ?_
  · intro j u hj
    have e : (⟨w.heap.size, 0, none⟩ : Addr).add j = ⟨w.heap.size, j, none⟩ := by
      by_cases h0 : j = 0
      · subst h0; simp [Addr.add]
      · simp [Addr.add, h0]
    rw [e, cell_at hb0, ← Array.getElem?_toList, hcs]; exact hj
  · intro u hu; simp [Lib.byteCells] at hu; obtain ⟨b, _, rfl⟩ := hu; rfl
  · unfold maxLen; omega
  · omega
  · show B ≤ (w.heap.push _).size; simp; omega
  · intro v' w' hown' hgr hnil
    have e1 : Lib.byteCells l ++ Lib.byteCells news = Lib.byteCells (l ++ news) := by simp [Lib.byteCells]
    rw [e1] at hown'
    have hb : Below B w w' := ((Below.refl B w).alloc hB _).grown hgr (by show B ≤ (w.heap.push _).size; simp; omega) (fun k hk => by simp [Value.ownBlock] at hk; have := hown.lt.1; omega)
    rcases hown'.2 with ⟨h1, h2⟩ | ⟨g', cap', cur, h1, h2⟩
    · omega
    · subst h1
      refine h g' cap' w' ?_ hb
      unfold By
      rw [List.length_append, ← hm]; exact hown'
/-- one byte more -/
theorem wpList_push1 {ops : Array Oper} {rest : List Oper} {o : Oper} {a : Act} {Q : Exit → Act → World → Prop} (hgd : o.guard = none) (s x : Operand)
    (ho : o.op = .call { callee := .builtin .append, args := #[s, x], argTypes := #[22, 22] })
    (B : Nat) (w : World) (g cap : Nat) (l : List UInt8) (b : UInt8) (e : Int) (he : e = (b.toNat : Nat)) (hs : a.eval s = .slice (some ⟨g, 0, none⟩) l.length cap) (hown : By B w g cap l)
    (hx : a.eval x = .slice (some ⟨w.heap.size, 0, none⟩) 1 1) (hlen : l.length ≤ 100000) (hB : B ≤ w.heap.size)
    (h : ∀ g' cap' w', By B w' g' cap' (l ++ [b]) → Below B w w' → wpList Try.prog ops Q rest (a.put o.dst (.slice (some ⟨g', 0, none⟩) (l.length + 1) cap')) w') :
    wpList Try.prog ops Q (o :: rest) a (w.alloc (.cells #[.int .u8 e] 5)) :=
  wpList_pushN hgd s x ho B w g cap l [b] _ (by rw [he]; rfl) (by simp) hs hown 1 rfl hx (by simp; omega) hB h
/-- two bytes more -/
theorem wpList_push2 {ops : Array Oper} {rest : List Oper} {o : Oper} {a : Act} {Q : Exit → Act → World → Prop} (hgd : o.guard = none) (s x : Operand)
    (ho : o.op = .call { callee := .builtin .append, args := #[s, x], argTypes := #[22, 22] })
    (B : Nat) (w : World) (g cap : Nat) (l : List UInt8) (b c : UInt8) (e f : Int) (he : e = (b.toNat : Nat)) (hf : f = (c.toNat : Nat)) (hs : a.eval s = .slice (some ⟨g, 0, none⟩) l.length cap) (hown : By B w g cap l)
    (hx : a.eval x = .slice (some ⟨w.heap.size, 0, none⟩) 2 2) (hlen : l.length ≤ 100000) (hB : B ≤ w.heap.size)
    (h : ∀ g' cap' w', By B w' g' cap' (l ++ [b, c]) → Below B w w' → wpList Try.prog ops Q rest (a.put o.dst (.slice (some ⟨g', 0, none⟩) (l.length + 2) cap')) w') :
    wpList Try.prog ops Q (o :: rest) a (w.alloc (.cells #[.int .u8 e, .int .u8 f] 5)) :=
  wpList_pushN hgd s x ho B w g cap l [b, c] _ (by rw [he, hf]; rfl) (by simp) hs hown 2 rfl hx (by simp; omega) hB h
set_option maxRecDepth 20000 in
theorem By.conv {B : Nat} {w : World} {g cap : Nat} {l : List UInt8} (h : By B w g cap l) : (convert 22 9 (.slice (some ⟨g, 0, none⟩) l.length cap)).run Try.prog w = .ok (.string ⟨l.toArray⟩) w := by
  have hc := World.ownsRow.cells h (g := g) rfl
  have := run_convert_bytes_arg (P := Try.prog) w 22 5 Try.underlying22 Try.underlying5 g 0 l.length cap (l.map fun c => (c.toNat : Int)) (by simp) (fun i hi => by
    have e : (⟨g, 0, none⟩ : Addr).add i = ⟨g, i, none⟩ := by
      by_cases h0 : i = 0
      · subst h0; simp [Addr.add]
      · simp [Addr.add, h0]
    rw [Nat.zero_add, ← e]
    refine hc i _ ?_
    simp [Lib.byteCells, hi]) 9 Try.underlying9
  rw [this]
  congr 2
  unfold strOfNums
  simp only [List.map_map]
  rw [show ((fun n : Int => UInt8.ofNat n.toNat) ∘ fun c : UInt8 => (c.toNat : Int)) = id from funext fun c => by simp, List.map_id]
end Go.Proofs.Ytjccohcigopdfaa.lx
end
section
/- The bytes' classes: the reference's sign. -/
namespace Go.Proofs.Ytjccohcigopdfaa.lx
open Go.RowKit

/-! the reference's signs -/
def sg : ByteArray := ⟨#[43, 45, 42, 47, 92, 94, 60, 62, 61, 58, 46, 63, 64, 35, 36, 38, 126]⟩
theorem sg_in (c : Nat) (hc : c ≤ 255) : (cls c == 5) = (List.range 17).any (fun k => PlainAid.bt sg k == (c : Int)) := by
  have := all_bytes (P := fun c => (cls c == 5) == (List.range 17).any (fun k => PlainAid.bt sg k == (c : Int))) (by decide +kernel) hc
  exact eq_of_beq this
theorem sign_c (c : Nat) (hc : c ≤ 255) (w : World) :
    Calls Try.prog 66 #[.int .u8 c] w fun e w' => e = .returned (.bool (cls c == 5)) ∧ w = w' := by
  have hs := Lib.hid (sg_in c hc)
  go_enter Try.func66, Try.ntmps66
  go_wp2
  go_loop [4] (fun i => ∃ k : Nat, i = .int .i64 k ∧ k ≤ 17 ∧ Hid (∀ j, j < k → PlainAid.bt sg j ≠ (c : Int))) (fun i => 17 - (intOf i).toNat)
  case atStart => exact ⟨0, rfl, by omega, Lib.hid (fun j hj => absurd hj (by omega))⟩
  case round =>
    obtain ⟨k, rfl, hk, hm⟩ := hrel
    have hgt : ∀ (n : Nat) (h : n < (ByteArray.mk #[43, 45, 42, 47, 92, 94, 60, 62, 61, 58, 46, 63, 64, 35, 36, 38, 126]).size), ((((ByteArray.mk #[43, 45, 42, 47, 92, 94, 60, 62, 61, 58, 46, 63, 64, 35, 36, 38, 126])[n]'h).toNat : Nat) : Int) = PlainAid.bt sg n := PlainAid.get_bt sg
    by_cases hlt : k < 17
    · by_cases he : PlainAid.bt sg k = c
      · have hh := Lib.hid he
        have he' : (PlainAid.bt sg k == (c : Int)) = true := by simpa using he
        clear he
        go_wp2
        go_ret
        refine ⟨ret_b ?_, rfl⟩
        rw [hs.out]
        symm
        rw [List.any_eq_true]
        exact ⟨k, List.mem_range.2 hlt, by simpa using hh.out⟩
      · have he' : (PlainAid.bt sg k == (c : Int)) = false := by simpa using he
        have hm' : Hid (∀ j, j < k + 1 → PlainAid.bt sg j ≠ (c : Int)) := Lib.hid fun j hj => by
          by_cases h : j = k
          · subst h; exact he
          · exact hm.out j (by omega)
        clear he hm
        go_wp2
        exact ⟨⟨k + 1, by go_num, by omega, hm'⟩, by simp [intOf]; omega⟩
    · obtain rfl : k = 17 := by omega
      clear hgt
      go_wp2
      go_ret
      refine ⟨ret_b ?_, rfl⟩
      rw [hs.out]
      symm
      rw [List.any_eq_false]
      intro j hj
      have := hm.out j (List.mem_range.1 hj)
      simpa using this
end Go.Proofs.Ytjccohcigopdfaa.lx
end
section
/- The reference: two, run, between. -/
namespace Go.Proofs.Ytjccohcigopdfaa.lx
open Go.RowKit

def twoB (s : ByteArray) (n a b : Nat) : Bool := decide (n + 1 < s.size) && (bA s n).toNat == a && (bA s (n + 1)).toNat == b
set_option maxHeartbeats 1000000 in
theorem two_c (s : ByteArray) (n a b : Nat) (hn : n ≤ 10000) (_hs : s.size ≤ 20000) (w : World) :
    Calls Try.prog 86 #[.string s, .int .i64 n, .int .u8 a, .int .u8 b] w fun e w' => e = .returned (.bool (twoB s n a b)) ∧ w = w' := by
  have hgt := get_bA s
  unfold twoB
  by_cases h2 : n + 1 < s.size
  · have H2 := Lib.hid (show decide (n + 1 < s.size) = true by simpa using h2)
    have h3 : (n : Int) + 1 < s.size := by omega
    by_cases h1 : (bA s n).toNat = a
    · have a1 : (((bA s n).toNat : Int) == (a : Int)) = true := by simp; omega
      have H1 := Lib.hid (show ((bA s n).toNat == a) = true by simpa using h1)
      clear h1
      go_enter Try.func86, Try.ntmps86
      go_wp2
      go_ret
      refine ⟨ret_b ?_, rfl⟩
      rw [H1.out, H2.out, Bool.eq_iff_iff]; simp; omega
    · have a1 : (((bA s n).toNat : Int) == (a : Int)) = false := by simp; omega
      have H1 := Lib.hid (show ((bA s n).toNat == a) = false by simpa using h1)
      clear h1
      go_enter Try.func86, Try.ntmps86
      go_wp2
      go_ret
      refine ⟨ret_b ?_, rfl⟩
      rw [H1.out, H2.out]; rfl
  · have H2 := Lib.hid (show decide (n + 1 < s.size) = false by simpa using h2)
    have h3 : ¬ ((n : Int) + 1 < s.size) := by omega
    go_enter Try.func86, Try.ntmps86
    go_wp2
    go_ret
    refine ⟨ret_b ?_, rfl⟩
    first | rw [H2.out]; rfl | rfl

theorem prefix_twoB {s : ByteArray} {n : Nat} (hn : n < s.size) : Lib.hasPrefix (s.data.toList.drop n) [47, 42] = twoB s n 47 42 := by
  unfold twoB Lib.hasPrefix
  rw [drop_bA hn]
  by_cases h : n + 1 < s.size
  · rw [drop_bA h, decide_eq_true h, Bool.true_and]
    simp only [List.isPrefixOf, Bool.and_true]
    rw [← u8_eq _ 47 (by omega), ← u8_eq _ 42 (by omega)]
    rw [Bool.beq_comm (a := bA s n), Bool.beq_comm (a := bA s (n + 1))]; rfl
  · rw [drop_end (k := n + 1) (by omega), decide_eq_false h]
    simp [List.isPrefixOf]
theorem cutRem_step {s : ByteArray} {k : Nat} (hk : k < s.size) (h : twoB s k 42 47 = false) : cutRem (s.data.toList.drop k) = cutRem (s.data.toList.drop (k + 1)) := by
  rw [drop_bA hk]
  by_cases hl : k + 1 < s.size
  · rw [drop_bA hl, cutRem, if_neg]
    rintro ⟨e1, e2⟩
    unfold twoB at h
    rw [e1, e2, decide_eq_true hl] at h
    exact absurd h (by decide)
  · rw [drop_end (k := k + 1) (by omega)]; rfl
theorem cutRem_hit {s : ByteArray} {k : Nat} (h : twoB s k 42 47 = true) : k + 2 ≤ s.size ∧ cutRem (s.data.toList.drop k) = some (s.data.toList.drop (k + 2)) := by
  unfold twoB at h
  simp only [Bool.and_eq_true, decide_eq_true_eq, beq_iff_eq] at h
  obtain ⟨⟨h1, h2⟩, h3⟩ := h
  refine ⟨by omega, ?_⟩
  rw [drop2 h1, cutRem, if_pos ⟨UInt8.toNat_inj.1 (by rw [h2]; rfl), UInt8.toNat_inj.1 (by rw [h3]; rfl)⟩]
end Go.Proofs.Ytjccohcigopdfaa.lx
end
section
/- The reference: quoted. -/
namespace Go.Proofs.Ytjccohcigopdfaa.lx
open Go.RowKit

def RQuoP (s : ByteArray) (n : Nat) (w : World) (e : Ending) (w' : World) : Prop :=
  Below w.heap.size w w' ∧ ((∃ (m : Nat) (acc : List UInt8), e = .returned (.tuple #[.string ⟨acc.toArray⟩, .int .i64 (m : Int), .int .i64 0]) ∧ n < m ∧ m ≤ s.size ∧ QuoOk s n m acc) ∨
    (∃ p k : Nat, e = .returned (.tuple #[.string ⟨#[]⟩, .int .i64 (p : Int), .int .i64 (k : Int)]) ∧ 0 < k ∧ k < 100 ∧ QuoBad s n p k))

set_option maxRecDepth 100000 in
set_option maxHeartbeats 4000000 in
theorem rquoted_c (s : ByteArray) (n : Nat) (hn : n < s.size) (hs : s.size ≤ 4096) (w : World) :
    Calls Try.prog 68 #[.string s, .int .i64 n] w (RQuoP s n w) := by
  have hgt := get_bA s
  have hE := Lib.hid (By.empty w.heap.size w (Nat.le_refl _))
  go_enter Try.func68, Try.ntmps68
  go_wp2
  go_loopg [7, 8] (s.size - (n + 1)) (fun k v i wr => ∃ (m : Nat) (acc : List UInt8) (g cap : Nat), k = s.size - m ∧ m ≤ s.size ∧ n < m ∧ v = .slice (some ⟨g, 0, none⟩) acc.length cap ∧ i = .int .i64 m ∧ acc.length ≤ m ∧ Hid (Quo s n m acc) ∧ Hid (By w.heap.size wr g cap acc) ∧ Hid (Below w.heap.size w wr))
  case atStart => exact ⟨n + 1, [], w.heap.size, 0, rfl, by omega, by omega, rfl, by go_num, by simp, Lib.hid (fun _ _ => rfl), hE, Lib.hid ((Below.refl _ w).alloc (Nat.le_refl _) _)⟩
  case round =>
    obtain ⟨m, acc, g, cap, hgk, hm, hnm, rfl, rfl, hal, hj, hY, hb⟩ := hrel
    have hsz := Lib.hid hb.out.size
    by_cases hlt : m < s.size
    · have hlt2 : (m : Int) < s.size := by omega
      have hd := Lib.hid (drop_bA hlt)
      have kt := two_c s m 39 39 (by omega) (by omega)
      cases ht : twoB s m 39 39 <;> rw [ht] at kt
      · by_cases h39 : (bA s m).toNat = 39
        · obtain ⟨a1, a2⟩ := ieq_yes (a := (bA s m).toNat) 39 (by omega)
          have e39 : bA s m = 39 := UInt8.toNat_inj.1 (by rw [h39]; rfl)
          have hq := Lib.hid (show QuoOk s n (m + 1) acc from fun M ts' => by
            rw [hj.out M ts', hd.out, e39, ans_q_end]
            intro b r hbr e
            subst e
            by_cases h3 : m + 1 < s.size
            · rw [drop_bA h3] at hbr
              unfold twoB at ht
              rw [(List.cons.inj hbr).1] at ht
              simp [h3, h39] at ht
            · rw [drop_end (k := m + 1) (by omega)] at hbr; cases hbr)
          have hcv := hY.out.conv
          clear ht h39 e39
          go_wp2_with (go_at_call 86; refine (kt _).mono ?_; rintro e w' ⟨rfl, rfl⟩)
          go_wp2
          go_ret3
          exact ⟨hb.out, .inl ⟨m + 1, acc, rfl, by omega, by omega, hq.out⟩⟩
        have n39 := Lib.hid (show bA s m ≠ 39 from fun e => h39 (by rw [e]; rfl))
        obtain ⟨a1, a2⟩ := ieq_no (a := (bA s m).toNat) 39 (by omega)
        clear h39 ht
        by_cases h92 : (bA s m).toNat = 92
        · obtain ⟨b1, b2⟩ := ieq_yes (a := (bA s m).toNat) 92 (by omega)
          have e92 := Lib.hid (show bA s m = 92 from UInt8.toNat_inj.1 (by rw [h92]; rfl))
          clear h92
          by_cases hend : m + 1 = s.size
          · have x1 : ((m : Int) + 1 == (s.size : Int)) = true := by simp; omega
            have hq := Lib.hid (show QuoBad s n n 31 from fun M ts' => by rw [hj.out M ts', drop1 hend, e92.out]; rfl)
            clear hend
            go_wp2_with (go_at_call 86; refine (kt _).mono ?_; rintro e w' ⟨rfl, rfl⟩)
            go_ret3
            exact ⟨hb.out, .inr ⟨n, 31, rfl, by omega, by omega, hq.out⟩⟩
          · have hlt3 : m + 1 < s.size := by omega
            have x1 : ((m : Int) + 1 == (s.size : Int)) = false := by simp; omega
            have hlt4 : (m : Int) + 1 < s.size := by omega
            clear hend
            have hstep := Lib.hid (show ∀ M ts', ans M (s.data.toList.drop (n + 1)) ts' (n + 1) (.quo n []) = if escOk (bA s (m + 1)) = true then ans M (s.data.toList.drop (m + 2)) ts' (m + 2) (.quo n (acc ++ [escV (bA s (m + 1))])) else .bad m 32 from fun M ts' => by
              rw [hj.out M ts', drop2 hlt3, e92.out, ans_q_esc])
            by_cases g110 : (bA s (m + 1)).toNat = 110
            · obtain ⟨p1, p2⟩ := ieq_yes (a := (bA s (m + 1)).toNat) 110 (by omega)
              have ev : bA s (m + 1) = 110 := UInt8.toNat_inj.1 (by rw [g110]; rfl)
              have hq := Lib.hid (show Quo s n (m + 2) (acc ++ [10]) from fun M ts' => by
                rw [hstep.out M ts', ev]; rfl)
              clear ev g110 hstep
              go_wp2_with (first | (go_at_call 86; refine (kt _).mono ?_; rintro e w' ⟨rfl, rfl⟩) | (at_builtin; refine wpList_push1 rfl _ _ rfl w.heap.size wr g cap acc (10) _ (rfl) rfl hY.out rfl (by omega) hsz.out ?_; intro g' cap' w3 hY3 hB3))
              have HY3 := Lib.hid hY3
              have HB3 := Lib.hid (hb.out.trans hB3)
              clear hY3 hB3
              go_wp2
              go_roundg (s.size - (m + 2))
              case measure => omega
              case rel => exact ⟨m + 2, acc ++ [10], g', cap', rfl, by omega, by omega, by simp, by go_num, by simp; omega, hq, HY3, HB3⟩
            obtain ⟨p110, q110⟩ := ieq_no (a := (bA s (m + 1)).toNat) 110 (by omega)
            by_cases g116 : (bA s (m + 1)).toNat = 116
            · obtain ⟨p1, p2⟩ := ieq_yes (a := (bA s (m + 1)).toNat) 116 (by omega)
              have ev : bA s (m + 1) = 116 := UInt8.toNat_inj.1 (by rw [g116]; rfl)
              have hq := Lib.hid (show Quo s n (m + 2) (acc ++ [9]) from fun M ts' => by
                rw [hstep.out M ts', ev]; rfl)
              clear ev g116 hstep
              go_wp2_with (first | (go_at_call 86; refine (kt _).mono ?_; rintro e w' ⟨rfl, rfl⟩) | (at_builtin; refine wpList_push1 rfl _ _ rfl w.heap.size wr g cap acc (9) _ (rfl) rfl hY.out rfl (by omega) hsz.out ?_; intro g' cap' w3 hY3 hB3))
              have HY3 := Lib.hid hY3
              have HB3 := Lib.hid (hb.out.trans hB3)
              clear hY3 hB3
              go_wp2
              go_roundg (s.size - (m + 2))
              case measure => omega
              case rel => exact ⟨m + 2, acc ++ [9], g', cap', rfl, by omega, by omega, by simp, by go_num, by simp; omega, hq, HY3, HB3⟩
            obtain ⟨p116, q116⟩ := ieq_no (a := (bA s (m + 1)).toNat) 116 (by omega)
            by_cases g92 : (bA s (m + 1)).toNat = 92
            · obtain ⟨p1, p2⟩ := ieq_yes (a := (bA s (m + 1)).toNat) 92 (by omega)
              have ev : bA s (m + 1) = 92 := UInt8.toNat_inj.1 (by rw [g92]; rfl)
              have hq := Lib.hid (show Quo s n (m + 2) (acc ++ [bA s (m + 1)]) from fun M ts' => by
                rw [hstep.out M ts', ev]; rfl)
              clear ev g92 hstep
              go_wp2_with (first | (go_at_call 86; refine (kt _).mono ?_; rintro e w' ⟨rfl, rfl⟩) | (at_builtin; refine wpList_push1 rfl _ _ rfl w.heap.size wr g cap acc (bA s (m + 1)) _ (rfl) rfl hY.out rfl (by omega) hsz.out ?_; intro g' cap' w3 hY3 hB3))
              have HY3 := Lib.hid hY3
              have HB3 := Lib.hid (hb.out.trans hB3)
              clear hY3 hB3
              go_wp2
              go_roundg (s.size - (m + 2))
              case measure => omega
              case rel => exact ⟨m + 2, acc ++ [bA s (m + 1)], g', cap', rfl, by omega, by omega, by simp, by go_num, by simp; omega, hq, HY3, HB3⟩
            obtain ⟨p92, q92⟩ := ieq_no (a := (bA s (m + 1)).toNat) 92 (by omega)
            by_cases g39 : (bA s (m + 1)).toNat = 39
            · obtain ⟨p1, p2⟩ := ieq_yes (a := (bA s (m + 1)).toNat) 39 (by omega)
              have ev : bA s (m + 1) = 39 := UInt8.toNat_inj.1 (by rw [g39]; rfl)
              have hq := Lib.hid (show Quo s n (m + 2) (acc ++ [bA s (m + 1)]) from fun M ts' => by
                rw [hstep.out M ts', ev]; rfl)
              clear ev g39 hstep
              go_wp2_with (first | (go_at_call 86; refine (kt _).mono ?_; rintro e w' ⟨rfl, rfl⟩) | (at_builtin; refine wpList_push1 rfl _ _ rfl w.heap.size wr g cap acc (bA s (m + 1)) _ (rfl) rfl hY.out rfl (by omega) hsz.out ?_; intro g' cap' w3 hY3 hB3))
              have HY3 := Lib.hid hY3
              have HB3 := Lib.hid (hb.out.trans hB3)
              clear hY3 hB3
              go_wp2
              go_roundg (s.size - (m + 2))
              case measure => omega
              case rel => exact ⟨m + 2, acc ++ [bA s (m + 1)], g', cap', rfl, by omega, by omega, by simp, by go_num, by simp; omega, hq, HY3, HB3⟩
            obtain ⟨p39, q39⟩ := ieq_no (a := (bA s (m + 1)).toNat) 39 (by omega)
            have hno : escOk (bA s (m + 1)) = false := by
              unfold escOk
              rw [show (110 : UInt8) = UInt8.ofNat 110 from rfl, show (116 : UInt8) = UInt8.ofNat 116 from rfl, show (92 : UInt8) = UInt8.ofNat 92 from rfl, show (39 : UInt8) = UInt8.ofNat 39 from rfl,
                u8_eq _ _ (by omega), u8_eq _ _ (by omega), u8_eq _ _ (by omega), u8_eq _ _ (by omega)]
              simp [g110, g116, g92, g39]
            have hq := Lib.hid (show QuoBad s n m 32 from fun M ts' => by rw [hstep.out M ts', if_neg (by rw [hno]; decide)])
            clear hno hstep g110 g116 g92 g39
            go_wp2_with (go_at_call 86; refine (kt _).mono ?_; rintro e w' ⟨rfl, rfl⟩)
            go_ret3
            exact ⟨hb.out, .inr ⟨m, 32, rfl, by omega, by omega, hq.out⟩⟩
        have n92 := Lib.hid (show bA s m ≠ 92 from fun e => h92 (by rw [e]; rfl))
        obtain ⟨b1, b2⟩ := ieq_no (a := (bA s m).toNat) 92 (by omega)
        clear h92
        by_cases h32 : (bA s m).toNat < 32
        · have hq := Lib.hid (show QuoBad s n m 30 from fun M ts' => by rw [hj.out M ts', hd.out, ans_q_bad M n _ _ _ _ _ n39.out n92.out (.inl h32)])
          have t1 : (((bA s m).toNat : Nat) : Int) < 32 := by omega
          clear h32
          go_wp2_with (go_at_call 86; refine (kt _).mono ?_; rintro e w' ⟨rfl, rfl⟩)
          go_ret3
          exact ⟨hb.out, .inr ⟨m, 30, rfl, by omega, by omega, hq.out⟩⟩
        have t1 : ¬ ((((bA s m).toNat : Nat) : Int) < 32) := by omega
        by_cases h126 : 126 < (bA s m).toNat
        · have hq := Lib.hid (show QuoBad s n m 30 from fun M ts' => by rw [hj.out M ts', hd.out, ans_q_bad M n _ _ _ _ _ n39.out n92.out (.inr h126)])
          have t2 : (126 : Int) < (((bA s m).toNat : Nat) : Int) := by omega
          clear h126
          go_wp2_with (go_at_call 86; refine (kt _).mono ?_; rintro e w' ⟨rfl, rfl⟩)
          go_ret3
          exact ⟨hb.out, .inr ⟨m, 30, rfl, by omega, by omega, hq.out⟩⟩
        have t2 : ¬ ((126 : Int) < (((bA s m).toNat : Nat) : Int)) := by omega
        have hq := Lib.hid (show Quo s n (m + 1) (acc ++ [bA s m]) from fun M ts' => by rw [hj.out M ts', hd.out, ans_q_plain M n _ _ _ _ _ n39.out n92.out (by omega)])
        clear h32 h126
        go_wp2_with (first | (go_at_call 86; refine (kt _).mono ?_; rintro e w' ⟨rfl, rfl⟩) | (at_builtin; refine wpList_push1 rfl _ _ rfl w.heap.size wr g cap acc (bA s m) _ (rfl) rfl hY.out rfl (by omega) hsz.out ?_; intro g' cap' w3 hY3 hB3))
        have HY3 := Lib.hid hY3
        have HB3 := Lib.hid (hb.out.trans hB3)
        clear hY3 hB3
        go_wp2
        go_roundg (s.size - (m + 1))
        case measure => omega
        case rel => exact ⟨m + 1, acc ++ [bA s m], g', cap', rfl, by omega, by omega, by simp, by go_num, by simp; omega, hq, HY3, HB3⟩
      · have hlt3 : m + 1 < s.size := by unfold twoB at ht; simp at ht; exact ht.1.1
        have hq := Lib.hid (show Quo s n (m + 2) (acc ++ [39]) from fun M ts' => by
          unfold twoB at ht
          simp only [Bool.and_eq_true, decide_eq_true_eq, beq_iff_eq] at ht
          have e1 : bA s m = 39 := UInt8.toNat_inj.1 (by rw [ht.1.2]; rfl)
          have e2 : bA s (m + 1) = 39 := UInt8.toNat_inj.1 (by rw [ht.2]; rfl)
          rw [hj.out M ts', drop2 hlt3, e1, e2, ans_q_two])
        clear ht
        go_wp2_with (first | (go_at_call 86; refine (kt _).mono ?_; rintro e w' ⟨rfl, rfl⟩) | (at_builtin; refine wpList_push1 rfl _ _ rfl w.heap.size wr g cap acc (39) _ (rfl) rfl hY.out rfl (by omega) hsz.out ?_; intro g' cap' w3 hY3 hB3))
        have HY3 := Lib.hid hY3
        have HB3 := Lib.hid (hb.out.trans hB3)
        clear hY3 hB3
        go_wp2
        go_roundg (s.size - (m + 2))
        case measure => omega
        case rel => exact ⟨m + 2, acc ++ [39], g', cap', rfl, by omega, by omega, by simp, by go_num, by simp; omega, hq, HY3, HB3⟩
    · have hlt2 : ¬ ((m : Int) < s.size) := by omega
      have hq := Lib.hid (show QuoBad s n n 31 from fun M ts' => by rw [hj.out M ts', drop_end (k := m) (by omega)]; rfl)
      go_wp2
      go_ret3
      exact ⟨hb.out, .inr ⟨n, 31, rfl, by omega, by omega, hq.out⟩⟩
end Go.Proofs.Ytjccohcigopdfaa.lx
end
section
/- The reference: run. -/
namespace Go.Proofs.Ytjccohcigopdfaa.lx
open Go.RowKit

theorem run_end {s : ByteArray} {n m y : Nat} (hn : n ≤ m) (hlt : n < s.size) (hm : m ≤ s.size) (h0 : joinB y (cl (bA s n)) = true) (h1 : ∀ j, n ≤ j → j < m → joinB y (cl (bA s j)) = true) (h2 : m < s.size → joinB y (cl (bA s m)) = false) :
    m = n + 1 + (wordL s n y).length := by
  have hne : n ≠ m := fun e => by
    subst e; rw [h2 hlt] at h0; cases h0
  rw [(wordL_is (s := s) (n := n) (m := m) (y := y) (by omega) hm (fun j a b => h1 j (by omega) b) h2).2]; omega

set_option maxHeartbeats 1000000 in
theorem run1_c (s : ByteArray) (n : Nat) (hn : n < s.size) (hs : s.size ≤ 4096) (h0 : joinB 2 (cl (bA s n)) = true) (w : World) :
    Calls Try.prog 63 #[.string s, .int .i64 n, .int .i64 1] w fun e w' => e = .returned (.int .i64 ((n + 1 + (wordL s n 2).length : Nat) : Int)) ∧ w = w' := by
  have H0 := Lib.hid h0
  have hgt := get_bA s
  clear h0
  go_enter Try.func63, Try.ntmps63
  go_wp2
  go_loop [1] (fun i => ∃ m : Nat, i = .int .i64 m ∧ n ≤ m ∧ m ≤ s.size ∧ Hid (∀ j, n ≤ j → j < m → joinB 2 (cl (bA s j)) = true)) (fun i => s.size - (intOf i).toNat)
  case atStart => exact ⟨n, rfl, by omega, by omega, Lib.hid (fun j a b => absurd b (by omega))⟩
  case round =>
    obtain ⟨m, rfl, hnm, hm, hj⟩ := hrel
    by_cases hlt : m < s.size
    · have hlt2 : (m : Int) < s.size := by omega
      have kc := named_c (bA s m).toNat (bA_le s _)
      cases hb : joinB 2 (cl (bA s m))
      all_goals
        have Hb := Lib.hid hb
        unfold cl at hb
        first | rw [(joinB_name _).2.2.1] at hb | rw [(joinB_name _).2.2.2] at hb | skip
        rw [hb] at kc
        clear hb
      · go_wp2_with (go_at_call 87; (with_reducible refine (kc _).mono ?_); rintro e w' ⟨rfl, rfl⟩)
        go_ret
        exact ⟨ret_i (by have := run_end hnm hn hm H0.out hj.out (fun _ => Hb.out); omega), rfl⟩
      · have hj' := Lib.hid (show ∀ j, n ≤ j → j < m + 1 → joinB 2 (cl (bA s j)) = true from fun j a b => by
          by_cases e : j = m
          · rw [e]; exact Hb.out
          · exact hj.out j a (by omega))
        go_wp2_with (go_at_call 87; (with_reducible refine (kc _).mono ?_); rintro e w' ⟨rfl, rfl⟩)
        exact ⟨⟨m + 1, by go_num, by omega, by omega, hj'⟩, by simp [intOf]; omega⟩
    · have hlt2 : ¬ ((m : Int) < s.size) := by omega
      go_wp2
      go_ret
      exact ⟨ret_i (by have := run_end hnm hn hm H0.out hj.out (fun h => absurd h hlt); omega), rfl⟩

set_option maxHeartbeats 1000000 in
theorem run2_c (s : ByteArray) (n : Nat) (hn : n < s.size) (hs : s.size ≤ 4096) (h0 : joinB 4 (cl (bA s n)) = true) (w : World) :
    Calls Try.prog 63 #[.string s, .int .i64 n, .int .i64 2] w fun e w' => e = .returned (.int .i64 ((n + 1 + (wordL s n 4).length : Nat) : Int)) ∧ w = w' := by
  have H0 := Lib.hid h0
  have hgt := get_bA s
  clear h0
  go_enter Try.func63, Try.ntmps63
  go_wp2
  go_loop [1] (fun i => ∃ m : Nat, i = .int .i64 m ∧ n ≤ m ∧ m ≤ s.size ∧ Hid (∀ j, n ≤ j → j < m → joinB 4 (cl (bA s j)) = true)) (fun i => s.size - (intOf i).toNat)
  case atStart => exact ⟨n, rfl, by omega, by omega, Lib.hid (fun j a b => absurd b (by omega))⟩
  case round =>
    obtain ⟨m, rfl, hnm, hm, hj⟩ := hrel
    by_cases hlt : m < s.size
    · have hlt2 : (m : Int) < s.size := by omega
      have kc := digit_c (bA s m).toNat (bA_le s _)
      cases hb : joinB 4 (cl (bA s m))
      all_goals
        have Hb := Lib.hid hb
        unfold cl at hb
        first | rw [(joinB_name _).2.2.1] at hb | rw [(joinB_name _).2.2.2] at hb | skip
        rw [hb] at kc
        clear hb
      · go_wp2_with (go_at_call 65; (with_reducible refine (kc _).mono ?_); rintro e w' ⟨rfl, rfl⟩)
        go_ret
        exact ⟨ret_i (by have := run_end hnm hn hm H0.out hj.out (fun _ => Hb.out); omega), rfl⟩
      · have hj' := Lib.hid (show ∀ j, n ≤ j → j < m + 1 → joinB 4 (cl (bA s j)) = true from fun j a b => by
          by_cases e : j = m
          · rw [e]; exact Hb.out
          · exact hj.out j a (by omega))
        go_wp2_with (go_at_call 65; (with_reducible refine (kc _).mono ?_); rintro e w' ⟨rfl, rfl⟩)
        exact ⟨⟨m + 1, by go_num, by omega, by omega, hj'⟩, by simp [intOf]; omega⟩
    · have hlt2 : ¬ ((m : Int) < s.size) := by omega
      go_wp2
      go_ret
      exact ⟨ret_i (by have := run_end hnm hn hm H0.out hj.out (fun h => absurd h hlt); omega), rfl⟩

set_option maxHeartbeats 1000000 in
theorem run3_c (s : ByteArray) (n : Nat) (hn : n < s.size) (hs : s.size ≤ 4096) (h0 : joinB 5 (cl (bA s n)) = true) (w : World) :
    Calls Try.prog 63 #[.string s, .int .i64 n, .int .i64 3] w fun e w' => e = .returned (.int .i64 ((n + 1 + (wordL s n 5).length : Nat) : Int)) ∧ w = w' := by
  have H0 := Lib.hid h0
  have hgt := get_bA s
  clear h0
  go_enter Try.func63, Try.ntmps63
  go_wp2
  go_loop [1] (fun i => ∃ m : Nat, i = .int .i64 m ∧ n ≤ m ∧ m ≤ s.size ∧ Hid (∀ j, n ≤ j → j < m → joinB 5 (cl (bA s j)) = true)) (fun i => s.size - (intOf i).toNat)
  case atStart => exact ⟨n, rfl, by omega, by omega, Lib.hid (fun j a b => absurd b (by omega))⟩
  case round =>
    obtain ⟨m, rfl, hnm, hm, hj⟩ := hrel
    by_cases hlt : m < s.size
    · have hlt2 : (m : Int) < s.size := by omega
      have kc := sign_c (bA s m).toNat (bA_le s _)
      cases hb : joinB 5 (cl (bA s m))
      all_goals
        have Hb := Lib.hid hb
        unfold cl at hb
        first | rw [(joinB_name _).2.2.1] at hb | rw [(joinB_name _).2.2.2] at hb | skip
        rw [hb] at kc
        clear hb
      · go_wp2_with (go_at_call 66; (with_reducible refine (kc _).mono ?_); rintro e w' ⟨rfl, rfl⟩)
        go_ret
        exact ⟨ret_i (by have := run_end hnm hn hm H0.out hj.out (fun _ => Hb.out); omega), rfl⟩
      · have hj' := Lib.hid (show ∀ j, n ≤ j → j < m + 1 → joinB 5 (cl (bA s j)) = true from fun j a b => by
          by_cases e : j = m
          · rw [e]; exact Hb.out
          · exact hj.out j a (by omega))
        go_wp2_with (go_at_call 66; (with_reducible refine (kc _).mono ?_); rintro e w' ⟨rfl, rfl⟩)
        exact ⟨⟨m + 1, by go_num, by omega, by omega, hj'⟩, by simp [intOf]; omega⟩
    · have hlt2 : ¬ ((m : Int) < s.size) := by omega
      go_wp2
      go_ret
      exact ⟨ret_i (by have := run_end hnm hn hm H0.out hj.out (fun h => absurd h hlt); omega), rfl⟩
end Go.Proofs.Ytjccohcigopdfaa.lx
end
section
/- The reference: between. -/
namespace Go.Proofs.Ytjccohcigopdfaa.lx
open Go.RowKit

def BtwP (s : ByteArray) (n : Nat) (w : World) (e : Ending) (w' : World) : Prop :=
  w = w' ∧ ((∃ m : Nat, e = .returned (.tuple #[.int .i64 (m : Int), .bool true]) ∧ n ≤ m ∧ m ≤ s.size ∧ Stop s m ∧ Same s n m) ∨
    (∃ m : Nat, e = .returned (.tuple #[.int .i64 (m : Int), .bool false]) ∧ ∀ M ts', ans M (s.data.toList.drop n) ts' n .btw = .bad m 31))
/-- within a line's comment that began at m -/
def LineAt (s : ByteArray) (m j : Nat) : Prop := ∀ M ts, ans M (s.data.toList.drop m) ts m .btw = ans M (s.data.toList.drop j) ts j .line
theorem line_first {s : ByteArray} {m : Nat} (h : m < s.size) (hb : bA s m = 37) : LineAt s m (m + 1) := fun M ts => by
  rw [drop_bA h, hb, ans_cons, step, start, if_neg (by decide), if_pos rfl]
theorem line_next {s : ByteArray} {m j : Nat} (h : j < s.size) (hb : bA s j ≠ 10) (hl : LineAt s m j) : LineAt s m (j + 1) := fun M ts => by
  rw [hl M ts, drop_bA h, ans_cons, step, if_neg hb]
theorem line_end {s : ByteArray} {m j : Nat} (h : j < s.size → bA s j = 10) (hl : LineAt s m j) : Same s m j := fun M ts => by
  rw [hl M ts]
  by_cases hlt : j < s.size
  · rw [drop_bA hlt, h hlt, ans_line_end]
  · rw [drop_end (k := j) (by omega)]; rfl

set_option maxHeartbeats 4000000 in
theorem between_c (s : ByteArray) (n : Nat) (hn : n ≤ s.size) (hs : s.size ≤ 4096) (w : World) :
    Calls Try.prog 60 #[.string s, .int .i64 n] w (BtwP s n w) := by
  have hgt := get_bA s
  go_enter Try.func60, Try.ntmps60
  go_wp2
  go_loopg [1] (s.size - n) (fun k i wr => ∃ m : Nat, w = wr ∧ k = s.size - m ∧ i = .int .i64 m ∧ n ≤ m ∧ m ≤ s.size ∧ Hid (Same s n m))
  case atStart => exact ⟨n, rfl, rfl, rfl, by omega, hn, Lib.hid (fun _ _ => rfl)⟩
  case round =>
    obtain ⟨m, rfl, hgk, rfl, hnm, hm, hj⟩ := hrel
    by_cases hlt : m < s.size
    · have hlt2 : (m : Int) < s.size := by omega
      have kb := blank_c (bA s m).toNat (bA_le s _)
      by_cases hb1 : cls (bA s m).toNat = 1
      · have b1 : (cls (bA s m).toNat == 1) = true := by simpa using hb1
        rw [b1] at kb
        have hj' := Lib.hid (show Same s n (m + 1) from fun M ts => by rw [hj.out M ts, drop_bA hlt, ans_blank M _ _ _ _ hb1])
        clear hb1 b1
        go_wp2_with (go_at_call 61; (with_reducible refine (kb _).mono ?_); rintro e w' ⟨rfl, rfl⟩)
        go_roundg (s.size - (m + 1))
        case measure => omega
        case rel => exact ⟨m + 1, rfl, rfl, by go_num, by omega, by omega, hj'⟩
      have b1 : (cls (bA s m).toNat == 1) = false := by simpa using hb1
      have Hb1 := Lib.hid hb1
      rw [b1] at kb
      clear hb1 b1
      by_cases hb2 : bA s m = 37
      · obtain ⟨d1, d2⟩ := ieq_yes (a := (bA s m).toNat) 37 (by rw [hb2]; rfl)
        have Hb2 := Lib.hid hb2
        clear hb2
        go_wp2_with (go_at_call 61; (with_reducible refine (kb _).mono ?_); rintro e w' ⟨rfl, rfl⟩)
        have hgk2 := hgk
        go_loopg [1] (s.size - m) (fun k2 i wr2 => ∃ j : Nat, w = wr2 ∧ k2 = s.size - j ∧ i = .int .i64 j ∧ m ≤ j ∧ j ≤ s.size ∧ Hid (j = m ∨ LineAt s m j))
        case atStart => exact ⟨m, rfl, rfl, rfl, by omega, hm, Lib.hid (.inl rfl)⟩
        case round =>
          obtain ⟨j, rfl, hgj, rfl, hmj, hjs, hL⟩ := hrel
          by_cases hlj : j < s.size
          · have hlj2 : (j : Int) < s.size := by omega
            by_cases hb10 : bA s j = 10
            · obtain ⟨t1, t2⟩ := ieq_yes (a := (bA s j).toNat) 10 (by rw [hb10]; rfl)
              have hLj := Lib.hid (show j ≠ m ∧ Same s m j by
                have hne : j ≠ m := fun e => by rw [e, Hb2.out] at hb10; exact absurd hb10 (by decide)
                exact ⟨hne, line_end (fun _ => hb10) (hL.out.resolve_left hne)⟩)
              clear hb10 hL
              go_wp2
              go_roundg (s.size - j)
              case measure => have := hLj.out.1; omega
              case rel => exact ⟨j, rfl, rfl, rfl, by omega, hjs, Lib.hid (fun M ts => by rw [hj.out M ts, hLj.out.2 M ts])⟩
            · obtain ⟨t1, t2⟩ := ieq_no (a := (bA s j).toNat) 10 (by intro e; exact hb10 (UInt8.toNat_inj.1 (by simp; omega)))
              have hL' := Lib.hid (show j + 1 = m ∨ LineAt s m (j + 1) from .inr (by
                rcases hL.out with e | h
                · rw [e]; exact line_first hlt Hb2.out
                · exact line_next hlj hb10 h))
              clear hb10 hL
              go_wp2
              go_roundg (s.size - (j + 1))
              case measure => omega
              case rel => exact ⟨j + 1, rfl, rfl, by go_num, by omega, by omega, hL'⟩
          · have hlj2 : ¬ ((j : Int) < s.size) := by omega
            have hLj := Lib.hid (show j ≠ m ∧ Same s m j by
              have hne : j ≠ m := by omega
              exact ⟨hne, line_end (fun h => absurd h hlj) (hL.out.resolve_left hne)⟩)
            clear hL
            go_wp2
            go_roundg (s.size - j)
            case measure => omega
            case rel => exact ⟨j, rfl, rfl, rfl, by omega, hjs, Lib.hid (fun M ts => by rw [hj.out M ts, hLj.out.2 M ts])⟩
      have hb37 : (bA s m).toNat ≠ 37 := fun e => hb2 (UInt8.toNat_inj.1 (by rw [e]; rfl))
      obtain ⟨d1, d2⟩ := ieq_no (a := (bA s m).toNat) 37 (by omega)
      have Hb2 := Lib.hid hb2
      clear hb37 hb2
      have kt := two_c s m 47 42 (by omega) (by omega)
      have hpf := prefix_twoB hlt
      cases ht : twoB s m 47 42 <;> rw [ht] at kt hpf
      · have hst := Lib.hid (show Stop s m from fun _ => ⟨Hb1.out, Hb2.out, hpf⟩)
        clear ht hpf
        go_wp2_with (first | (go_at_call 61; (with_reducible refine (kb _).mono ?_); rintro e w' ⟨rfl, rfl⟩) | (go_at_call 86; refine (kt _).mono ?_; rintro e w' ⟨rfl, rfl⟩))
        go_ret2
        exact ⟨rfl, .inl ⟨m, rfl, hnm, hm, hst.out, hj.out⟩⟩
      · obtain ⟨hm2, hr1, hr2⟩ := same_remark hlt hpf
        have Hr1 := Lib.hid hr1
        have Hr2 := Lib.hid hr2
        clear ht hpf hr1 hr2
        go_wp2_with (first | (go_at_call 61; (with_reducible refine (kb _).mono ?_); rintro e w' ⟨rfl, rfl⟩) | (go_at_call 86; refine (kt _).mono ?_; rintro e w' ⟨rfl, rfl⟩))
        clear kt kb
        go_loopg [6] (s.size - (m + 2)) (fun k2 i wr2 => ∃ j : Nat, w = wr2 ∧ k2 = s.size - j ∧ i = .int .i64 j ∧ m + 2 ≤ j ∧ j ≤ s.size ∧ Hid (cutRem (s.data.toList.drop (m + 2)) = cutRem (s.data.toList.drop j)))
        case atStart => exact ⟨m + 2, rfl, rfl, by go_num, by omega, hm2, Lib.hid rfl⟩
        case round =>
          obtain ⟨j, rfl, hgj, rfl, hmj, hjs, hC⟩ := hrel
          by_cases hlj : j < s.size
          · have hlj2 : (j : Int) < s.size := by omega
            have kt := two_c s j 42 47 (by omega) (by omega)
            cases ht : twoB s j 42 47 <;> rw [ht] at kt
            · have hC' := Lib.hid (hC.out.trans (cutRem_step hlj ht))
              clear ht hC
              go_wp2_with (go_at_call 86; refine (kt _).mono ?_; rintro e w' ⟨rfl, rfl⟩)
              go_roundg (s.size - (j + 1))
              case measure => omega
              case rel => exact ⟨j + 1, rfl, rfl, by go_num, by omega, by omega, hC'⟩
            · obtain ⟨hj2, hc2⟩ := cutRem_hit ht
              have hsame := Lib.hid (show Same s m (j + 2) by
                have h := (Hr2.out _ (hC.out.trans hc2)).1
                have hz : s.data.toList.length = s.size := by simp
                rwa [List.length_drop, hz, show s.size - (s.size - (j + 2)) = j + 2 from by omega] at h)
              clear ht hC hc2
              go_wp2_with (go_at_call 86; refine (kt _).mono ?_; rintro e w' ⟨rfl, rfl⟩)
              go_roundg (s.size - (j + 2))
              case measure => omega
              case rel => exact ⟨j + 2, rfl, rfl, by go_num, by omega, hj2, Lib.hid (fun M ts => by rw [hj.out M ts, hsame.out M ts])⟩
          · have hlj2 : ¬ ((j : Int) < s.size) := by omega
            have hbad := Lib.hid (show ∀ M ts', ans M (s.data.toList.drop n) ts' n .btw = .bad m 31 from fun M ts' => by
              rw [hj.out M ts', Hr1.out (hC.out.trans (by rw [drop_end (k := j) (by omega)]; rfl)) M ts'])
            clear hC
            go_wp2
            go_ret2
            exact ⟨rfl, .inr ⟨m, rfl, hbad.out⟩⟩
    · have hlt2 : ¬ ((m : Int) < s.size) := by omega
      go_wp2
      go_ret2
      exact ⟨rfl, .inl ⟨m, rfl, hnm, hm, fun h => absurd h hlt, hj.out⟩⟩
end Go.Proofs.Ytjccohcigopdfaa.lx
end
section
/- The reference: Tokens: what its walk leans on. -/
namespace Go.Proofs.Ytjccohcigopdfaa.lx
open Go.RowKit

theorem tok_text {s : ByteArray} {f : Nat} (y : Nat) (hf : f < s.size) : s.extract f (f + 1 + (wordL s f y).length) = ⟨(bA s f :: wordL s f y).toArray⟩ ∧ f + 1 + (wordL s f y).length ≤ s.size := by
  have hp : wordL s f y <+: s.data.toList.drop (f + 1) := List.takeWhile_prefix _
  have hz : s.data.toList.length = s.size := by simp
  have hl := hp.length_le
  rw [List.length_drop] at hl
  refine ⟨?_, by omega⟩
  rw [Lib.extract_eq, drop_bA hf, show f + 1 + (wordL s f y).length - f = (wordL s f y).length + 1 from by omega, List.take_succ_cons, ← List.prefix_iff_eq_take.1 hp]
theorem ends_word {s : ByteArray} {f : Nat} (h : endsB s f = true) : wordL s f 5 = [] := wordL_none fun b r hbr => by
  have hlt : f + 1 < s.size := by
    rcases Nat.lt_or_ge (f + 1) s.size with h' | h'
    · exact h'
    · rw [drop_end h'] at hbr; cases hbr
  rw [drop_bA hlt] at hbr
  rw [← (List.cons.inj hbr).1, (joinB_name _).2.2.2]
  unfold endsB at h
  rw [show (f + 1 == s.size) = false from by simp; omega] at h
  simp only [Bool.and_eq_true, Bool.false_or, Bool.or_eq_true, beq_iff_eq] at h
  rcases h.2 with h | h
  · rw [h]; decide
  · rw [h]; rfl
/-- append to tokens of one's own -/
theorem wpList_pushTok {ops : Array Oper} {rest : List Oper} {o : Oper} {a : Act} {Q : Exit → Act → World → Prop} (hgd : o.guard = none) (s x : Operand)
    (ho : o.op = .call { callee := .builtin .append, args := #[s, x], argTypes := #[69, 69] })
    (B : Nat) (W : World) (av : Option Addr) (cap : Nat) (ts : List Tok) (T : Tok) (cs : Array Value) (hcs : cs.toList = tcell T) (hs : a.eval s = .slice av ts.length cap) (hown : Tk B W (.slice av ts.length cap) ts)
    (z : Nat) (hz : z = W.heap.size) (hx : a.eval x = .slice (some ⟨z, 0, none⟩) 1 1) (hlen : ts.length ≤ 1000) (hB : B ≤ W.heap.size)
    (h : ∀ av' cap' w', Tk B w' (.slice av' (ts.length + 1) cap') (ts ++ [T]) → W.grownBy w' (Value.slice av ts.length cap).ownBlock → Below B W w' → wpList Try.prog ops Q rest (a.put o.dst (.slice av' (ts.length + 1) cap')) w') :
    wpList Try.prog ops Q (o :: rest) a (W.alloc (.cells cs 73)) := by
  subst hz
  obtain ⟨i0, hi, hz0, hz1, hz2⟩ := info_parts tok_info
  have hb0 : (W.alloc (.cells cs 73)).heap[W.heap.size]? = some (.cells cs 73 (0, 0)) := heap_alloc_new W _
  refine wpList_append_own _ hgd s x 69 ho B 73 i0 _ 4 40 Try.underlying69 hi hz0 hz1 hz2 rfl (by decide) _ ts.length (tcells ts) hs (World.ownsRow.alloc hown _) ⟨W.heap.size, 0, none⟩ 1 1 (tcell T) hx rfl ?_ (news_one T) ?_ ?_ ?_ ?_
  · intro j u hj
    have e : (⟨W.heap.size, 0, none⟩ : Addr).add j = ⟨W.heap.size, j, none⟩ := by
      by_cases h0 : j = 0
      · subst h0; simp [Addr.add]
      · simp [Addr.add, h0]
    rw [e, cell_at hb0, ← Array.getElem?_toList, hcs]; exact hj
  · unfold maxLen; omega
  · omega
  · show B ≤ (W.heap.push _).size; simp; omega
  · intro v' w' hown' hgr _
    have hTk : Tk B w' v' (ts ++ [T]) := by
      unfold Tk; rw [tcells_append, List.length_append]; simpa [tcells] using hown'
    obtain ⟨av', cap', hv⟩ := hTk.shape
    rw [List.length_append, List.length_singleton] at hv
    subst hv
    have hg2 : W.grownBy w' (Value.slice av ts.length cap).ownBlock := by
      have hz : (W.alloc (.cells cs 73)).heap.size = W.heap.size + 1 := by show (W.heap.push _).size = _; simp
      exact ⟨hgr.os, hgr.tape, hgr.output, by have := hgr.size; omega, fun k hk hne => (hgr.block k (by omega) hne).trans (Lib.alloc_old W _ k hk)⟩
    exact h av' cap' w' hTk hg2 ((Below.refl B W).grown hg2 hB (fun k hk => ((World.ownsRow.lt hown) k hk).1))
theorem Tk.empty (B : Nat) (w : World) (hB : B ≤ w.heap.size) : Tk B (w.alloc (.cells #[] 73)) (.slice (some ⟨w.heap.size, 0, none⟩) 0 0) [] :=
  ⟨rfl, .inr ⟨w.heap.size, 0, #[], rfl, hB, heap_alloc_new w _, Nat.le_refl _, by unfold maxLen; omega, rfl, rfl⟩⟩
end Go.Proofs.Ytjccohcigopdfaa.lx
end
