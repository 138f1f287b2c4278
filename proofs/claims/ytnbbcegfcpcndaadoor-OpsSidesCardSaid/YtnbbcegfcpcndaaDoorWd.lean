/- The reference's words, in: a text parted at its blanks; is a name one of the words. -/
import Derived.Test.YtnbbcegfcpcndaaDoorSk
namespace Go.Proofs.YtnbbcegfcpcndaaDoor.op
open Go.RowKit

/-- the byte at place i -/
def bA (s : ByteArray) (i : Nat) : UInt8 := s.data.toList.getD i 0
/-- a text parted at its blanks -/
def wd : List UInt8 → List UInt8 → List (List UInt8)
  | acc, [] => [acc]
  | acc, b :: r => if b = 32 then acc :: wd [] r else wd (acc ++ [b]) r
def bs (l : List UInt8) : ByteArray := ⟨l.toArray⟩
theorem bs_inj {a b : List UInt8} : bs a = bs b ↔ a = b := by
  constructor
  · intro h
    have := congrArg (fun x : ByteArray => x.data.toList) h
    simpa [bs] using this
  · intro h; rw [h]
theorem bs_data (s : ByteArray) : bs s.data.toList = s := rfl
theorem drop_bA {s : ByteArray} {i : Nat} (h : i < s.size) : s.data.toList.drop i = bA s i :: s.data.toList.drop (i + 1) := by
  have hl : i < s.data.toList.length := by simpa using h
  rw [List.drop_eq_getElem_cons hl, bA, List.getD_eq_getElem?_getD, List.getElem?_eq_getElem hl, Option.getD_some]
theorem get_bA (s : ByteArray) (i : Nat) (h : i < s.size) : s[i] = bA s i := by
  have hl : i < s.data.toList.length := by simpa using h
  rw [bA, List.getD_eq_getElem?_getD, List.getElem?_eq_getElem hl, Option.getD_some]
  simp; rfl
/-- what lies between places f and i -/
def mid (s : ByteArray) (f i : Nat) : List UInt8 := (s.data.toList.drop f).take (i - f)
theorem mid_self (s : ByteArray) (i : Nat) : mid s i i = [] := by unfold mid; rw [Nat.sub_self, List.take_zero]
theorem mid_next {s : ByteArray} {f i : Nat} (h : i < s.size) (hf : f ≤ i) : mid s f (i + 1) = mid s f i ++ [bA s i] := by
  have hl : i < s.data.toList.length := by simpa using h
  have hd : i - f < (s.data.toList.drop f).length := by rw [List.length_drop]; omega
  unfold mid
  rw [show i + 1 - f = (i - f) + 1 from by omega, List.take_succ_eq_append_getElem hd, List.getElem_drop, bA, List.getD_eq_getElem?_getD]
  congr 2
  rw [List.getElem?_eq_getElem hl, Option.getD_some]
  congr 1; omega
theorem mid_extract (s : ByteArray) (f i : Nat) : s.extract f i = bs (mid s f i) := Lib.extract_eq s f i
/-- how the loop stands at place i, the last blank ahead of f, the words z found -/
def At (s : ByteArray) (z : List ByteArray) (f i : Nat) : Prop :=
  f ≤ i ∧ ((i ≤ s.size ∧ z ++ (wd (mid s f i) (s.data.toList.drop i)).map bs = (wd [] s.data.toList).map bs) ∨ (i = s.size + 1 ∧ z = (wd [] s.data.toList).map bs)) ∧ z.length ≤ i
theorem At.start (s : ByteArray) : At s [] 0 0 := by
  refine ⟨Nat.le_refl _, .inl ⟨Nat.zero_le _, ?_⟩, Nat.le_refl _⟩
  rw [mid_self, List.drop_zero, List.nil_append]
theorem At.plain {s : ByteArray} {z : List ByteArray} {f i : Nat} (h : At s z f i) (hi : i < s.size) (hb : bA s i ≠ 32) : At s z f (i + 1) := by
  obtain ⟨h1, h2 | h2, h3⟩ := h
  · refine ⟨by omega, .inl ⟨by omega, ?_⟩, by omega⟩
    rw [← h2.2, drop_bA hi, wd, if_neg hb, mid_next hi h1]
  · omega
theorem At.blank {s : ByteArray} {z : List ByteArray} {f i : Nat} (h : At s z f i) (hi : i < s.size) (hb : bA s i = 32) : At s (z ++ [s.extract f i]) (i + 1) (i + 1) := by
  obtain ⟨h1, h2 | h2, h3⟩ := h
  · refine ⟨by omega, .inl ⟨by omega, ?_⟩, by rw [List.length_append, List.length_singleton]; omega⟩
    rw [← h2.2, drop_bA hi, wd, if_pos hb, mid_self, mid_extract, List.append_assoc]; rfl
  · omega
theorem At.last {s : ByteArray} {z : List ByteArray} {f : Nat} (h : At s z f s.size) : At s (z ++ [s.extract f s.size]) (s.size + 1) (s.size + 1) := by
  obtain ⟨h1, h2 | h2, h3⟩ := h
  · refine ⟨by omega, .inr ⟨rfl, ?_⟩, by rw [List.length_append, List.length_singleton]; omega⟩
    rw [← h2.2, List.drop_eq_nil_of_le (by simp), wd, mid_extract]; rfl
  · omega
theorem At.done {s : ByteArray} {z : List ByteArray} {f : Nat} (h : At s z f (s.size + 1)) : z = (wd [] s.data.toList).map bs := by
  obtain ⟨h1, h2 | h2, h3⟩ := h
  · omega
  · exact h2.2

set_option maxHeartbeats 4000000 in
theorem words_c (s : ByteArray) (w : World) (hs : s.size ≤ 1000) :
    Calls Tryd.prog 12 #[.string s] w fun e w' => ∃ g cap, e = .returned (.slice (some ⟨g, 0, none⟩) (wd [] s.data.toList).length cap) ∧ Sk w.heap.size w' g cap ((wd [] s.data.toList).map bs) ∧ Below w.heap.size w w' := by
  have hgt := get_bA s
  go_enter Tryd.func12, Tryd.ntmps12
  go_wp2_with fail
  have HS := Lib.hid (Sk.empty w.heap.size w (Nat.le_refl _))
  have HB := Lib.hid ((Below.refl w.heap.size w).alloc (Nat.le_refl _) (.cells #[] 9))
  go_loopg [3, 4, 5] (s.size + 1) (fun k l f i wr => ∃ (m F g cap : Nat) (z : List ByteArray), k = s.size + 1 - m ∧ m ≤ s.size + 1 ∧ l = .slice (some ⟨g, 0, none⟩) z.length cap ∧ f = .int .i64 F ∧ i = .int .i64 m ∧ Hid (At s z F m) ∧ Hid (Sk w.heap.size wr g cap z) ∧ Hid (Below w.heap.size w wr))
  case atStart => exact ⟨0, 0, w.heap.size, 0, [], by omega, by omega, rfl, rfl, rfl, Lib.hid (At.start s), HS, HB⟩
  case round =>
    clear HS HB
    obtain ⟨m, F, g, cap, z, hgk, hm, rfl, rfl, rfl, hA, hS, hB⟩ := hrel
    have hF := hA.out.1
    by_cases hlt : m ≤ s.size
    · have hlt2 : (m : Int) ≤ s.size := by omega
      by_cases he : m = s.size
      · subst he
        have hl : Hid (z.length ≤ 1000) := Lib.hid (by have := hA.out.2.2; omega)
        have hsz := Lib.hid hB.out.size
        have HA := Lib.hid hA.out.last
        clear hA
        have hF2 : (F : Int) ≤ (s.size : Int) := by omega
        go_wp2_with (at_builtin; refine wpList_pushS rfl _ _ rfl w.heap.size wr g cap z _ rfl hS.out rfl (by have := hl.out; omega) hsz.out ?_; intro g3 cap3 w3 hY3 hb3'; have HS3 := Lib.hid hY3; have HB3 := Lib.hid (hB.out.trans hb3'); clear hY3 hb3')
        go_roundg (s.size + 1 - (s.size + 1))
        case measure => omega
        case rel => exact ⟨s.size + 1, s.size + 1, g3, cap3, z ++ [s.extract F s.size], rfl, by omega, by rw [List.length_append]; rfl, by go_num, by go_num, HA, HS3, HB3⟩
      · by_cases hb : bA s m = 32
        · have hl : Hid (z.length ≤ 1000) := Lib.hid (by have := hA.out.2.2; omega)
          have hsz := Lib.hid hB.out.size
          have HA := Lib.hid (hA.out.blank (by omega) hb)
          clear hA
          have hF2 : (F : Int) ≤ (m : Int) := by omega
          have hlt3 : (m : Int) < s.size := by omega
          have hne : ¬ ((m : Int) = s.size) := by omega
          have hn4 : ((m : Int) == (s.size : Int)) = false := by rw [beq_eq_false_iff_ne]; exact hne
          have hbb : (bA s m).toNat = 32 := by rw [hb]; rfl
          go_wp2_with (at_builtin; refine wpList_pushS rfl _ _ rfl w.heap.size wr g cap z _ rfl hS.out rfl (by have := hl.out; omega) hsz.out ?_; intro g3 cap3 w3 hY3 hb3'; have HS3 := Lib.hid hY3; have HB3 := Lib.hid (hB.out.trans hb3'); clear hY3 hb3')
          go_roundg (s.size + 1 - (m + 1))
          case measure => omega
          case rel => exact ⟨m + 1, m + 1, g3, cap3, z ++ [s.extract F m], rfl, by omega, by rw [List.length_append]; rfl, by go_num, by go_num, HA, HS3, HB3⟩
        · have HA := Lib.hid (hA.out.plain (by omega) hb)
          clear hA
          have hlt3 : (m : Int) < s.size := by omega
          have hne : ¬ ((m : Int) = s.size) := by omega
          have hn4 : ((m : Int) == (s.size : Int)) = false := by rw [beq_eq_false_iff_ne]; exact hne
          have hbb : ¬ ((bA s m).toNat = 32) := fun h => hb (by rw [← UInt8.toNat_inj]; exact h)
          have hb2 : ¬ (((bA s m).toNat : Int) = 32) := by omega
          have hn5 : (((bA s m).toNat : Int) == 32) = false := by rw [beq_eq_false_iff_ne]; exact hb2
          go_wp2
          go_roundg (s.size + 1 - (m + 1))
          case measure => omega
          case rel => exact ⟨m + 1, F, g, cap, z, rfl, by omega, rfl, rfl, by go_num, HA, hS, hB⟩
    · obtain rfl : m = s.size + 1 := by omega
      have hlt2 : ¬ (((s.size + 1 : Nat) : Int) ≤ s.size) := by omega
      have hz := hA.out.done
      have hzl : z.length = (wd [] s.data.toList).length := by rw [hz, List.length_map]
      go_wp2
      go_ret
      exact ⟨g, cap, rfl, by rw [← hz]; exact hS.out, hB.out⟩

/-- is the name one of the text's words -/
def inB (n l : List UInt8) : Bool := (wd [] l).contains n
theorem contains_get {l : List (List UInt8)} {n : List UInt8} {i : Nat} (h : i < l.length) (he : l[i] = n) : l.contains n = true := by
  rw [List.contains_eq_mem]; simp; exact he ▸ List.getElem_mem h
theorem contains_none {l : List (List UInt8)} {n : List UInt8} (h : ∀ j (hj : j < l.length), l[j] ≠ n) : l.contains n = false := by
  rw [List.contains_eq_mem]; simp
  intro hm
  obtain ⟨i, hi, rfl⟩ := List.mem_iff_getElem.1 hm
  exact h i hi rfl
set_option maxHeartbeats 4000000 in
theorem in_c (n s : ByteArray) (w : World) (hs : s.size ≤ 1000) :
    Calls Tryd.prog 11 #[.string n, .string s] w fun e w' => e = .returned (.bool (inB n.data.toList s.data.toList)) ∧ Below w.heap.size w w' := by
  have k1 := words_c s w hs
  have hin : inB n.data.toList s.data.toList = (wd [] s.data.toList).contains n.data.toList := rfl
  generalize wd [] s.data.toList = L at *
  generalize inB n.data.toList s.data.toList = R at *
  have hR := Lib.hid hin
  clear hin hs
  go_enter Tryd.func11, Tryd.ntmps11
  go_wp2_with fail
  refine k1.mono ?_
  rintro e w1 ⟨g, cap, rfl, hS1, hB1⟩
  have hS := Lib.hid hS1
  have hB := Lib.hid hB1
  have hL : L.length ≤ maxLen := by have := hS1.room; rw [List.length_map] at this; omega
  unfold maxLen at hL
  clear hS1 hB1 k1
  go_wp2_with fail
  go_loopg [6] L.length (fun k i wr => ∃ m : Nat, k = L.length - m ∧ m ≤ L.length ∧ i = .int .i64 m ∧ Hid (∀ j (hj : j < L.length), j < m → L[j] ≠ n.data.toList) ∧ ∃ nd, wr = w1.drewN nd)
  case atStart => exact ⟨0, by omega, by omega, rfl, Lib.hid (fun j _ h => absurd h (by omega)), 0, rfl⟩
  case round =>
    obtain ⟨m, hgk, hm, rfl, hN, nd, rfl⟩ := hrel
    by_cases hlt : m < L.length
    · have hlt2 : (m : Int) < L.length := by omega
      have hc := hS.out.cell m (by rw [List.length_map]; exact hlt)
      rw [List.getElem_map] at hc
      by_cases he : L[m] = n.data.toList
      · rw [he, bs_data] at hc
        have hr : R = true := by rw [hR.out]; exact contains_get hlt he
        subst hr
        go_wp2
        go_ret
        exact ⟨rfl, hB.out.trans (below_drawn _ _ _)⟩
      · have x1 : ((bs L[m]).toList == n.toList) = false := by
          rw [ByteArray.toList_eq, ByteArray.toList_eq]
          simpa [bs] using he
        generalize bs L[m] = T at *
        go_wp2
        go_roundg (L.length - (m + 1))
        case measure => omega
        case rel => exact ⟨m + 1, rfl, by omega, by go_num, Lib.hid (fun j hj h => by by_cases e : j = m; (· subst e; exact he); (· exact hN.out j hj (by omega))), _, rfl⟩
    · have hlt2 : ¬ ((m : Int) < L.length) := by omega
      obtain rfl : m = L.length := by omega
      have hr : R = false := by rw [hR.out]; exact contains_none fun j hj => hN.out j hj hj
      subst hr
      go_wp2
      go_ret
      exact ⟨rfl, hB.out.trans (below_drawn _ _ _)⟩
end Go.Proofs.YtnbbcegfcpcndaaDoor.op
