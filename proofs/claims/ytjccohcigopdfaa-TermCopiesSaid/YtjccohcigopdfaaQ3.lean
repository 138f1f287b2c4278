/- The scanner's skip: all that stands between tokens.; Quoted atoms: the scanner's escaped, quoted.; Quoted atoms: the scanner's quoted.; What num's functions come to: a contract for each.; Texts of integers: num's Print, Parse; the reference's.; Texts of integers: num's Print.; Texts of integers: num's Parse.; Terms, names and the program's reader in memory; what a call of the reader's keeps.; The program's reader: next, here, isMark, passes, expect.; The program's reader: expect, atom, compound, infix, mayBegin.; The program's reader: integer, variable.; The program's reader: variable.; The program's reader: bracketed, row. -/
import Derived.Test.YtjccohcigopdfaaQ2
import Derived.Test.YtjccohcigopdfaaProg
import Derived.WalkKit
import Derived.Handy
import Derived.Outline
import Derived.Lib.Hide
import Derived.WalkSpells
import Derived.WalkLawsBesides
import Derived.Laws.BytesArg
import Derived.PlainAid
import Derived.Lib.IndexBytes
import Derived.Lib.Strings
import Derived.Lib.SlicesS
import Derived.Lib.TrimByte
import Derived.Deep.AppendLies
set_option linter.unusedVariables false
set_option linter.unusedSimpArgs false
section
/- The scanner's skip: all that stands between tokens. -/
namespace Go.Proofs.Ytjccohcigopdfaa.lx
open Go.RowKit

theorem ans_blank (M : Nat) (b : UInt8) (l : List UInt8) (ts : List Tok) (n : Nat) (h : cl b = 1) : ans M (b :: l) ts n .btw = ans M l ts (n + 1) .btw := by
  rw [ans_cons, step, start, if_pos h]
theorem ans_remark (M : Nat) (l : List UInt8) (ts : List Tok) (n : Nat) : ans M (47 :: 42 :: l) ts n .btw = ans M l ts (n + 2) (.rem n) := by
  rw [ans_cons, step, start, if_neg (by decide), if_neg (by decide), if_pos rfl]
  simp only
  rw [ans_cons, step, if_pos rfl]
/-- a token begins at m, or the text is at its end -/
def Stop (s : ByteArray) (m : Nat) : Prop := m < s.size → cl (bA s m) ≠ 1 ∧ bA s m ≠ 37 ∧ Lib.hasPrefix (s.data.toList.drop m) [47, 42] = false
/-- the text from n on comes to what it comes to from m on -/
def Same (s : ByteArray) (n m : Nat) : Prop := ∀ M ts, ans M (s.data.toList.drop n) ts n .btw = ans M (s.data.toList.drop m) ts m .btw
theorem rest_facts {s : ByteArray} {m : Nat} (h : m < s.size) : (∀ h0 : 0 < (s.extract m s.size).size, (s.extract m s.size)[0]'h0 = bA s m) ∧ 0 < (s.extract m s.size).size ∧ (s.extract m s.size).data.toList = s.data.toList.drop m := by
  have e : (s.extract m s.size).data.toList = s.data.toList.drop m := Lib.extract_to_end s m
  refine ⟨fun h0 => ?_, by rw [size_of e]; simp; omega, e⟩
  rw [get_bA]
  unfold bA
  rw [e]; simp
theorem same_line {s : ByteArray} {m : Nat} (h : m < s.size) (hb : bA s m = 37) : Same s m (m + lineLen (s.data.toList.drop m)) ∧ 1 ≤ lineLen (s.data.toList.drop m) ∧ m + lineLen (s.data.toList.drop m) ≤ s.size := by
  have hl := lineLen_le (s.data.toList.drop m)
  have hs : s.data.toList.length = s.size := by simp
  refine ⟨fun M ts => ?_, ?_, by rw [List.length_drop] at hl; omega⟩
  · have e := drop_bA h
    rw [hb] at e
    rw [← List.drop_drop, e]; exact ans_percent M _ ts m
  · rw [drop_bA h, hb, lineLen_cons _ _ (by decide)]; omega
theorem prefix_two {l : List UInt8} (h : Lib.hasPrefix l [47, 42] = true) : ∃ r, l = 47 :: 42 :: r := by
  unfold Lib.hasPrefix at h
  match l, h with
  | [], h => simp at h
  | [a], h => simp at h
  | a :: b :: r, h => simp at h; obtain ⟨rfl, rfl⟩ := h; exact ⟨r, rfl⟩
theorem same_remark {s : ByteArray} {m : Nat} (hm : m < s.size) (h : Lib.hasPrefix (s.data.toList.drop m) [47, 42] = true) : m + 2 ≤ s.size ∧
    (cutRem (s.data.toList.drop (m + 2)) = none → ∀ M ts', ans M (s.data.toList.drop m) ts' m .btw = .bad m 31) ∧
    (∀ q, cutRem (s.data.toList.drop (m + 2)) = some q → Same s m (s.size - q.length) ∧ m < s.size - q.length) := by
  obtain ⟨r, hr⟩ := prefix_two h
  have hs : s.data.toList.length = s.size := by simp
  have hl : (s.data.toList.drop m).length = r.length + 2 := by rw [hr]; rfl
  rw [List.length_drop] at hl
  have e2 : s.data.toList.drop (m + 2) = r := by rw [← List.drop_drop, hr]; rfl
  refine ⟨by omega, fun hq M ts' => ?_, fun q hq => ?_⟩
  · rw [hr, ans_remark]; rw [e2] at hq; exact (ans_rem M m ts' r (m + 2)).2.1 hq
  · rw [e2] at hq
    rcases cut_rem r with ⟨_, h1⟩ | ⟨x, _, h1, h2, h3⟩
    · rw [hq] at h1; cases h1
    · rw [hq] at h1; cases h1
      refine ⟨fun M ts => ?_, by omega⟩
      have hd : s.data.toList.drop (s.size - q.length) = q := by
        rw [show s.size - q.length = m + 2 + (r.length - q.length) from by omega, ← List.drop_drop, e2]; exact h3.symm
      rw [hr, ans_remark, hd, ((ans_rem M m ts r (m + 2)).1 q hq).1, show m + 2 + r.length - q.length = s.size - q.length from by omega]

end Go.Proofs.Ytjccohcigopdfaa.lx
end
section
/- Quoted atoms: the scanner's escaped, quoted. -/
namespace Go.Proofs.Ytjccohcigopdfaa.lx
open Go.RowKit

/-- what a backslash and this byte stand for -/
def escOk (d : UInt8) : Bool := d == 110 || d == 116 || d == 92 || d == 39
def escV (d : UInt8) : UInt8 := if d = 110 then 10 else if d = 116 then 9 else d

/-! ### the machine in quotes -/
theorem ans_q_plain (M f : Nat) (b : UInt8) (l acc : List UInt8) (ts : List Tok) (n : Nat) (h1 : b ≠ 39) (h2 : b ≠ 92) (h3 : ¬ (b.toNat < 32 ∨ 126 < b.toNat)) :
    ans M (b :: l) ts n (.quo f acc) = ans M l ts (n + 1) (.quo f (acc ++ [b])) := by
  rw [ans_cons, step, if_neg h1, if_neg h2, if_neg h3]
theorem ans_q_bad (M f : Nat) (b : UInt8) (l acc : List UInt8) (ts : List Tok) (n : Nat) (h1 : b ≠ 39) (h2 : b ≠ 92) (h3 : b.toNat < 32 ∨ 126 < b.toNat) :
    ans M (b :: l) ts n (.quo f acc) = .bad n 30 := by
  rw [ans_cons, step, if_neg h1, if_neg h2, if_pos h3]
theorem ans_q_two (M f : Nat) (l acc : List UInt8) (ts : List Tok) (n : Nat) : ans M (39 :: 39 :: l) ts n (.quo f acc) = ans M l ts (n + 2) (.quo f (acc ++ [39])) := by
  rw [ans_cons, step, if_pos rfl]; simp only; rw [ans_cons, step, if_pos rfl]
theorem ans_q_esc (M f : Nat) (d : UInt8) (l acc : List UInt8) (ts : List Tok) (n : Nat) : ans M (92 :: d :: l) ts n (.quo f acc) = if escOk d = true then ans M l ts (n + 2) (.quo f (acc ++ [escV d])) else .bad n 32 := by
  rw [ans_cons, step, if_neg (by decide), if_pos rfl]; simp only; rw [ans_cons, step]
  unfold escOk escV
  by_cases h1 : d = 110
  · subst h1; rfl
  by_cases h2 : d = 116
  · subst h2; rfl
  by_cases h3 : d = 92
  · subst h3; rfl
  by_cases h4 : d = 39
  · subst h4; rfl
  rw [if_neg h1, if_neg h2, if_neg (by simp [h3, h4]), if_neg (by simp [h1, h2, h3, h4])]; rfl
theorem ans_q_esc_end (M f : Nat) (acc : List UInt8) (ts : List Tok) (n : Nat) : ans M [92] ts n (.quo f acc) = .bad f 31 := rfl
theorem ans_q_end (M f : Nat) (l acc : List UInt8) (ts : List Tok) (n : Nat) (h : ∀ b r, l = b :: r → b ≠ 39) : ans M (39 :: l) ts n (.quo f acc) = ans M l (ts ++ [⟨1, acc, f, n + 1⟩]) (n + 1) .btw := by
  rw [ans_cons, step, if_pos rfl]
  cases l with
  | nil => rfl
  | cons b r => simp only; rw [ans_cons, ans_cons, step, step, if_neg (h b r rfl)]

/-! ### frames -/
theorem Kp.on {c K : Nat} {w w1 w2 : World} (h : Kp c w w1) (hb : Below K w1 w2) (hK : w.heap.size ≤ K) : Kp c w w2 :=
  ⟨hb.os.trans h.os, hb.tape.trans h.tape, hb.output.trans h.output, Nat.le_trans h.size hb.size, fun k hk hne => (hb.block k (by omega)).trans (h.block k hk hne)⟩
end Go.Proofs.Ytjccohcigopdfaa.lx
end
section
/- Quoted atoms: the scanner's quoted. -/
namespace Go.Proofs.Ytjccohcigopdfaa.lx
open Go.RowKit

/-- the machine in quotes that began at n comes from n + 1 on to what it comes to at m with the text acc -/
def Quo (s : ByteArray) (n m : Nat) (acc : List UInt8) : Prop := ∀ M ts, ans M (s.data.toList.drop (n + 1)) ts (n + 1) (.quo n []) = ans M (s.data.toList.drop m) ts m (.quo n acc)
def QuoOk (s : ByteArray) (n m : Nat) (acc : List UInt8) : Prop := ∀ M ts, ans M (s.data.toList.drop (n + 1)) ts (n + 1) (.quo n []) = ans M (s.data.toList.drop m) (ts ++ [⟨1, acc, n, m⟩]) m .btw
def QuoBad (s : ByteArray) (n p k : Nat) : Prop := ∀ M ts, ans M (s.data.toList.drop (n + 1)) ts (n + 1) (.quo n []) = .bad p k
theorem drop2 {s : ByteArray} {m : Nat} (h : m + 1 < s.size) : s.data.toList.drop m = bA s m :: bA s (m + 1) :: s.data.toList.drop (m + 2) := by
  rw [drop_bA (by omega), drop_bA h]
theorem drop1 {s : ByteArray} {m : Nat} (h : m + 1 = s.size) : s.data.toList.drop m = [bA s m] := by
  rw [drop_bA (by omega), drop_end (k := m + 1) (by omega)]

end Go.Proofs.Ytjccohcigopdfaa.lx
end
section
/- What num's functions come to: a contract for each. -/
namespace Go.Proofs.Ytjccohcigopdfaa.nm
open Go.RowKit

theorem ret2 {k l : IntKind} {a b c d : Int} (h : a = c) (h2 : b = d) : Ending.returned (.tuple #[.int k a, .int l b]) = .returned (.tuple #[.int k c, .int l d]) := by rw [h, h2]
theorem least_cases {a b : Int} (h : ¬ (a = -9223372036854775808 ∧ b = -1)) : ((a == -9223372036854775808) = true ∧ (b == -1) = false) ∨ (a == -9223372036854775808) = false := by
  by_cases h1 : a = -9223372036854775808
  · exact .inl ⟨by rw [beq_iff_eq]; exact h1, by rw [beq_eq_false_iff_ne]; exact fun h2 => h ⟨h1, h2⟩⟩
  · exact .inr (by rw [beq_eq_false_iff_ne]; exact h1)

theorem add_over_neg {a b : Int} (ha : Fit a) (hb : Fit b) (h : a + b < -9223372036854775808) : a ≤ wrap64 (a + b) ∧ b < 0 := by
  unfold wrap64; unfold Fit at *; omega
theorem add_over_pos {a b : Int} (ha : Fit a) (hb : Fit b) (h : 9223372036854775807 < a + b) : wrap64 (a + b) < a ∧ 0 ≤ b := by
  unfold wrap64; unfold Fit at *; omega

theorem sub_over_neg {a b : Int} (ha : Fit a) (hb : Fit b) (h : a - b < -9223372036854775808) : a < wrap64 (a - b) ∧ 0 ≤ b := by
  unfold wrap64; unfold Fit at *; omega
theorem sub_over_pos {a b : Int} (ha : Fit a) (hb : Fit b) (h : 9223372036854775807 < a - b) : wrap64 (a - b) ≤ a ∧ b < 0 := by
  unfold wrap64; unfold Fit at *; omega

def absI (a : Int) : Int := if a < 0 then -a else a
end Go.Proofs.Ytjccohcigopdfaa.nm
end
section
/- Texts of integers: num's Print, Parse; the reference's. -/
namespace Go.Proofs.Ytjccohcigopdfaa.tx
open Go.RowKit Go.Proofs.Ytjccohcigopdfaa.nm

/-- a text as a value -/
def str (l : List UInt8) : ByteArray := ⟨l.toArray⟩
def ten : ByteArray := { data := #[48, 49, 50, 51, 52, 53, 54, 55, 56, 57] }
theorem ten_cut (d : Nat) (h : d < 10) : ten.extract d (d + 1) = str [dig d] := by
  have : ∀ d : Fin 10, ten.extract d.val (d.val + 1) = str [dig d.val] := by decide
  exact this ⟨d, h⟩
theorem str_append (a b : List UInt8) : str a ++ str b = str (a ++ b) := by
  unfold str; apply ByteArray.ext; simp

theorem dec_len (n : Nat) (h : n ≤ 9223372036854775808) : (dec n).length ≤ 19 := dec_len_lt (by omega) (by omega)

theorem dig_mod (m : Nat) : dig (m % 10) = dig m := by unfold dig; rw [Nat.mod_mod]
theorem str_step (m : Nat) (r : List UInt8) : Value.string (ten.extract (m % 10) (m % 10 + 1) ++ str r) = Value.string (str (dig m :: r)) := by
  rw [ten_cut _ (by omega), dig_mod, str_append]; rfl
theorem str_end1 (m : Nat) (r : List UInt8) {l : List UInt8} (h : m < 10) (hl : l = dig m :: r) :
    Ending.returned (.string (({ data := #[45] } : ByteArray) ++ ten.extract m (m + 1) ++ str r)) = .returned (.string (str (45 :: l))) := by
  rw [ten_cut _ h, show ({ data := #[45] } : ByteArray) = str [45] from rfl, str_append, str_append, hl]; rfl
theorem str_end0 (m : Nat) (r : List UInt8) {l : List UInt8} (h : m < 10) (hl : l = dig m :: r) :
    Ending.returned (.string (({ data := #[] } : ByteArray) ++ ten.extract m (m + 1) ++ str r)) = .returned (.string (str l)) := by
  rw [ten_cut _ h, show ({ data := #[] } : ByteArray) = str [] from rfl, str_append, str_append, hl]; rfl

theorem print_r (a : Int) (ha : Fit a) (w : World) :
    Calls Try.prog 108 #[.int .i64 a] w fun e w' => e = .returned (.string (str (text a))) ∧ w = w' := by
  have hN := Lib.hid (dec_len a.natAbs (by unfold Fit at ha; omega))
  unfold Fit at ha
  by_cases h0 : a < 0
  · rw [text_neg h0]
    go_enter Try.func108, Try.ntmps108
    go_wp2
    go_loop [5, 3] (fun s n => ∃ (m : Nat) (r : List UInt8), n = .int .u64 m ∧ s = .string (str r) ∧ Hid (dec a.natAbs = decTo m r) ∧ m ≤ 18446744073709551615) (fun _ n => (intOf n).toNat)
    case atStart => exact ⟨a.natAbs, [], by go_num, rfl, Lib.hid rfl, by omega⟩
    case round =>
      obtain ⟨m, r, rfl, rfl, hD, hm⟩ := hrel
      have hl : r.length ≤ 19 := by
        have := hN.out; rw [hD.out, decTo_append] at this; simp at this; omega
      have hsz : (str r).size ≤ 19 := hl
      by_cases hm9 : 9 < m
      · have hD' := Lib.hid (show dec a.natAbs = decTo (m / 10) (dig m :: r) by rw [hD.out, decTo_ge (by omega)])
        go_wp2
        exact ⟨⟨m / 10, dig m :: r, by go_num, str_step m r, hD', by omega⟩, by simp [intOf]; omega⟩
      · have hD' := Lib.hid (show dec a.natAbs = dig m :: r by rw [hD.out, decTo_lt (by omega)])
        go_wp2
        go_ret
        exact ⟨str_end1 m r (by omega) hD'.out, rfl⟩
  · rw [text_pos h0]
    go_enter Try.func108, Try.ntmps108
    go_wp2
    go_loop [5, 3] (fun s n => ∃ (m : Nat) (r : List UInt8), n = .int .u64 m ∧ s = .string (str r) ∧ Hid (dec a.natAbs = decTo m r) ∧ m ≤ 18446744073709551615) (fun _ n => (intOf n).toNat)
    case atStart => exact ⟨a.natAbs, [], by go_num, rfl, Lib.hid rfl, by omega⟩
    case round =>
      obtain ⟨m, r, rfl, rfl, hD, hm⟩ := hrel
      have hl : r.length ≤ 19 := by
        have := hN.out; rw [hD.out, decTo_append] at this; simp at this; omega
      have hsz : (str r).size ≤ 19 := hl
      by_cases hm9 : 9 < m
      · have hD' := Lib.hid (show dec a.natAbs = decTo (m / 10) (dig m :: r) by rw [hD.out, decTo_ge (by omega)])
        go_wp2
        exact ⟨⟨m / 10, dig m :: r, by go_num, str_step m r, hD', by omega⟩, by simp [intOf]; omega⟩
      · have hD' := Lib.hid (show dec a.natAbs = dig m :: r by rw [hD.out, decTo_lt (by omega)])
        go_wp2
        go_ret
        exact ⟨str_end0 m r (by omega) hD'.out, rfl⟩
end Go.Proofs.Ytjccohcigopdfaa.tx
end
section
/- Texts of integers: num's Print. -/
namespace Go.Proofs.Ytjccohcigopdfaa.tx
open Go.RowKit Go.Proofs.Ytjccohcigopdfaa.nm

theorem mag_neg {a : Int} (h : a < 0) (h2 : -9223372036854775808 ≤ a) : Ending.returned (.int .u64 (IntKind.u64.wrap (-IntKind.u64.wrap a))) = .returned (.int .u64 (a.natAbs : Nat)) := by
  rw [IntKind.wrap_u64, IntKind.wrap_u64]; congr 2; omega
theorem mag_pos {a : Int} (h : ¬ a < 0) : Ending.returned (.int .u64 a) = .returned (.int .u64 (a.natAbs : Nat)) := by
  congr 2; omega

end Go.Proofs.Ytjccohcigopdfaa.tx
end
section
/- Texts of integers: num's Parse. -/
namespace Go.Proofs.Ytjccohcigopdfaa.tx
open Go.RowKit Go.Proofs.Ytjccohcigopdfaa.nm

theorem str_list (l : List UInt8) : (str l).data.toList = l := rfl
theorem str_size (l : List UInt8) : (str l).size = l.length := rfl
theorem str_get (l : List UInt8) (k : Nat) (h : k < l.length) : PlainAid.bt (str l) k = (l[k].toNat : Nat) := by
  unfold PlainAid.bt; rw [dif_pos (show k < (str l).size from h)]; rfl
theorem bytes_str {s : ByteArray} {l : List UInt8} (h : s.data.toList = l) : s = str l := WideShapes.bytes_inj h
theorem ret_str {s t : ByteArray} (h : s = t) : Ending.returned (.string s) = .returned (.string t) := by rw [h]

/-- what reckon answers of a text -/
def Reck (l : List UInt8) (w w' : World) (e : Ending) : Prop :=
  ∃ (n : Int) (ok : Bool), e = .returned (.tuple #[.int .i64 n, .bool ok]) ∧ Fit n ∧ (∀ a, Fit a → text a = l → ok = true ∧ n = a) ∧ w = w'

def two64 : Nat := 18446744073709551616
/-- the digits alone, round 2^64 -/
def valM (l : List UInt8) : Nat := l.foldl (fun n c => if 48 ≤ c.toNat ∧ c.toNat ≤ 57 then (10 * n + (c.toNat - 48)) % two64 else n) 0
theorem valM_snoc (l : List UInt8) (c : UInt8) : valM (l ++ [c]) = if 48 ≤ c.toNat ∧ c.toNat ≤ 57 then (10 * valM l + (c.toNat - 48)) % two64 else valM l := by
  unfold valM; rw [List.foldl_append]; rfl

theorem wrap_step {m c : Nat} (h : 48 ≤ c) : Value.int .u64 (IntKind.u64.wrap (IntKind.u64.wrap ((m : Int) * 10) + ((c : Int) - 48))) = .int .u64 (((10 * m + (c - 48)) % two64 : Nat) : Int) := by
  rw [IntKind.wrap_u64, IntKind.wrap_u64]; unfold two64; congr 1; omega
theorem valM_digs (l : List UInt8) : ∀ n, Digs l → valF l n < two64 → l.foldl (fun n c => if 48 ≤ c.toNat ∧ c.toNat ≤ 57 then (10 * n + (c.toNat - 48)) % two64 else n) n = valF l n := by
  induction l with
  | nil => intro n _ _; rw [List.foldl_nil, valF_nil]
  | cons c l ih =>
    intro n hd hv
    have h1 := hd c (List.mem_cons_self ..)
    rw [valF_cons] at hv ⊢
    have h2 := valF_mono l (10 * n + (c.toNat - 48))
    rw [List.foldl_cons, if_pos h1, Nat.mod_eq_of_lt (by omega)]
    exact ih _ (fun x hx => hd x (List.mem_cons_of_mem _ hx)) hv
theorem valM_dec {n : Nat} (h : n < two64) : valM (dec n) = n := by
  unfold valM; rw [valM_digs _ _ (digs_dec n) (by rw [val_dec]; exact h), val_dec]
theorem valM_neg (t : List UInt8) : valM (45 :: t) = valM t := by unfold valM; rw [List.foldl_cons]; rfl
theorem parse_m1 {l : List UInt8} {m : Nat} (hv : valM l = m) {r : List UInt8} (hl : l = 45 :: r) : ∀ a, Fit a → text a = l → wrap64 (-wrap64 (m : Int)) = a := by
  intro a ha hta
  by_cases h0 : a < 0
  · rw [text_neg h0] at hta
    have : m = a.natAbs := by rw [← hv, ← hta, valM_neg, valM_dec (by unfold two64; unfold Fit at ha; omega)]
    subst this
    unfold Fit at ha; unfold wrap64; omega
  · rw [text_pos h0, hl] at hta; exact absurd rfl (dec_head hta)
theorem parse_m0 {l : List UInt8} {m : Nat} (hv : valM l = m) {c : UInt8} {r : List UInt8} (hl : l = c :: r) (hc : c ≠ 45) : ∀ a, Fit a → text a = l → wrap64 (m : Int) = a := by
  intro a ha hta
  by_cases h0 : a < 0
  · rw [text_neg h0, hl] at hta; exact absurd (List.cons.inj hta).1.symm hc
  · rw [text_pos h0] at hta
    have : m = a.natAbs := by rw [← hv, ← hta, valM_dec (by unfold two64; unfold Fit at ha; omega)]
    subst this
    unfold Fit at ha; unfold wrap64; omega

set_option maxRecDepth 100000 in
/-- the reference's Parse -/
theorem parse_r (l : List UInt8) (hl : l.length ≤ 8192) (w : World) :
    Calls Try.prog 102 #[.string (str l)] w fun e w' => e = .returned (.tuple #[.int .i64 (parseV l), .int .i64 (parseE l)]) ∧ w = w' := by
  have s1 : (str l).size = l.length := rfl
  by_cases h1 : l.length < 1
  · have hp := Lib.hid (parse_no (s := l) fun a ha h => by have := text_len ha; rw [h] at this; omega)
    generalize str l = sl at *
    go_enter Try.func102, Try.ntmps102
    go_wp2
    go_ret2
    exact ⟨ret2 hp.out.1.symm hp.out.2.symm, rfl⟩
  · by_cases h2 : 20 < l.length
    · have hp := Lib.hid (parse_no (s := l) fun a ha h => by have := text_len ha; rw [h] at this; omega)
      generalize str l = sl at *
      go_enter Try.func102, Try.ntmps102
      go_wp2
      go_ret2
      exact ⟨ret2 hp.out.1.symm hp.out.2.symm, rfl⟩
    · have hgt := PlainAid.get_bt (str l)
      have hbt := fun k h => str_get l k h
      generalize hsl : str l = sl at *
      have Hsl := Lib.hid hsl
      clear hsl
      go_enter Try.func102, Try.ntmps102
      go_wp2
      go_loop [4, 5] (fun n i => ∃ k m : Nat, i = .int .i64 k ∧ n = .int .u64 m ∧ k ≤ l.length ∧ m < two64 ∧ Hid (valM (l.take k) = m)) (fun _ i => l.length - (intOf i).toNat)
      case atStart => exact ⟨0, 0, rfl, rfl, by omega, by unfold two64; omega, Lib.hid rfl⟩
      case round =>
        obtain ⟨k, m, rfl, rfl, hk, hm, hv⟩ := hrel
        by_cases hkl : k < l.length
        · have hc := hbt k hkl
          have hs := Lib.hid (show l.take (k + 1) = l.take k ++ [l[k]] from List.take_succ_eq_append_getElem hkl)
          have hc2 := l[k].toNat_lt
          generalize l[k] = ck at *
          generalize hcn : ck.toNat = c at *
          have Hcn := Lib.hid hcn
          clear hcn hbt
          by_cases h1 : 48 ≤ c
          · by_cases h2 : c ≤ 57
            · have hv' := Lib.hid (show valM (l.take (k + 1)) = (10 * m + (c - 48)) % two64 by rw [hs.out, valM_snoc, hv.out, Hcn.out, if_pos ⟨h1, h2⟩])
              go_wp2
              exact ⟨⟨k + 1, (10 * m + (c - 48)) % two64, by go_num, wrap_step h1, by omega, Nat.mod_lt _ (by unfold two64; omega), hv'⟩, by simp [intOf]; omega⟩
            · have hv' := Lib.hid (show valM (l.take (k + 1)) = m by rw [hs.out, valM_snoc, hv.out, Hcn.out, if_neg (by omega)])
              go_wp2
              exact ⟨⟨k + 1, m, by go_num, rfl, by omega, hm, hv'⟩, by simp [intOf]; omega⟩
          · have hv' := Lib.hid (show valM (l.take (k + 1)) = m by rw [hs.out, valM_snoc, hv.out, Hcn.out, if_neg (by omega)])
            go_wp2
            exact ⟨⟨k + 1, m, by go_num, rfl, by omega, hm, hv'⟩, by simp [intOf]; omega⟩
        · obtain rfl : k = l.length := by omega
          have hv2 := Lib.hid (show valM l = m by have := hv.out; rwa [List.take_length] at this)
          have hc := hbt 0 (by omega)
          have l0 := Lib.hid (show l = l[0] :: l.drop 1 by rw [List.getElem_cons_drop]; rfl)
          have hc2 := l[0].toNat_lt
          by_cases h45 : l[0] = 45
          · rw [h45] at hc l0
            have hc' : PlainAid.bt sl 0 = 45 := hc
            have hA := Lib.hid (parse_m1 hv2.out l0.out)
            have hpr := print_r (wrap64 (-wrap64 (m : Int))) (wrap_is_fit _) 
            by_cases he : text (wrap64 (-wrap64 (m : Int))) = l
            · have hp := Lib.hid (parse_yes (wrap_is_fit _) he)
              have t1 : ((str (text (wrap64 (-wrap64 (m : Int))))).toList == sl.toList) = true := by rw [he, Hsl.out]; simp
              generalize str (text (wrap64 (-wrap64 (m : Int)))) = st at *
              clear he hv
              go_wp2_with (go_at_call 108; refine (hpr _).mono ?_; rintro e w' ⟨rfl, rfl⟩)
              go_ret2
              exact ⟨ret2 hp.out.1.symm hp.out.2.symm, rfl⟩
            · have hp := Lib.hid (parse_no (s := l) fun a h1 h2 => he (by rw [hA.out a h1 h2]; exact h2))
              have t1 : ((str (text (wrap64 (-wrap64 (m : Int))))).toList == sl.toList) = false := by
                rw [← Hsl.out, ByteArray.toList_eq, ByteArray.toList_eq, str_list, str_list]; simpa using he
              generalize str (text (wrap64 (-wrap64 (m : Int)))) = st at *
              clear he hv
              go_wp2_with (go_at_call 108; refine (hpr _).mono ?_; rintro e w' ⟨rfl, rfl⟩)
              go_ret2
              exact ⟨ret2 hp.out.1.symm hp.out.2.symm, rfl⟩
          · have hne : l[0].toNat ≠ 45 := fun h => h45 (UInt8.toNat_inj.1 h)
            generalize hcn : l[0].toNat = c at *
            have t45 : ((c : Int) == 45) = false := by simp; omega
            have hA := Lib.hid (parse_m0 hv2.out l0.out h45)
            have hpr := print_r (wrap64 (m : Int)) (wrap_is_fit _) 
            by_cases he : text (wrap64 (m : Int)) = l
            · have hp := Lib.hid (parse_yes (wrap_is_fit _) he)
              have t1 : ((str (text (wrap64 (m : Int)))).toList == sl.toList) = true := by rw [he, Hsl.out]; simp
              generalize str (text (wrap64 (m : Int))) = st at *
              clear he hv
              go_wp2_with (go_at_call 108; refine (hpr _).mono ?_; rintro e w' ⟨rfl, rfl⟩)
              go_ret2
              exact ⟨ret2 hp.out.1.symm hp.out.2.symm, rfl⟩
            · have hp := Lib.hid (parse_no (s := l) fun a h1 h2 => he (by rw [hA.out a h1 h2]; exact h2))
              have t1 : ((str (text (wrap64 (m : Int)))).toList == sl.toList) = false := by
                rw [← Hsl.out, ByteArray.toList_eq, ByteArray.toList_eq, str_list, str_list]; simpa using he
              generalize str (text (wrap64 (m : Int))) = st at *
              clear he hv
              go_wp2_with (go_at_call 108; refine (hpr _).mono ?_; rintro e w' ⟨rfl, rfl⟩)
              go_ret2
              exact ⟨ret2 hp.out.1.symm hp.out.2.symm, rfl⟩

end Go.Proofs.Ytjccohcigopdfaa.tx
end
section
/- Terms, names and the program's reader in memory; what a call of the reader's keeps. -/
namespace Go.Proofs.Ytjccohcigopdfaa.rd
open Go.RowKit
open Go.Proofs.Ytjccohcigopdfaa.op (bs strC Both Tb)
open Go.Proofs.Ytjccohcigopdfaa.lx (Tok Tk tcell tcells cell_at)

/-! ### terms -/
def T.k : T → Nat
  | .leaf k _ _ => k
  | .cmp _ _ => 4
def T.n : T → Int
  | .leaf _ n _ => n
  | .cmp _ _ => 0
def T.s : T → List UInt8
  | .leaf _ _ s => s
  | .cmp s _ => s
/-- a term's four cells, a being the slice of its parts -/
def tv (t : T) (a : Value) : List Value := [.int .i64 (t.k : Nat), .int .i64 t.n, .string (bs t.s), a]
def tvs (l : List (T × Value)) : List Value := l.flatMap fun x => tv x.1 x.2
theorem tvs_append (a b : List (T × Value)) : tvs (a ++ b) = tvs a ++ tvs b := by simp [tvs]
theorem tvs_len (l : List (T × Value)) : (tvs l).length = l.length * 4 := by
  induction l with
  | nil => rfl
  | cons t l ih => rw [tvs, List.flatMap_cons, List.length_append, List.length_cons]; rw [tvs] at ih; rw [ih]; simp [tv]; omega
theorem tvs_get (l : List (T × Value)) (i j : Nat) (hi : i < l.length) (hj : j < 4) : (tvs l)[i * 4 + j]? = (tv l[i].1 l[i].2)[j]? := by
  induction l generalizing i with
  | nil => exact absurd hi (Nat.not_lt_zero _)
  | cons t l ih =>
    rw [tvs, List.flatMap_cons]
    cases i with
    | zero => rw [List.getElem?_append_left (by simp [tv]; omega)]; simp
    | succ i =>
      rw [List.getElem?_append_right (by simp [tv]; omega)]
      rw [show (i + 1) * 4 + j - (tv t.1 t.2).length = i * 4 + j from by simp [tv]; omega]
      rw [tvs] at ih
      rw [ih i (by simpa using hi)]; rfl
mutual
/-- a is the slice of the term's parts; all lies in blocks of D -/
def Rp (D : Nat → Prop) (w : World) : T → Value → Prop
  | .leaf _ _ _, a => a = .slice none 0 0
  | .cmp _ l, a => ∃ az : List Value, w.ownsRow 0 25 4 a l.length (tvs (l.zip az)) ∧ (∀ g, a.ownBlock = some g → D g) ∧ Rps D w l az
def Rps (D : Nat → Prop) (w : World) : List T → List Value → Prop
  | [], az => az = []
  | t :: l, az => ∃ a az', az = a :: az' ∧ Rp D w t a ∧ Rps D w l az'
end
section
variable {D D' : Nat → Prop} {w w' : World}
theorem Rps.len : ∀ {l : List T} {az : List Value}, Rps D w l az → az.length = l.length
  | [], az, h => by rw [Rps] at h; rw [h]; rfl
  | t :: l, az, h => by
    rw [Rps] at h
    obtain ⟨a, az', rfl, _, h⟩ := h
    simp [Rps.len h]
theorem Rps.append : ∀ {l m : List T} {az bs : List Value}, Rps D w l az → Rps D w m bs → Rps D w (l ++ m) (az ++ bs)
  | [], m, az, bs, h, k => by rw [Rps] at h; subst h; exact k
  | t :: l, m, az, bs, h, k => by
    rw [Rps] at h
    obtain ⟨a, az', rfl, h1, h2⟩ := h
    rw [List.cons_append, Rps]
    exact ⟨a, az' ++ bs, rfl, h1, Rps.append h2 k⟩
theorem Rps.nil : Rps D w [] [] := by rw [Rps]
theorem Rps.one {t : T} {a : Value} (h : Rp D w t a) : Rps D w [t] [a] := by
  rw [Rps]; exact ⟨a, [], rfl, h, Rps.nil⟩
theorem Rps.two {t u : T} {a b : Value} (h : Rp D w t a) (k : Rp D w u b) : Rps D w [t, u] [a, b] := by
  rw [Rps]; exact ⟨a, [b], rfl, h, Rps.one k⟩
theorem Rps.get : ∀ {l : List T} {az : List Value}, Rps D w l az → ∀ i (hi : i < l.length) (hj : i < az.length), Rp D w l[i] az[i]
  | [], az, _, i, hi, _ => absurd hi (Nat.not_lt_zero _)
  | t :: l, az, h, i, hi, hj => by
    rw [Rps] at h
    obtain ⟨a, az', rfl, h1, h2⟩ := h
    cases i with
    | zero => exact h1
    | succ i => exact Rps.get h2 i (by simpa using hi) (by simpa using hj)
mutual
theorem Rp.imp (hd : ∀ k, k < w.heap.size → D k → D' k) : ∀ {t : T} {a : Value}, Rp D w t a → Rp D' w t a
  | .leaf _ _ _, a, h => by rw [Rp] at h ⊢; exact h
  | .cmp _ l, a, h => by
    rw [Rp] at h ⊢
    obtain ⟨az, h1, h2, h3⟩ := h
    exact ⟨az, h1, fun g hg => hd g ((World.ownsRow.lt h1) g hg).2 (h2 g hg), Rps.imp hd h3⟩
theorem Rps.imp (hd : ∀ k, k < w.heap.size → D k → D' k) : ∀ {l : List T} {az : List Value}, Rps D w l az → Rps D' w l az
  | [], az, h => by rw [Rps] at h ⊢; exact h
  | t :: l, az, h => by
    rw [Rps] at h ⊢
    obtain ⟨a, az', h1, h2, h3⟩ := h
    exact ⟨a, az', h1, Rp.imp hd h2, Rps.imp hd h3⟩
end
end

/-! ### what is kept -/
/-- blocks of the type t lie az they lay -/
def Kt (t : TypeId) (w w' : World) : Prop := ∀ (k : Nat) (cs : Array Value) (fr : Nat × Nat), w.heap[k]? = some (.cells cs t fr) → w'.heap[k]? = some (.cells cs t fr)
theorem own_kept {w w' : World} {t : TypeId} {B z n : Nat} {v : Value} {xs : List Value} (h : w.ownsRow B t z v n xs) (hk : Kt t w w') : w'.ownsRow B t z v n xs := by
  refine ⟨h.1, ?_⟩
  rcases h.2 with hn | ⟨g, cap, cur, h1, h2, h3, h4⟩
  · exact .inl hn
  · exact .inr ⟨g, cap, cur, h1, h2, hk _ _ _ h3, h4⟩
/-- blocks of D of the type t lie as they lay -/
def Kd (D : Nat → Prop) (t : TypeId) (w w' : World) : Prop := ∀ (k : Nat) (cs : Array Value) (fr : Nat × Nat), D k → w.heap[k]? = some (.cells cs t fr) → w'.heap[k]? = some (.cells cs t fr)
theorem Kt.kd {t : TypeId} {w w' : World} (h : Kt t w w') (D : Nat → Prop) : Kd D t w w' := fun k cs fr _ hk => h k cs fr hk
theorem own_keptD {D : Nat → Prop} {w w' : World} {t : TypeId} {B z n : Nat} {v : Value} {xs : List Value} (h : w.ownsRow B t z v n xs) (hd : ∀ g, v.ownBlock = some g → D g) (hk : Kd D t w w') : w'.ownsRow B t z v n xs := by
  refine ⟨h.1, ?_⟩
  rcases h.2 with hn | ⟨g, cap, cur, h1, h2, h3, h4⟩
  · exact .inl hn
  · exact .inr ⟨g, cap, cur, h1, h2, hk _ _ _ (hd g (by rw [h1]; rfl)) h3, h4⟩
mutual
theorem Rp.keptD {D : Nat → Prop} {w w' : World} (hk : Kd D 25 w w') : ∀ {t : T} {a : Value}, Rp D w t a → Rp D w' t a
  | .leaf _ _ _, a, h => by rw [Rp] at h ⊢; exact h
  | .cmp _ l, a, h => by
    rw [Rp] at h ⊢
    obtain ⟨az, h2, h1, h3⟩ := h
    exact ⟨az, own_keptD h2 h1 hk, h1, Rps.keptD hk h3⟩
theorem Rps.keptD {D : Nat → Prop} {w w' : World} (hk : Kd D 25 w w') : ∀ {l : List T} {az : List Value}, Rps D w l az → Rps D w' l az
  | [], az, h => by rw [Rps] at h ⊢; exact h
  | t :: l, az, h => by
    rw [Rps] at h ⊢
    obtain ⟨a, az', h1, h2, h3⟩ := h
    exact ⟨a, az', h1, Rp.keptD hk h2, Rps.keptD hk h3⟩
end
theorem Rp.kept {D : Nat → Prop} {w w' : World} (hk : Kt 25 w w') {t : T} {a : Value} (h : Rp D w t a) : Rp D w' t a := h.keptD (hk.kd D)
theorem Rps.kept {D : Nat → Prop} {w w' : World} (hk : Kt 25 w w') {l : List T} {az : List Value} (h : Rps D w l az) : Rps D w' l az := h.keptD (hk.kd D)
theorem kd_set {D : Nat → Prop} {w : World} {t : TypeId} {p : Addr} (hp : ¬ D p.block) (v : Value) : Kd D t w (w.setCell p v) := fun k cs fr hd hk => by
  rw [Below.heap_setCell _ _ _ _ (fun e => by subst e; exact hp hd)]; exact hk
theorem Rp.set {D : Nat → Prop} {w : World} {t : T} {a : Value} (h : Rp D w t a) {p : Addr} (hp : ¬ D p.block) (v : Value) : Rp D (w.setCell p v) t a := h.keptD (kd_set hp v)
theorem Rps.set {D : Nat → Prop} {w : World} {l : List T} {az : List Value} (h : Rps D w l az) {p : Addr} (hp : ¬ D p.block) (v : Value) : Rps D (w.setCell p v) l az := h.keptD (kd_set hp v)
theorem lt_of {w : World} {k : Nat} {o : Obj} (h : w.heap[k]? = some o) : k < w.heap.size := (Array.getElem?_eq_some_iff.1 h).1
theorem Kt.alloc {t : TypeId} {w w' : World} (h : Kt t w w') (o : Obj) : Kt t w (w'.alloc o) := fun k cs fr hk => by
  have := h k cs fr hk
  rw [Lib.alloc_old w' o k (lt_of this)]; exact this
theorem Kt.refl (t : TypeId) (w : World) : Kt t w w := fun _ _ _ h => h
theorem Kt.trans {t : TypeId} {a b c : World} (h : Kt t a b) (k : Kt t b c) : Kt t a c := fun i cs fr hi => k i cs fr (h i cs fr hi)
theorem Kt.below {t : TypeId} {w w' : World} (h : Below w.heap.size w w') : Kt t w w' := fun k cs fr hk => by
  rw [h.block k (lt_of hk)]; exact hk

/-! ### tokens that may come -/
structure Good (L : List Tok) : Prop where
  len : L.length ≤ 1000
  text : ∀ t ∈ L, t.text.length ≤ 4096
  frm : ∀ t ∈ L, t.frm ≤ 4096
  to : ∀ t ∈ L, t.to ≤ 4096
  digs : ∀ t ∈ L, t.kind = 3 → t.text ≠ []
  kind : ∀ t ∈ L, 1 ≤ t.kind ∧ t.kind ≤ 6

/-! ### the reader -/
/-- what the reader's functions keep: all but the reader itself and the strings from b on -/
structure Fr (r b : Nat) (w w' : World) : Prop where
  os : w'.os = w.os
  tape : w'.tape = w.tape
  output : w'.output = w.output
  size : w.heap.size ≤ w'.heap.size
  block : ∀ k, k < w.heap.size → k ≠ r → (k < b ∨ ∀ cs fr, w.heap[k]? ≠ some (.cells cs 9 fr)) → w'.heap[k]? = w.heap[k]?
section
variable {r b e i : Nat} {tk nv nv' nv'' : Value} {L : List Tok} {nm : List (List UInt8)} {w w' w'' : World}
theorem Fr.refl (r b : Nat) (w : World) : Fr r b w w := ⟨rfl, rfl, rfl, Nat.le_refl _, fun _ _ _ _ => rfl⟩
theorem Fr.trans (h : Fr r b w w') (k : Fr r b w' w'') : Fr r b w w'' :=
  ⟨k.os.trans h.os, k.tape.trans h.tape, k.output.trans h.output, Nat.le_trans h.size k.size,
    fun j hj hr hn => (k.block j (Nat.lt_of_lt_of_le hj h.size) hr (hn.imp id fun hs cs fr e => hs cs fr (by rw [← h.block j hj hr hn]; exact e))).trans (h.block j hj hr hn)⟩
theorem Fr.of_below (h : Below w.heap.size w w') : Fr r b w w' := ⟨h.os, h.tape, h.output, h.size, fun k hk _ _ => h.block k hk⟩
theorem Fr.alloc (h : Fr r b w w') (o : Obj) : Fr r b w (w'.alloc o) := h.trans (Fr.of_below ((Below.refl _ _).alloc (Nat.le_refl _) o))
theorem Fr.drew (h : Fr r b w w') (k : Nat) : Fr r b w (w'.drewN k) := h.trans (Fr.of_below ⟨rfl, rfl, rfl, Nat.le_refl _, fun _ _ => rfl⟩)
theorem Fr.set (h : Fr r b w w') {p : Addr} (hp : p.block = r ∨ w.heap.size ≤ p.block) (v : Value) : Fr r b w (w'.setCell p v) :=
  ⟨h.os, h.tape, h.output, by simpa [World.setCell] using h.size, fun k hk hr hn => (Below.heap_setCell _ _ _ _ (by rcases hp with h1 | h1 <;> omega)).trans (h.block k hk hr hn)⟩
theorem Fr.own {B : Nat} (h : Fr r b w w') (hb : Below B w' w'') (hB : w.heap.size ≤ B) : Fr r b w w'' :=
  ⟨hb.os.trans h.os, hb.tape.trans h.tape, hb.output.trans h.output, Nat.le_trans h.size hb.size, fun k hk hr hn => (hb.block k (by omega)).trans (h.block k hk hr hn)⟩
theorem kt_set {t u : TypeId} {p : Addr} {v : Value} {cs : Array Value} {fr : Nat × Nat} (hp : w.heap[p.block]? = some (.cells cs u fr)) (hn : t ≠ u) : Kt t w (w.setCell p v) := fun k cs' fr' hk => by
  rw [Below.heap_setCell _ _ _ _ (fun e => by subst e; rw [hp] at hk; cases hk; exact hn rfl)]; exact hk
theorem heap_set_at {w : World} {k j : Nat} {v : Value} {cs : Array Value} {t : TypeId} (h : w.heap[k]? = some (.cells cs t (0, 0))) : (w.setCell ⟨k, j, none⟩ v).heap[k]? = some (.cells (cs.setIfInBounds j v) t (0, 0)) := by
  simp [World.setCell, Array.getElem?_modify, h]
end
/-- the token at place i, behind the last one none -/
def tokAt (L : List Tok) (e i : Nat) : Tok := L.getD i ⟨0, [], e, e⟩
theorem nx_tok (L : List Tok) (e i : Nat) : (nx ((ab L).drop i)).kind = (tokAt L e i).kind ∧ (nx ((ab L).drop i)).text = (tokAt L e i).text := by
  induction L generalizing i with
  | nil => simp [ab, nx, tokAt, K0]
  | cons a L ih =>
    cases i with
    | zero => cases L <;> simp [ab, nx, tokAt]
    | succ i =>
      have h1 : (ab (a :: L)).drop (i + 1) = (ab L).drop i := by cases L <;> simp [ab]
      rw [h1]; simpa [tokAt] using ih i
theorem ab_len (L : List Tok) : (ab L).length = L.length := by
  induction L with
  | nil => rfl
  | cons a L ih => cases L <;> simp_all [ab]
theorem nx_near (L : List Tok) (e i : Nat) (hi : i + 1 < L.length) : (nx ((ab L).drop i)).near = nearB (tokAt L e i) (tokAt L e (i + 1)) := by
  induction L generalizing i with
  | nil => simp at hi
  | cons a L ih =>
    cases i with
    | zero =>
      cases L with
      | nil => simp at hi
      | cons b L => simp [ab, nx, tokAt]
    | succ i =>
      have h1 : (ab (a :: L)).drop (i + 1) = (ab L).drop i := by cases L <;> simp [ab]
      rw [h1]; simpa [tokAt] using ih i (by simpa using hi)
theorem nx_nil (L : List Tok) (i : Nat) (h : L.length ≤ i) : nx ((ab L).drop i) = K0 := by
  rw [List.drop_eq_nil_of_le (by rw [ab_len]; exact h)]; rfl
theorem lt_of_kind {L : List Tok} {e i : Nat} (h : (tokAt L e i).kind ≠ 0) : i < L.length := by
  rcases Nat.lt_or_ge i L.length with h1 | h1
  · exact h1
  · exfalso; apply h; simp [tokAt, List.getElem?_eq_none h1]

/-! ### what the functions give -/
end Go.Proofs.Ytjccohcigopdfaa.rd
end
section
/- The program's reader: next, here, isMark, passes, expect. -/
namespace Go.Proofs.Ytjccohcigopdfaa.rd
open Go.RowKit
open Go.Proofs.Ytjccohcigopdfaa.op (bs strC Both Tb)
open Go.Proofs.Ytjccohcigopdfaa.lx (Tok Tk tcell tcells cell_at)
set_option maxRecDepth 20000

theorem term_info : (Try.prog.info? 25).map (·.size) = some 4 := by kernel_rfl
theorem tok_info : (Try.prog.info? 73).map (·.size) = some 4 := by kernel_rfl
theorem set4 {W : World} {g : Nat} {t : TypeId} {a0 a1 a2 a3 : Value} (h : W.heap[g]? = some (.cells #[a0, a1, a2, a3] t (0, 0))) (a b c d : Value) :
    ((((W.setCell ⟨g, 0, none⟩ a).setCell ⟨g, 1, none⟩ b).setCell ⟨g, 2, none⟩ c).setCell ⟨g, 3, none⟩ d).heap[g]? = some (.cells #[a, b, c, d] t (0, 0)) :=
  heap_set_at (heap_set_at (heap_set_at (heap_set_at h)))
theorem cells4 {W : World} {g : Nat} {t : TypeId} {a b c d : Value} (h : W.heap[g]? = some (.cells #[a, b, c, d] t (0, 0))) :
    W.cell? ⟨g, 0, none⟩ = some a ∧ W.cell? ⟨g, 1, none⟩ = some b ∧ W.cell? ⟨g, 2, none⟩ = some c ∧ W.cell? ⟨g, 3, none⟩ = some d ∧ ∀ j, W.frozen? ⟨g, j, none⟩ = false :=
  ⟨by rw [cell_at h]; rfl, by rw [cell_at h]; rfl, by rw [cell_at h]; rfl, by rw [cell_at h]; rfl, fun j => by simp [World.frozen?, h]⟩
theorem ret_tok {fn : Func} {p : Tmp} (h : fn.results = #[.cell p 73]) (tmps : Array Value) (w : World) {g : Nat} {a b c d : Value} (hp : tmps.getD p undef = .pointer (some ⟨g, 0, none⟩)) (hg : w.heap[g]? = some (.cells #[a, b, c, d] 73 (0, 0))) :
    (results fn tmps).run Try.prog w = .ok (.agg #[a, b, c, d]) w := results_cell_row h tmps w g _ _ _ _ hp hg Try.underlying73 rfl tok_info
theorem ret_term {fn : Func} {p : Tmp} (h : fn.results = #[.cell p 25]) (tmps : Array Value) (w : World) {g : Nat} {a b c d : Value} (hp : tmps.getD p undef = .pointer (some ⟨g, 0, none⟩)) (hg : w.heap[g]? = some (.cells #[a, b, c, d] 25 (0, 0))) :
    (results fn tmps).run Try.prog w = .ok (.agg #[a, b, c, d]) w := results_cell_row h tmps w g _ _ _ _ hp hg Try.underlying25 rfl term_info
theorem field_k (a b c d : Value) (w : World) : (Instr.field 73 (.agg #[a, b, c, d]) 0).run Try.prog w = .ok a w := by kernel_rfl
theorem field_x (a b c d : Value) (w : World) : (Instr.field 73 (.agg #[a, b, c, d]) 1).run Try.prog w = .ok b w := by kernel_rfl
theorem field_f (a b c d : Value) (w : World) : (Instr.field 73 (.agg #[a, b, c, d]) 2).run Try.prog w = .ok c w := by kernel_rfl

def tokV (t : Tok) : Value := .agg #[.int .i64 (t.kind : Nat), .string (bs t.text), .int .i64 (t.frm : Nat), .int .i64 (t.to : Nat)]
theorem below4 {B g : Nat} {w W : World} (h : Below B w W) (hg : B ≤ g) (a b c d : Value) : Below B w ((((W.setCell ⟨g, 0, none⟩ a).setCell ⟨g, 1, none⟩ b).setCell ⟨g, 2, none⟩ c).setCell ⟨g, 3, none⟩ d) :=
  (((h.setCell (p := ⟨g, 0, none⟩) hg _).setCell (p := ⟨g, 1, none⟩) hg _).setCell (p := ⟨g, 2, none⟩) hg _).setCell (p := ⟨g, 3, none⟩) hg _
theorem below_drawn (B : Nat) (w : World) (k : Nat) : Below B w (w.drewN k) := ⟨rfl, rfl, rfl, Nat.le_refl _, fun _ _ => rfl⟩
end Go.Proofs.Ytjccohcigopdfaa.rd
end
section
/- The program's reader: expect, atom, compound, infix, mayBegin. -/
namespace Go.Proofs.Ytjccohcigopdfaa.rd
open Go.RowKit
open Go.Proofs.Ytjccohcigopdfaa.op (bs strC Both Tb progI progP tupI)
open Go.Proofs.Ytjccohcigopdfaa.lx (Tok Tk tcell tcells cell_at ieq_yes ieq_no)
set_option maxRecDepth 20000

theorem both_low {w w' : World} (_ : Both w) (_ : Below 0 w w') : Both w' := trivial
end Go.Proofs.Ytjccohcigopdfaa.rd
end
section
/- The program's reader: integer, variable. -/
namespace Go.Proofs.Ytjccohcigopdfaa.rd
open Go.RowKit
open Go.Proofs.Ytjccohcigopdfaa.op (bs strC Both Tb progI progP tupI)
open Go.Proofs.Ytjccohcigopdfaa.lx (Tok Tk tcell tcells cell_at ieq_yes ieq_no)
open Go.Proofs.Ytjccohcigopdfaa.tx (parseV parseE)
set_option maxRecDepth 20000

theorem trim_eq (l : List UInt8) : Lib.trimLeftB l 48 = trim l := rfl
theorem tokAt_text {L : List Tok} {e i : Nat} (h : Good L) : (tokAt L e i).text.length ≤ 4096 := by
  unfold tokAt
  rcases Nat.lt_or_ge i L.length with h1 | h1
  · simp [h1]; exact h.text _ (List.getElem_mem h1)
  · simp [List.getElem?_eq_none h1]
theorem trim_len (l : List UInt8) : (trim l).length ≤ l.length := (List.dropWhile_suffix _).length_le
/-- one token on, as the list of what is left -/
theorem tail_drop (l : List K) (i : Nat) : (l.drop i).tail = l.drop (i + 1) := by rw [List.tail_drop]
theorem bs_empty : bs [] = ⟨#[]⟩ := rfl
theorem bs_append (a b : List UInt8) : bs a ++ bs b = bs (a ++ b) := by unfold bs; apply ByteArray.ext; simp
theorem bs_isEmpty (d : List UInt8) : (bs d).toList.isEmpty = d.isEmpty := by
  rw [ByteArray.toList_eq]; rfl
/-- where the name stands among the names, or -1 -/
def idxV (nm : List (List UInt8)) (name : List UInt8) : Int := if nm.idxOf name = nm.length then -1 else ((nm.idxOf name : Nat) : Int)
theorem idx_eq (nm : List (List UInt8)) (name : List UInt8) : Lib.idxOfS ((nm.map bs).take nm.length) (bs name) = idxV nm name := by
  unfold idxV
  have hg : ∀ j, j < nm.length → (nm.map bs).getD j ByteArray.empty = bs (nm.getD j []) := fun j hj => by simp [hj]
  by_cases h : nm.idxOf name = nm.length
  · rw [if_pos h]
    refine Lib.idxOfS_miss _ _ _ fun j hj e => ?_
    rw [hg j hj, op.bs_inj] at e
    have hm : name ∈ nm := by rw [← e]; simp [hj]
    exact absurd h (by have := List.idxOf_lt_length_iff.2 hm; omega)
  · rw [if_neg h]
    have hle : nm.idxOf name ≤ nm.length := List.idxOf_le_length
    have hk : nm.idxOf name < nm.length := by omega
    refine Lib.idxOfS_hit _ _ _ _ hk (by simp) ?_ fun j hj e => ?_
    · rw [hg _ hk, op.bs_inj]; simp [hk]
    · rw [hg j (by omega), op.bs_inj] at e
      have h1 := List.not_of_lt_findIdx (xs := nm) (p := (· == name)) (i := j) hj
      simp at h1
      exact h1 (by simpa [show j < nm.length by omega] using e)
/-- one name more -/
theorem wpList_name {ops : Array Oper} {rest : List Oper} {o : Oper} {a : Act} {Q : Exit → Act → World → Prop} (hgd : o.guard = none) (s x : Operand)
    (ho : o.op = .call { callee := .builtin .append, args := #[s, x], argTypes := #[42, 42] })
    (B : Nat) (w : World) (v : Value) (z : List (List UInt8)) (t : List UInt8) (hs : a.eval s = v) (hown : w.ownsRow B 9 1 v z.length (strC (z.map bs)))
    (hx : a.eval x = .slice (some ⟨w.heap.size, 0, none⟩) 1 1) (hlen : z.length ≤ 100000) (hB : B ≤ w.heap.size)
    (h : ∀ g' cap' w', w'.ownsRow B 9 1 (.slice (some ⟨g', 0, none⟩) (z.length + 1) cap') (z ++ [t]).length (strC ((z ++ [t]).map bs)) → (w.alloc (.cells #[.string (bs t)] 9)).grownBy w' v.ownBlock →
      wpList Try.prog ops Q rest (a.put o.dst (.slice (some ⟨g', 0, none⟩) (z.length + 1) cap')) w') :
    wpList Try.prog ops Q (o :: rest) a (w.alloc (.cells #[.string (bs t)] 9)) := by
  obtain ⟨i0, hi, hz0, hz1, hz2⟩ := info_parts op.str_info
  have hb0 : (w.alloc (.cells #[.string (bs t)] 9)).heap[w.heap.size]? = some (.cells #[.string (bs t)] 9 (0, 0)) := heap_alloc_new w _
  refine wpList_append_own _ hgd s x 42 ho B 9 i0 (.string ⟨#[]⟩) 1 16 Try.underlying42 hi hz0 hz1 hz2 rfl (by decide) v z.length (strC (z.map bs)) hs (World.ownsRow.alloc hown _) ⟨w.heap.size, 0, none⟩ 1 1 [.string (bs t)] hx rfl ?_ ?_ ?_ ?_ ?_ ?_
  · intro j u hj
    rw [op.addr_add, cell_at hb0, ← Array.getElem?_toList]; exact hj
  · intro u hu; simp at hu; subst hu; rfl
  · unfold maxLen; omega
  · omega
  · show B ≤ (w.heap.push _).size; simp; omega
  · intro v' w' hown' hgr _
    have e1 : strC (z.map bs) ++ [.string (bs t)] = strC ((z ++ [t]).map bs) := by simp [strC]
    rw [e1] at hown'
    rcases hown'.2 with ⟨_, h2⟩ | ⟨g', cap', cur, h1, h2⟩
    · omega
    · subst h1
      refine h g' cap' w' ?_ hgr
      rw [List.length_append]; exact hown'
end Go.Proofs.Ytjccohcigopdfaa.rd
end
section
/- The program's reader: variable. -/
namespace Go.Proofs.Ytjccohcigopdfaa.rd
open Go.RowKit
open Go.Proofs.Ytjccohcigopdfaa.op (bs strC Both Tb progI progP tupI)
open Go.Proofs.Ytjccohcigopdfaa.lx (Tok Tk tcell tcells cell_at ieq_yes ieq_no)
set_option maxRecDepth 20000

theorem idxOf_le (nm : List (List UInt8)) (n : List UInt8) : nm.idxOf n ≤ nm.length := List.idxOf_le_length
theorem name_beq (n : List UInt8) : ((bs n).toList == [95]) = decide (n = [95]) := by
  rw [ByteArray.toList_eq]
  show (n == [95]) = _
  by_cases h : n = [95] <;> simp [h]
end Go.Proofs.Ytjccohcigopdfaa.rd
end
section
/- The program's reader: bracketed, row. -/
namespace Go.Proofs.Ytjccohcigopdfaa.rd
open Go.RowKit
open Go.Proofs.Ytjccohcigopdfaa.op (bs strC Both Tb progI progP tupI)
open Go.Proofs.Ytjccohcigopdfaa.lx (Tok Tk tcell tcells cell_at ieq_yes ieq_no)
set_option maxRecDepth 20000

theorem term_info3 : (Try.prog.info? 25).map (fun i => (i.zero, i.size, i.bytes)) = some (some (.agg #[.int .i64 0, .int .i64 0, .string ⟨#[]⟩, .slice none 0 0]), 4, 56) := by kernel_rfl
/-- a row of terms that may grow: its block g, and terms that lie in others -/
def Rw (D : Nat → Prop) (w : World) (g cap : Nat) (l : List T) : Prop :=
  ∃ az : List Value, w.ownsRow 0 25 4 (.slice (some ⟨g, 0, none⟩) l.length cap) l.length (tvs (l.zip az)) ∧ D g ∧ Rps (fun k => D k ∧ k ≠ g) w l az
theorem Rw.kept {D : Nat → Prop} {w w' : World} {g cap : Nat} {l : List T} (h : Rw D w g cap l) (hk : Kt 25 w w') : Rw D w' g cap l := by
  obtain ⟨az, h1, h2, h3⟩ := h
  exact ⟨az, own_kept h1 hk, h2, h3.kept hk⟩
theorem Rw.lt {D : Nat → Prop} {w : World} {g cap : Nat} {l : List T} (h : Rw D w g cap l) : g < w.heap.size := by
  obtain ⟨az, h1, _⟩ := h
  exact ((World.ownsRow.lt h1) g rfl).2
theorem Rw.imp {D D' : Nat → Prop} {w : World} {g cap : Nat} {l : List T} (h : Rw D w g cap l) (hd : ∀ k, k < w.heap.size → D k → D' k) : Rw D' w g cap l := by
  have hg := h.lt
  obtain ⟨az, h1, h2, h3⟩ := h
  exact ⟨az, h1, hd g hg h2, h3.imp fun k hk hh => ⟨hd k hk hh.1, hh.2⟩⟩
theorem Rw.one {D : Nat → Prop} {w : World} {t : T} {a : Value} (h : Rp (fun k => D k) w t a) (hD : D w.heap.size) : Rw D (w.alloc (.cells (tv t a).toArray 25)) w.heap.size 1 [t] := by
  refine ⟨[a], ⟨rfl, .inr ⟨w.heap.size, 1, (tv t a).toArray, rfl, Nat.zero_le _, heap_alloc_new w _, Nat.le_refl _, by unfold maxLen; omega, rfl, ?_⟩⟩, hD, Rps.one ?_⟩
  · simp [tvs, tv]
  · exact Rp.kept (Kt.alloc (Kt.refl _ _) _) (h.imp fun k hk hd => ⟨hd, by omega⟩)
theorem Rw.two {D : Nat → Prop} {w : World} {t u : T} {a c : Value} (h : Rp D w t a) (h2 : Rp D w u c) (hD : D w.heap.size) : Rw D (w.alloc (.cells (tv t a ++ tv u c).toArray 25)) w.heap.size 2 [t, u] := by
  refine ⟨[a, c], ⟨rfl, .inr ⟨w.heap.size, 2, (tv t a ++ tv u c).toArray, rfl, Nat.zero_le _, heap_alloc_new w _, Nat.le_refl _, by unfold maxLen; omega, rfl, ?_⟩⟩, hD, Rps.two ?_ ?_⟩
  · simp [tvs, tv]
  · exact Rp.kept (Kt.alloc (Kt.refl _ _) _) (h.imp fun k hk hd => ⟨hd, by omega⟩)
  · exact Rp.kept (Kt.alloc (Kt.refl _ _) _) (h2.imp fun k hk hd => ⟨hd, by omega⟩)
theorem Rw.block {D : Nat → Prop} {w : World} {g cap : Nat} {l : List T} (h : Rw D w g cap l) : D g ∧ ∃ cs, w.heap[g]? = some (.cells cs 25 (0, 0)) := by
  obtain ⟨az, h1, h2, _⟩ := h
  rcases h1.2 with ⟨h3, _⟩ | ⟨g', cap', cur, h3, _, h4, _⟩
  · cases h3
  · cases h3; exact ⟨h2, cur, h4⟩
/-- behind an append to a row of terms all else lies as it lay -/
theorem grown_kt {w w4 : World} {o : Obj} {g : Nat} {cs : Array Value} {t u : TypeId} (hg : w.heap[g]? = some (.cells cs u (0, 0))) (h : (w.alloc o).grownBy w4 (some g)) (hn : t ≠ u) : Kt t w w4 := fun k ds fr hk => by
  rw [h.block k (by have := lt_of hk; simp; omega) (fun e => by cases e; rw [hg] at hk; cases hk; exact hn rfl), Lib.alloc_old w _ k (lt_of hk)]; exact hk
theorem grown_below {w w4 : World} {o : Obj} {g B : Nat} (h : (w.alloc o).grownBy w4 (some g)) (hB : B ≤ g) (hw : B ≤ w.heap.size) : Below B w w4 :=
  ⟨h.os, h.tape, h.output, Nat.le_trans (by simp) h.size, fun k hk => by rw [h.block k (by simp; omega) (fun e => by cases e; omega), Lib.alloc_old w _ k (by omega)]⟩
/-- a row as the parts of a term -/
theorem Rw.cmp {D : Nat → Prop} {w : World} {g cap : Nat} {l : List T} (h : Rw D w g cap l) (s : List UInt8) : Rp D w (.cmp s l) (.slice (some ⟨g, 0, none⟩) l.length cap) := by
  obtain ⟨az, h1, h2, h3⟩ := h
  rw [Rp]
  exact ⟨az, h1, fun k hk => by cases hk; exact h2, h3.imp fun k _ hk => hk.1⟩
theorem zip_snoc {α β : Type} (l : List α) (m : List β) (a : α) (c : β) (h : m.length = l.length) : (l ++ [a]).zip (m ++ [c]) = l.zip m ++ [(a, c)] := by
  rw [List.zip_append h.symm]; rfl
/-- one term more -/
theorem wpList_term {ops : Array Oper} {rest : List Oper} {o : Oper} {A : Act} {Q : Exit → Act → World → Prop} (hgd : o.guard = none) (s x : Operand)
    (ho : o.op = .call { callee := .builtin .append, args := #[s, x], argTypes := #[23, 23] })
    (D : Nat → Prop) (w : World) (g cap : Nat) (l : List T) (t : T) (a : Value) (hs : A.eval s = .slice (some ⟨g, 0, none⟩) l.length cap) (hw : Rw D w g cap l) (hT : Rp (fun k => D k ∧ k ≠ g) w t a) (ha : a.oneCell' = true)
    (hD : ∀ k, w.heap.size ≤ k → D k) (hx : A.eval x = .slice (some ⟨w.heap.size, 0, none⟩) 1 1) (hlen : l.length ≤ 100000)
    (h : ∀ g' cap' w', Rw D w' g' cap' (l ++ [t]) → (w.alloc (.cells (tv t a).toArray 25)).grownBy w' (some g) →
      wpList Try.prog ops Q rest (A.put o.dst (.slice (some ⟨g', 0, none⟩) (l.length + 1) cap')) w') :
    wpList Try.prog ops Q (o :: rest) A (w.alloc (.cells (tv t a).toArray 25)) := by
  obtain ⟨i0, hi, hz0, hz1, hz2⟩ := info_parts term_info3
  have hb0 : (w.alloc (.cells (tv t a).toArray 25)).heap[w.heap.size]? = some (.cells (tv t a).toArray 25 (0, 0)) := heap_alloc_new w _
  obtain ⟨az, h1, h2, h3⟩ := hw
  have hg := ((World.ownsRow.lt h1) g rfl).2
  refine wpList_append_lies _ hgd s x 23 ho 0 25 i0 _ 4 56 Try.underlying23 hi hz0 hz1 hz2 rfl (by decide) (.slice (some ⟨g, 0, none⟩) l.length cap) l.length (tvs (l.zip az)) hs (World.ownsRow.alloc h1 _) ⟨w.heap.size, 0, none⟩ 1 1 (tv t a) hx rfl ?_ ?_ (by omega) ?_ ?_ (Nat.zero_le _) _ rfl ?_
  · intro j u hj
    rw [op.addr_add, cell_at hb0, ← Array.getElem?_toList]; exact hj
  · intro u hu; simp [tv] at hu; rcases hu with rfl | rfl | rfl | rfl <;> first | rfl | exact ha
  · unfold maxLen; omega
  · omega
  · intro g' cap' w' hown' hgr hat hlt
    refine h g' cap' w' ?_ hgr
    have e1 : tvs (l.zip az) ++ tv t a = tvs ((l ++ [t]).zip (az ++ [a])) := by rw [zip_snoc _ _ _ _ h3.len, tvs_append]; simp [tvs]
    rw [e1] at hown'
    have hkd : Kd (fun k => D k ∧ k ≠ g ∧ k < w.heap.size) 25 w w' := fun k cs fr hd hk => by
      rw [hgr.block k (by simp; omega) (fun e => hd.2.1 (by cases e; rfl)), Lib.alloc_old w _ k hd.2.2]; exact hk
    have hgg : g' = g ∨ g' = w.heap.size + 1 := by
      rcases hat with e | e
      · left; cases e; rfl
      · right; rw [e]; simp
    refine ⟨az ++ [a], by rw [List.length_append]; exact hown', ?_, ?_⟩
    · rcases hgg with rfl | rfl
      · exact h2
      · exact hD _ (by omega)
    · refine (Rps.append ((h3.imp (D' := fun k => D k ∧ k ≠ g ∧ k < w.heap.size) fun k hk hd => ⟨hd.1, hd.2, hk⟩).keptD hkd) (Rps.one ((hT.imp (D' := fun k => D k ∧ k ≠ g ∧ k < w.heap.size) fun k hk hd => ⟨hd.1, hd.2, hk⟩).keptD hkd))).imp fun k _ hd => ⟨hd.1, ?_⟩
      rcases hgg with rfl | rfl
      · exact hd.2.1
      · have := hd.2.2; omega
theorem Rp.shape {D : Nat → Prop} {w : World} {t : T} {a : Value} (h : Rp D w t a) : ∃ p n c, a = .slice p n c := by
  cases t with
  | leaf k n s => rw [Rp] at h; exact ⟨_, _, _, h⟩
  | cmp s l =>
    rw [Rp] at h
    obtain ⟨az, h1, _⟩ := h
    rcases h1.2 with ⟨h1, h2⟩ | ⟨g', cap, cur, h1, _⟩ <;> exact ⟨_, _, _, h1⟩
theorem rowGo_no (x : W) (f : Nat) (l : List T) (s : St) (h : isM (nx s.1) [44] = false) : rowGo x f l s = .ok (l, s) := by
  cases f with
  | zero => rfl
  | succ f => rw [rowGo, h]; rfl
theorem rowGo_err (x : W) (f : Nat) (l : List T) (s : St) {k : Nat} (h : isM (nx s.1) [44] = true) (hx : x 999 (s.1.tail, s.2) = .error k) : rowGo x (f + 1) l s = .error k := by
  rw [rowGo, if_pos h, hx]
theorem rowGo_yes (x : W) (f : Nat) (l : List T) (s : St) {t : T} {s' : St} (h : isM (nx s.1) [44] = true) (hx : x 999 (s.1.tail, s.2) = .ok (t, s')) : rowGo x (f + 1) l s = rowGo x f (l ++ [t]) s' := by
  rw [rowGo, if_pos h, hx]
theorem isM_lt {L : List Tok} {i : Nat} {m : List UInt8} (h : isM (nx ((ab L).drop i)) m = true) : i < L.length := by
  rcases Nat.lt_or_ge i L.length with h1 | h1
  · exact h1
  · rw [nx_nil L i h1] at h; simp [isM, K0] at h

theorem size_alloc (w : World) (o : Obj) : (w.alloc o).heap.size = w.heap.size + 1 := by simp
end Go.Proofs.Ytjccohcigopdfaa.rd
end
