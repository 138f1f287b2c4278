/- The reference: Quote.; The law's same: whether two rows of tokens are one.; What the laws lean on: both Tokens, as tokens, place and error.; LexQuotes: its walk.; LexBetween: its walk.; What the tokens of a text are like: what the readers lean on.; What the marks of a text are.; The reference's Read.; The program's Read, ended, One.; The errors of a row of tokens: none of them is 0.; The program's ended, One. -/
import Derived.Test.YtjccohcigopdfaaQ12
import Derived.Test.YtjccohcigopdfaaQ14
import Derived.Laws.StructEq
import Derived.Test.YtjccohcigopdfaaQ3
import Derived.Test.YtjccohcigopdfaaQ4
import Derived.Test.YtjccohcigopdfaaQ11
import Derived.Deep.RegionHeld3
set_option linter.unusedVariables false
set_option linter.unusedSimpArgs false
section
/- The reference: Quote. -/
namespace Go.Proofs.Ytjccohcigopdfaa.lx
open Go.RowKit

theorem start_err {M : Nat} {ts : List Tok} {n p e : Nat} {b : UInt8} (h : start M ts n b = .bad p e) : e ≠ 0 := by
  unfold start at h
  repeat' split at h
  all_goals first | (cases h; done) | (cases h; decide) | (obtain ⟨a, c, hc⟩ := opening_go ts n b; rw [hc] at h; cases h)
theorem step_err {M : Nat} {ts : List Tok} {n p e : Nat} {b : UInt8} {m : Mode} (h : step M ts n b m = .bad p e) : e ≠ 0 := by
  cases m <;> simp only [step] at h
  case btw => exact start_err h
  all_goals (repeat' split at h)
  all_goals first | exact start_err h | (cases h; done) | (cases h; decide)
theorem ans_err {M : Nat} : ∀ (l : List UInt8) (ts : List Tok) (n : Nat) (m : Mode) (p e : Nat), ans M l ts n m = .bad p e → e ≠ 0 := by
  intro l
  induction l with
  | nil =>
    intro ts n m p e h
    cases m <;> simp only [ans_nil, fin] at h
    case slash f => split at h <;> cases h; decide
    all_goals first | (cases h; done) | (cases h; decide)
  | cons b l ih =>
    intro ts n m p e h
    rw [ans_cons] at h
    cases hs : step M ts n b m with
    | go ts' m' => rw [hs] at h; exact ih _ _ _ _ _ h
    | bad q j => rw [hs] at h; cases h; exact step_err hs
theorem okL_snoc (l : List UInt8) (b : UInt8) : okL (l ++ [b]) = (okL l && okB b) := by simp [okL]
theorem okL_no {s : ByteArray} {m : Nat} (hm : m < s.size) (h : okB (bA s m) = false) : okL s.data.toList = false := by
  have hz : s.data.toList.length = s.size := by simp
  have e : bA s m = s.data.toList[m]'(by omega) := by
    unfold bA; rw [List.getD_eq_getElem?_getD, List.getElem?_eq_getElem (by omega)]; rfl
  cases hok : okL s.data.toList with
  | false => rfl
  | true =>
    have := List.all_eq_true.1 hok _ (List.getElem_mem (show m < s.data.toList.length by omega))
    rw [← e, h] at this; cases this
theorem take_snoc {s : ByteArray} {m : Nat} (hlt : m < s.size) : s.data.toList.take (m + 1) = s.data.toList.take m ++ [bA s m] := by
  have hz : s.data.toList.length = s.size := by simp
  rw [List.take_succ_eq_append_getElem (by omega)]
  unfold bA
  rw [List.getD_eq_getElem?_getD, List.getElem?_eq_getElem (by omega)]; rfl

end Go.Proofs.Ytjccohcigopdfaa.lx
end
section
/- The law's same: whether two rows of tokens are one. -/
namespace Go.Proofs.Ytjccohcigopdfaa.lx
open Go.RowKit

theorem tok_neq (a b : Tok) (w : World) :
    (binOp .neq 73 (.agg #[.int .i64 (a.kind : Nat), .string ⟨a.text.toArray⟩, .int .i64 (a.frm : Nat), .int .i64 (a.to : Nat)]) (.agg #[.int .i64 (b.kind : Nat), .string ⟨b.text.toArray⟩, .int .i64 (b.frm : Nat), .int .i64 (b.to : Nat)])).run Try.prog w = .ok (.bool (!decide (a = b))) w := by
  rw [run_neq_struct, run_equalIn_agg w 9999 73 _ _ (by kernel_rfl) (by kernel_rfl)]
  simp [go_sem, Try.underlying73]
  obtain ⟨k, x, f, e⟩ := a
  obtain ⟨k', x', f', e'⟩ := b
  simp only [Tok.mk.injEq]
  by_cases h1 : k = k'
  · by_cases h2 : x = x'
    · by_cases h3 : f = f'
      · by_cases h4 : e = e'
        · simp [h1, h2, h3, h4]
        · have : (e : Int) ≠ e' := by omega
          simp [h1, h2, h3, h4, this]
      · have : (f : Int) ≠ f' := by omega
        simp [h1, h2, h3, this]
    · simp [h1, h2]
  · have : (k : Int) ≠ k' := by omega
    simp [h1, this]

/-- what same is asked of: a slice that holds these tokens -/
def Row (w : World) (v : Value) (ts : List Tok) : Prop := ∃ B, Tk B w v ts
theorem Row.of {B : Nat} {w : World} {v : Value} {ts : List Tok} (h : Tk B w v ts) : Row w v ts := ⟨B, h⟩
theorem take_eq_snoc {a b : List Tok} {m : Nat} (ha : m < a.length) (hb : m < b.length) (h : a.take m = b.take m) (he : a[m] = b[m]) : a.take (m + 1) = b.take (m + 1) := by
  rw [List.take_succ_eq_append_getElem ha, List.take_succ_eq_append_getElem hb, h, he]

end Go.Proofs.Ytjccohcigopdfaa.lx
end
section
/- What the laws lean on: both Tokens, as tokens, place and error. -/
namespace Go.Proofs.Ytjccohcigopdfaa.lx
open Go.RowKit

def outToks : Out → List Tok
  | .ok ts => ts
  | .bad _ _ => []
def outP : Out → Nat
  | .ok _ => 0
  | .bad p _ => p
def outE : Out → Nat
  | .ok _ => 0
  | .bad _ e => e
/-- the answer o, in memory of its own: tokens, place, error -/
def ToksQ (o : Out) (w : World) (e : Ending) (w' : World) : Prop :=
  ∃ v, e = .returned (.tuple #[v, .int .i64 (outP o : Nat), .int .i64 (outE o : Nat)]) ∧ Tk w.heap.size w' v (outToks o) ∧ Below w.heap.size w w'
theorem toksQ {o : Out} {w : World} {e : Ending} {w' : World} (h : ToksP o w e w') : ToksQ o w e w' := by
  obtain ⟨v, p, k, rfl, hG, hb⟩ := h
  cases o with
  | ok ts => obtain ⟨h1, rfl, rfl⟩ := hG; exact ⟨v, rfl, h1, hb⟩
  | bad q j => obtain ⟨rfl, rfl, rfl⟩ := hG; exact ⟨_, rfl, Tk.nil _ _, hb⟩
set_option maxRecDepth 100000 in
/-- the reference: Tokens -/
theorem rtoks (s : ByteArray) (w : World) (hz : s.size ≤ 9223372036854775807) : Calls Try.prog 46 #[.string s] w (ToksQ (toksD s.data.toList) w) := by
  have hl : s.data.toList.length = s.size := by simp
  unfold toksD
  rw [hl]
  by_cases hs : s.size > 4096
  · rw [if_pos hs]
    clear hl
    go_enter Try.func46, Try.ntmps46
    go_wp2
    go_ret3
    exact ⟨_, rfl, Tk.nil _ _, Below.refl _ _⟩
  · rw [if_neg hs]
    exact (rtoks_c s w (by omega)).mono fun _ _ h => toksQ h
/-- no more tokens than there may be -/
theorem step_many {ts ts' : List Tok} {n : Nat} {b : UInt8} {m m' : Mode} (h : step 1000 ts n b m = .go ts' m') (hl : ts.length + pend m ≤ 1000) : ts'.length + pend m' ≤ 1000 := by
  have hop : ∀ (T : List Tok), opening T n b = .go ts' m' → T.length < 1000 → ts'.length + pend m' ≤ 1000 := fun T ho hT => by
    unfold opening at ho
    repeat' split at ho
    all_goals (cases ho; simp [pend]; omega)
  have hst : ∀ (T : List Tok), start 1000 T n b = .go ts' m' → T.length ≤ 1000 → ts'.length + pend m' ≤ 1000 := fun T hs hT => by
    unfold start at hs
    split at hs
    · cases hs; simpa [pend] using hT
    split at hs
    · cases hs; simpa [pend] using hT
    split at hs
    · cases hs; simpa [pend] using hT
    split at hs
    · cases hs
    split at hs
    · cases hs
    · exact hop T hs (by omega)
  have hsn : ∀ (t : Tok), ts.length + 1 ≤ 1000 → start 1000 (ts ++ [t]) n b = .go ts' m' → ts'.length + pend m' ≤ 1000 := fun t h1 hs => hst _ hs (by simpa using h1)
  cases m with
  | btw => exact hst ts h (by simpa [pend] using hl)
  | line => simp only [step] at h; split at h <;> cases h <;> simpa [pend] using hl
  | slash f =>
    simp only [step] at h
    simp only [pend] at hl
    split at h
    · cases h; simpa [pend] using hl
    split at h
    · cases h
    split at h
    · cases h; simp [pend]; omega
    · exact hsn _ (by omega) h
  | dot f =>
    simp only [step] at h
    split at h
    · cases h; exact hl
    · exact hsn _ hl h
  | rem f => simp only [step] at h; split at h <;> cases h <;> simpa [pend] using hl
  | star f => simp only [step] at h; (repeat' split at h) <;> cases h <;> simpa [pend] using hl
  | word c f acc =>
    simp only [step] at h
    split at h
    · cases h; exact hl
    · exact hsn _ hl h
  | quo f acc => simp only [step] at h; (repeat' split at h) <;> cases h <;> exact hl
  | quoq f acc =>
    simp only [step] at h
    split at h
    · cases h; exact hl
    · exact hsn _ hl h
  | esc f acc => simp only [step] at h; (repeat' split at h) <;> cases h <;> exact hl
theorem ans_many {out : List Tok} : ∀ (l : List UInt8) (ts : List Tok) (n : Nat) (m : Mode), ts.length + pend m ≤ 1000 → ans 1000 l ts n m = .ok out → out.length ≤ 1000 := by
  intro l
  induction l with
  | nil =>
    intro ts n m hl h
    cases m <;> simp only [ans_nil, fin] at h
    case slash f =>
      split at h <;> cases h
      simp [pend] at hl; simp; omega
    all_goals first | (cases h; done) | (cases h; simpa [pend] using hl)
  | cons b l ih =>
    intro ts n m hl h
    rw [ans_cons] at h
    cases hs : step 1000 ts n b m with
    | go ts' m' => rw [hs] at h; exact ih _ _ _ (step_many hs hl) h
    | bad p e => rw [hs] at h; cases h
theorem outToks_len (l : List UInt8) : (outToks (toksD l)).length ≤ 1000 := by
  unfold toksD
  split
  · exact Nat.zero_le _
  · unfold toks
    cases h : ans 1000 l [] 0 .btw with
    | ok ts => exact ans_many l [] 0 .btw (by simp [pend]) h
    | bad p e => exact Nat.zero_le _
theorem outToks_pl (l : List UInt8) : PlAll l (outToks (toksD l)) := by
  unfold toksD
  split
  · exact plAll_nil l
  · unfold toks
    cases h : ans 1000 l [] 0 .btw with
    | ok ts => exact places h
    | bad p e => exact plAll_nil l
theorem outE_toks (l : List UInt8) : outE (toksD l) = 0 ∨ (outToks (toksD l)).length = 0 := by
  cases toksD l with
  | ok ts => exact .inl rfl
  | bad p e => exact .inr rfl
end Go.Proofs.Ytjccohcigopdfaa.lx
end
section
/- LexQuotes: its walk. -/
namespace Go.Proofs.Ytjccohcigopdfaa.lx
open Go.RowKit

theorem toksD_small {l : List UInt8} (h : l.length ≤ 4096) : toksD l = toks l := by unfold toksD; rw [if_neg (by omega)]

end Go.Proofs.Ytjccohcigopdfaa.lx
end
section
/- LexBetween: its walk. -/
namespace Go.Proofs.Ytjccohcigopdfaa.lx
open Go.RowKit

theorem Tk.cut {B : Nat} {w : World} {a : Option Addr} {cap : Nat} {ts : List Tok} (h : Tk B w (.slice a ts.length cap) ts) {k : Nat} (hk : k ≤ ts.length) : Tk B w (.slice a k cap) (ts.take k) := by
  have hl : (ts.take k).length = k := by rw [List.length_take]; omega
  have ht : tcells (ts.take k) = (tcells ts).take (k * 4) := by
    have h1 := tcells_append (ts.take k) (ts.drop k)
    rw [List.take_append_drop] at h1
    have h2 : (tcells (ts.take k)).length = k * 4 := by rw [tcells_len, hl]
    rw [h1, ← h2, List.take_left]
  unfold Tk
  rw [hl]
  refine ⟨by rw [tcells_len, hl], ?_⟩
  rcases h.2 with ⟨h1, h2⟩ | ⟨g, cap', cur, h1, h2, h3, h4, h5, h6, h7⟩
  · left
    simp at h1
    obtain ⟨rfl, _, rfl⟩ := h1
    have : k = 0 := by omega
    subst this
    exact ⟨rfl, rfl⟩
  · right
    simp at h1
    obtain ⟨rfl, rfl⟩ := h1
    refine ⟨g, cap, cur, rfl, h2, h3, by omega, h5, h6, ?_⟩
    rw [ht, ← h7, List.take_take, Nat.min_eq_left (by omega)]
theorem oT_ok (ts : List Tok) : outToks (.ok ts) = ts := rfl
theorem oE_ok (ts : List Tok) : outE (.ok ts) = 0 := rfl
theorem oP_ok (ts : List Tok) : outP (.ok ts) = 0 := rfl
theorem outE_ok {l : List UInt8} (h : outE (toksD l) = 0) : ∃ A, toksD l = .ok A := by
  cases ho : toksD l with
  | ok A => exact ⟨A, rfl⟩
  | bad p e =>
    rw [ho] at h
    exfalso
    unfold toksD at ho
    split at ho
    · cases ho; exact absurd h (by decide)
    · exact ans_err _ _ _ _ _ _ ho h
theorem cat_data (a b : ByteArray) : (a ++ b).data.toList = a.data.toList ++ b.data.toList := by
  show (a.append b).data.toList = _
  simp

end Go.Proofs.Ytjccohcigopdfaa.lx
end
section
/- What the tokens of a text are like: what the readers lean on. -/
namespace Go.Proofs.Ytjccohcigopdfaa.lx


def KG (t : Tok) : Prop := (t.kind = 3 → t.text ≠ []) ∧ 1 ≤ t.kind ∧ t.kind ≤ 6
def MG : Mode → Prop
  | .word _ _ acc => acc ≠ []
  | _ => True
theorem kg_snoc {ts : List Tok} {t : Tok} (h : ∀ x ∈ ts, KG x) (ht : KG t) : ∀ x ∈ ts ++ [t], KG x := fun x hx => by
  rcases List.mem_append.1 hx with h1 | h1
  · exact h x h1
  · rw [List.mem_singleton] at h1; subst h1; exact ht
theorem opening_kg {ts ts' : List Tok} {n : Nat} {b : UInt8} {m' : Mode} (h : opening ts n b = .go ts' m') (hg : ∀ x ∈ ts, KG x) : (∀ x ∈ ts', KG x) ∧ MG m' := by
  unfold opening at h
  split at h
  · cases h; exact ⟨hg, trivial⟩
  split at h
  · cases h; exact ⟨kg_snoc hg ⟨fun _ => by simp, by simp, by simp⟩, trivial⟩
  split at h
  · cases h
    refine ⟨kg_snoc hg ?_, trivial⟩
    unfold KG
    split <;> exact ⟨fun _ => by simp, by simp, by simp⟩
  split at h
  · cases h; exact ⟨hg, trivial⟩
  · cases h; exact ⟨hg, by simp [MG]⟩
theorem start_kg {M : Nat} {ts ts' : List Tok} {n : Nat} {b : UInt8} {m' : Mode} (h : start M ts n b = .go ts' m') (hg : ∀ x ∈ ts, KG x) : (∀ x ∈ ts', KG x) ∧ MG m' := by
  unfold start at h
  split at h
  · cases h; exact ⟨hg, trivial⟩
  split at h
  · cases h; exact ⟨hg, trivial⟩
  split at h
  · cases h; exact ⟨hg, trivial⟩
  split at h
  · cases h
  split at h
  · cases h
  · exact opening_kg h hg
theorem kind_kg (c : Nat) (acc : List UInt8) (f n : Nat) (h : acc ≠ []) : KG ⟨kindOf c, acc, f, n⟩ := by
  refine ⟨fun _ => h, ?_⟩
  show 1 ≤ kindOf c ∧ kindOf c ≤ 6
  unfold kindOf
  split
  · decide
  · split <;> decide
theorem atom_kg (acc : List UInt8) (f n : Nat) : KG ⟨1, acc, f, n⟩ := ⟨fun h => absurd h (by simp), by simp, by simp⟩
theorem step_kg {M : Nat} {ts ts' : List Tok} {n : Nat} {b : UInt8} {m m' : Mode} (h : step M ts n b m = .go ts' m') (hg : ∀ x ∈ ts, KG x) (hm : MG m) : (∀ x ∈ ts', KG x) ∧ MG m' := by
  cases m with
  | btw => exact start_kg h hg
  | line => simp only [step] at h; split at h <;> cases h <;> exact ⟨hg, trivial⟩
  | slash f =>
    simp only [step] at h
    split at h
    · cases h; exact ⟨hg, trivial⟩
    split at h
    · cases h
    split at h
    · cases h; exact ⟨hg, by simp [MG]⟩
    · exact start_kg h (kg_snoc hg (atom_kg _ _ _))
  | dot f =>
    simp only [step] at h
    split at h
    · cases h; exact ⟨hg, by simp [MG]⟩
    · refine start_kg h (kg_snoc hg ?_)
      unfold KG
      split <;> exact ⟨fun _ => by simp, by simp, by simp⟩
  | rem f => simp only [step] at h; split at h <;> cases h <;> exact ⟨hg, trivial⟩
  | star f => simp only [step] at h; (repeat' split at h) <;> cases h <;> exact ⟨hg, trivial⟩
  | word c f acc =>
    simp only [step] at h
    split at h
    · cases h; exact ⟨hg, by simp [MG]⟩
    · exact start_kg h (kg_snoc hg (kind_kg _ _ _ _ hm))
  | quo f acc => simp only [step] at h; (repeat' split at h) <;> cases h <;> exact ⟨hg, trivial⟩
  | quoq f acc =>
    simp only [step] at h
    split at h
    · cases h; exact ⟨hg, trivial⟩
    · exact start_kg h (kg_snoc hg (atom_kg _ _ _))
  | esc f acc => simp only [step] at h; (repeat' split at h) <;> cases h <;> exact ⟨hg, trivial⟩
theorem ans_kg {M : Nat} {out : List Tok} : ∀ (l : List UInt8) (ts : List Tok) (n : Nat) (m : Mode), (∀ x ∈ ts, KG x) → MG m → ans M l ts n m = .ok out → ∀ x ∈ out, KG x := by
  intro l
  induction l with
  | nil =>
    intro ts n m hg hm h
    cases m <;> simp only [ans_nil, fin] at h
    case slash f =>
      split at h <;> cases h
      exact kg_snoc hg (atom_kg _ _ _)
    case dot f => cases h; exact kg_snoc hg ⟨fun h => absurd h (by simp), by simp, by simp⟩
    case word c f acc => cases h; exact kg_snoc hg (kind_kg _ _ _ _ hm)
    case quoq f acc => cases h; exact kg_snoc hg (atom_kg _ _ _)
    all_goals first | (cases h; done) | (cases h; exact hg)
  | cons b l ih =>
    intro ts n m hg hm h
    rw [ans_cons] at h
    cases hs : step M ts n b m with
    | go ts' m' => rw [hs] at h; obtain ⟨h1, h2⟩ := step_kg hs hg hm; exact ih _ _ _ h1 h2 h
    | bad p e => rw [hs] at h; cases h
theorem good_toks (l : List UInt8) : Go.Proofs.Ytjccohcigopdfaa.rd.Good (outToks (toksD l)) := by
  have hp := outToks_pl l
  have hl := outToks_len l
  have hk : ∀ x ∈ outToks (toksD l), KG x := by
    unfold toksD
    split
    · intro x hx; cases hx
    · unfold toks
      cases h : ans 1000 l [] 0 .btw with
      | ok ts => exact ans_kg l [] 0 .btw (by simp) trivial h
      | bad p e => intro x hx; cases hx
  have hs : (outToks (toksD l)).length ≠ 0 → l.length ≤ 4096 := by
    unfold toksD
    split
    · intro h; exact absurd rfl h
    · intro _; omega
  have key : ∀ x ∈ outToks (toksD l), x.text.length ≤ 4096 ∧ x.frm ≤ 4096 ∧ x.to ≤ 4096 := fun x hx => by
    obtain ⟨i, hi, rfl⟩ := List.mem_iff_getElem.1 hx
    obtain ⟨_, h2, h3, h4, h5⟩ := hp i hi
    have := hs (by omega)
    refine ⟨?_, by omega, by omega⟩
    by_cases hq : l.getD (outToks (toksD l))[i].frm 0 = 39
    · have := h5 hq; omega
    · rw [← h4 hq, List.length_drop, List.length_take]; omega
  exact ⟨hl, fun x hx => (key x hx).1, fun x hx => (key x hx).2.1, fun x hx => (key x hx).2.2, fun x hx => (hk x hx).1, fun x hx => (hk x hx).2⟩
theorem outE_bad {l : List UInt8} {p k : Nat} (h : toksD l = .bad p k) : k ≠ 0 := fun hk => by
  obtain ⟨A, hA⟩ := outE_ok (l := l) (by rw [h]; exact hk)
  rw [h] at hA; cases hA
end Go.Proofs.Ytjccohcigopdfaa.lx
end
section
/- What the marks of a text are. -/
namespace Go.Proofs.Ytjccohcigopdfaa.lx

def KM (t : Tok) : Prop := t.kind = 5 → t.text ∈ rr.marks
theorem km_snoc {ts : List Tok} {t : Tok} (h : ∀ x ∈ ts, KM x) (ht : KM t) : ∀ x ∈ ts ++ [t], KM x := fun x hx => by
  rcases List.mem_append.1 hx with h1 | h1
  · exact h x h1
  · rw [List.mem_singleton] at h1; subst h1; exact ht
theorem cl8 : ∀ b : UInt8, cl b = 8 → [b] ∈ rr.marks := by
  intro b
  have h : ∀ n, n < 256 → cls n = 8 → [n.toUInt8] ∈ rr.marks := by decide +kernel
  intro hb
  have := h b.toNat b.toNat_lt hb
  rwa [show b.toNat.toUInt8 = b from by simp] at this
theorem km_no {k : Nat} {x : List UInt8} {f n : Nat} (h : k ≠ 5) : KM ⟨k, x, f, n⟩ := fun e => absurd e h
theorem opening_km {ts ts' : List Tok} {n : Nat} {b : UInt8} {m' : Mode} (h : opening ts n b = .go ts' m') (hg : ∀ x ∈ ts, KM x) : ∀ x ∈ ts', KM x := by
  unfold opening at h
  split at h
  · cases h; exact hg
  split at h
  · cases h; exact km_snoc hg (km_no (by decide))
  split at h
  · rename_i h8
    cases h
    exact km_snoc hg fun _ => cl8 b h8
  split at h
  · cases h; exact hg
  · cases h; exact hg
theorem start_km {M : Nat} {ts ts' : List Tok} {n : Nat} {b : UInt8} {m' : Mode} (h : start M ts n b = .go ts' m') (hg : ∀ x ∈ ts, KM x) : ∀ x ∈ ts', KM x := by
  unfold start at h
  split at h
  · cases h; exact hg
  split at h
  · cases h; exact hg
  split at h
  · cases h; exact hg
  split at h
  · cases h
  split at h
  · cases h
  · exact opening_km h hg
theorem kind_km (c : Nat) (acc : List UInt8) (f n : Nat) : KM ⟨kindOf c, acc, f, n⟩ := km_no (by
  unfold kindOf
  split
  · decide
  · split <;> decide)
theorem step_km {M : Nat} {ts ts' : List Tok} {n : Nat} {b : UInt8} {m m' : Mode} (h : step M ts n b m = .go ts' m') (hg : ∀ x ∈ ts, KM x) : ∀ x ∈ ts', KM x := by
  cases m with
  | btw => exact start_km h hg
  | line => simp only [step] at h; split at h <;> cases h <;> exact hg
  | slash f =>
    simp only [step] at h
    split at h
    · cases h; exact hg
    split at h
    · cases h
    split at h
    · cases h; exact hg
    · exact start_km h (km_snoc hg (km_no (by decide)))
  | dot f =>
    simp only [step] at h
    split at h
    · cases h; exact hg
    · refine start_km h (km_snoc hg (km_no ?_))
      split <;> decide
  | rem f => simp only [step] at h; split at h <;> cases h <;> exact hg
  | star f => simp only [step] at h; (repeat' split at h) <;> cases h <;> exact hg
  | word c f acc =>
    simp only [step] at h
    split at h
    · cases h; exact hg
    · exact start_km h (km_snoc hg (kind_km _ _ _ _))
  | quo f acc => simp only [step] at h; (repeat' split at h) <;> cases h <;> exact hg
  | quoq f acc =>
    simp only [step] at h
    split at h
    · cases h; exact hg
    · exact start_km h (km_snoc hg (km_no (by decide)))
  | esc f acc => simp only [step] at h; (repeat' split at h) <;> cases h <;> exact hg
theorem ans_km {M : Nat} {out : List Tok} : ∀ (l : List UInt8) (ts : List Tok) (n : Nat) (m : Mode), (∀ x ∈ ts, KM x) → ans M l ts n m = .ok out → ∀ x ∈ out, KM x := by
  intro l
  induction l with
  | nil =>
    intro ts n m hg h
    cases m <;> simp only [ans_nil, fin] at h
    case slash f =>
      split at h <;> cases h
      exact km_snoc hg (km_no (by decide))
    case dot f => cases h; exact km_snoc hg (km_no (by decide))
    case word c f acc => cases h; exact km_snoc hg (kind_km _ _ _ _)
    case quoq f acc => cases h; exact km_snoc hg (km_no (by decide))
    all_goals first | (cases h; done) | (cases h; exact hg)
  | cons b l ih =>
    intro ts n m hg h
    rw [ans_cons] at h
    cases hs : step M ts n b m with
    | go ts' m' => rw [hs] at h; exact ih _ _ _ (step_km hs hg) h
    | bad p e => rw [hs] at h; cases h
theorem mark_toks (l : List UInt8) : ∀ x ∈ outToks (toksD l), x.kind = 5 → x.text ∈ rr.marks := by
  unfold toksD
  split
  · intro x hx; cases hx
  · unfold toks
    cases h : ans 1000 l [] 0 .btw with
    | ok ts => exact ans_km l [] 0 .btw (by simp) h
    | bad p e => intro x hx; cases hx
end Go.Proofs.Ytjccohcigopdfaa.lx
end
section
/- The reference's Read. -/
namespace Go.Proofs.Ytjccohcigopdfaa.rr
open Go.RowKit
open Go.Proofs.Ytjccohcigopdfaa.rd
open Go.Proofs.Ytjccohcigopdfaa.op (bs strC Both Tb bs_data)
open Go.Proofs.Ytjccohcigopdfaa.lx (Tok Tk Out toksD rtoks outToks outP outE tcell tcells cell_at ieq_yes ieq_no outE_bad good_toks mark_toks)
set_option maxRecDepth 20000

/-- how the loop stands: the reader r, the sentences v in blocks from a on -/
structure Zl (r a : Nat) (S : List UInt8) (tk : Value) (L : List Tok) (j : Nat) (v : Value) (l : List Sn) (w wr : World) : Prop where
  rd : ∃ b nv nm p, Rr r b S tk L j nv nm p 0 wr
  ss : Ss a wr v l
  bl : Below a w wr
  len : l.length ≤ j
  ar : a ≤ r
section
variable {r a j b p q : Nat} {S : List UInt8} {tk v nv : Value} {L : List Tok} {l : List Sn} {nm : List (List UInt8)} {w wr w2 : World}
theorem cells6 {B : Nat} {a0 a1 a2 a3 a4 a5 : Value} {t : TypeId} (h : w.heap[B]? = some (.cells #[a0, a1, a2, a3, a4, a5] t (0, 0))) (j : Nat) : w.cell? ⟨B, j, none⟩ = (#[a0, a1, a2, a3, a4, a5] : Array Value)[j]? := cell_at h j
/-- a new sentence: no names -/
theorem Zl.fresh (h : Zl r a S tk L j v l w wr) (hR : Rr r b S tk L j nv nm p 0 wr) : Rr r (wr.setCell ⟨r, 3, none⟩ (.slice none 0 0)).heap.size S tk L j (.slice none 0 0) [] p 0 (wr.setCell ⟨r, 3, none⟩ (.slice none 0 0)) ∧
    Ss a (wr.setCell ⟨r, 3, none⟩ (.slice none 0 0)) v l ∧ Below a w (wr.setCell ⟨r, 3, none⟩ (.slice none 0 0)) := by
  refine ⟨⟨by rw [heap_set_at hR.blk]; rfl, own_kept hR.toks (kt_set hR.blk (by decide)), World.ownsRow_nil _ _ _ _, hR.le, Nat.zero_le _,
    both_below hR.tb fun k hk => Below.heap_setCell _ _ _ _ (by have := hR.lo; show k ≠ r; omega), hR.lo, by have := hR.lt; simpa [World.setCell] using this, Nat.le_refl _, hR.good, hR.mks, hR.en⟩,
    h.ss.kept (kt_set hR.blk (by decide)) (kt_set hR.blk (by decide)) (kt_set hR.blk (by decide)), h.bl.setCell (p := ⟨r, 3, none⟩) h.ar _⟩
/-- a term has come -/
theorem Zl.got {t : T} {av nv6 : Value} {nm6 : List (List UInt8)} (hS : Ss a w2 v l) (hB : Below a w w2) (ha : a ≤ r) (hR : Rr r w2.heap.size S tk L j nv nm p 0 w2) {w6 : World} {i6 p6 k6 : Nat} (hF : Fr r w2.heap.size w2 w6) (hR6 : Rr r w2.heap.size S tk L i6 nv6 nm6 p6 k6 w6) (hT : Rp (fun k => w2.heap.size ≤ k) w6 t av) :
    Ss a w6 v l ∧ Below a w w6 ∧ Hg a w6 (t, nm6) (av, nv6) := by
  have hk : ∀ ty, ty ≠ 83 → Kt ty w2 w6 := fun ty hty k cs fr hk => by
    rw [hF.block k (lt_of hk) (fun e => by subst e; rw [hR.blk] at hk; cases hk; exact hty rfl) (.inl (lt_of hk))]; exact hk
  have hl := hR.lt
  have hz : a ≤ w2.heap.size := by omega
  exact ⟨hS.kept (hk _ (by decide)) (hk _ (by decide)) (hk _ (by decide)), hB.trans ((below hF hR).mono ha), hT.imp fun k _ hk => Nat.le_trans hz hk, World.ownsRow.mono hR6.names hz⟩
/-- one sentence more -/
theorem Zl.push {v' : Value} {w7 : World} {o : Obj} {t : Sn} {z : Value × Value} {zs : List (Value × Value)} (hR : Rr r b S tk L j nv nm p 0 w2) (hzs : zs.length = l.length) (hown : w2.ownsRow a 44 5 v l.length (scells (l.zip zs)))
    (hall : ∀ i (hi : i < l.length) (hz : i < zs.length), Hg a w2 l[i] zs[i]) (ht : Hg a w2 t z) (hgr : (w2.alloc o).grownBy w7 v.ownBlock) (hn : w7.ownsRow a 44 5 v' (l.length + 1) (scells (l.zip zs) ++ scell t z)) (hl : l.length + 1 ≤ j) (hb : Below a w w2) (ha : a ≤ r) (ha2 : 0 ≤ a) :
    Zl r a S tk L j v' (l ++ [t]) w w7 := by
  have hk := fun ty (hty : ty ≠ 44) => grown_ktv (t := ty) hown hgr hty
  have hlr := hR.lt
  have hbl := grown_belowv hown hgr (by omega)
  refine ⟨⟨b, nv, nm, p, hk _ (by decide) _ _ _ hR.blk, own_kept hR.toks (hk _ (by decide)), own_kept hR.names (hk _ (by decide)), hR.le, hR.nml, both_below hR.tb fun k hk => hbl.block k (by omega), hR.lo, hR.rb, Nat.le_trans hR.bz hbl.size, hR.good, hR.mks, hR.en⟩,
    ⟨zs ++ [z], by rw [List.length_append, List.length_append, hzs]; rfl, ?_, fun i hi hz => ?_⟩, hb.trans hbl, by rw [List.length_append, List.length_singleton]; omega, ha⟩
  · rw [List.length_append, List.length_singleton, ← scells_zip _ _ _ _ hzs]; exact hn
  · have hg : Hg a w2 (l ++ [t])[i] (zs ++ [z])[i] := by
      by_cases hil : i < l.length
      · rw [List.getElem_append_left hil, List.getElem_append_left (by omega)]; exact hall i hil (by omega)
      · have hie : i = l.length := by rw [List.length_append, List.length_singleton] at hi; omega
        subst hie
        simp [hzs]
        exact ht
    exact hg.kept (hk _ (by decide)) (hk _ (by decide))
theorem sent_ok {i6 : Nat} {nm6 : List (List UInt8)} {t : T} {n : Nat} (h : termP 65 1200 ((ab L).drop j, []) = .ok (t, ((ab L).drop i6, nm6))) (h6 : (tkAt L n i6).kind = 6) : sentP ((ab L).drop j) = .ok ((t, nm6), (ab L).drop (i6 + 1)) := by
  unfold sentP; rw [h]; rw [tkAt_kind] at h6; simp only [h6, if_true, tail_drop]
theorem sent_no {i6 : Nat} {nm6 : List (List UInt8)} {t : T} {n : Nat} (h : termP 65 1200 ((ab L).drop j, []) = .ok (t, ((ab L).drop i6, nm6))) (h6 : (tkAt L n i6).kind ≠ 6) : sentP ((ab L).drop j) = .error 50 := by
  unfold sentP; rw [h]; rw [tkAt_kind] at h6; simp only [h6, if_false]
theorem sent_bad {k : Nat} (h : termP 65 1200 ((ab L).drop j, []) = .error k) : sentP ((ab L).drop j) = .error k := by
  unfold sentP; rw [h]
end
theorem hgrD {W w7 : World} {o : Obj} {x : Option Nat} (h : (W.drew.alloc o).grownBy w7 x) : (W.alloc o).grownBy w7 x := ⟨h.os, h.tape, h.output, h.size, h.block⟩
theorem push_cells {r a b j p k B n : Nat} {S : List UInt8} {tk nv v : Value} {L : List Tok} {nm : List (List UInt8)} {xs : List Value} {x0 x1 x2 x3 : Value} {W w7 : World} {o : Obj} (hown : W.ownsRow a 44 5 v n xs) (hb : W.heap[B]? = some (.cells #[x0, x1, x2, x3] 25 (0, 0))) (hR : Rr r b S tk L j nv nm p k W) (hgr : (W.alloc o).grownBy w7 v.ownBlock) :
    w7.cell? ⟨B, 0, none⟩ = some x0 ∧ w7.cell? ⟨B, 1, none⟩ = some x1 ∧ w7.cell? ⟨B, 2, none⟩ = some x2 ∧ w7.cell? ⟨B, 3, none⟩ = some x3 ∧ w7.cell? ⟨r, 3, none⟩ = some nv := by
  have h1 := grown_ktv (t := 25) hown hgr (by decide) _ _ _ hb
  have h2 := grown_ktv (t := 83) hown hgr (by decide) _ _ _ hR.blk
  obtain ⟨y0, y1, y2, y3, _⟩ := cells4 h1
  exact ⟨y0, y1, y2, y3, by rw [cell_at h2]; rfl⟩
set_option maxHeartbeats 4000000 in
theorem rread_c (s : ByteArray) (w : World) (hb : Both w) (hp : 0 ≤ w.heap.size) (hz : s.size ≤ 9223372036854775807) :
    Calls Try.prog 41 #[.string s] w (NQ w (readP (toksD s.data.toList))) := by
  have kt := rtoks s w hz
  have hgd := good_toks s.data.toList
  have hmk := mark_toks s.data.toList
  have HB := Lib.hid hb
  have hll : s.data.toList.length = s.size := by simp
  have hbd := bs_data s
  rcases ho : toksD s.data.toList with ts | ⟨p, k⟩
  · rw [ho] at kt hgd hmk
    have hsz : s.size ≤ 4096 := by
      by_cases h : s.size ≤ 4096
      · exact h
      · unfold toksD at ho
        rw [if_pos (by simp; omega)] at ho; cases ho
    have hX0 : readP (.ok ts) = appE [] (sentsP ts.length ((ab ts).drop 0)) := by show sentsP ts.length (ab ts) = _; rw [List.drop_zero]; cases sentsP ts.length (ab ts) <;> rfl
    generalize readP (.ok ts) = X at hX0 ⊢
    have HX := Lib.hid hX0
    have Hgd := Lib.hid hgd
    have Hmk := Lib.hid hmk
    clear hb ho hX0 hgd hmk
    generalize hS : s.data.toList = S at *
    clear hS
    subst hbd
    go_enter Try.func41, Try.ntmps41
    go_wp2_with fail
    refine kt.mono ?_
    rintro en w1 ⟨v, rfl, hT, hb1⟩
    have hT2 := hT.mono (Nat.zero_le _)
    obtain ⟨va, vc, rfl⟩ := hT.shape
    have hs1 := hb1.size
    have HB1 := Lib.hid hb1
    have HT := Lib.hid hT2
    have hlen := Hgd.out.len
    clear kt hT hT2 hb1
    unfold outP outE
    rw [show outToks (Out.ok ts) = ts from rfl] at HT hlen ⊢
    have hW1 := (Below.refl w1.heap.size w1).alloc (Nat.le_refl _) (.cells #[.string (bs S), .slice va ts.length vc, .int .i64 0, .slice none 0 0, .int .i64 0, .int .i64 0] 83)
    have hW2 := hW1.alloc hW1.size (.cells #[] 44)
    have hb0 := heap_alloc_new w1 (.cells #[.string (bs S), .slice va ts.length vc, .int .i64 0, .slice none 0 0, .int .i64 0, .int .i64 0] 83)
    have hz0 := size_alloc w1 (.cells #[.string (bs S), .slice va ts.length vc, .int .i64 0, .slice none 0 0, .int .i64 0, .int .i64 0] 83)
    have hb1 := Lib.alloc_old (w1.alloc (.cells #[.string (bs S), .slice va ts.length vc, .int .i64 0, .slice none 0 0, .int .i64 0, .int .i64 0] 83)) (.cells #[] 44) w1.heap.size (by omega)
    have hb2 := heap_alloc_new (w1.alloc (.cells #[.string (bs S), .slice va ts.length vc, .int .i64 0, .slice none 0 0, .int .i64 0, .int .i64 0] 83)) (.cells #[] 44)
    rw [hz0] at hb2
    rw [hb0] at hb1
    have hz2 := size_alloc (w1.alloc (.cells #[.string (bs S), .slice va ts.length vc, .int .i64 0, .slice none 0 0, .int .i64 0, .int .i64 0] 83)) (.cells #[] 44)
    rw [hz0] at hz2
    have hsS : S.length ≤ 4096 := by omega
    change Hid (rd.Good ts) at Hgd
    change Hid (∀ x ∈ ts, x.kind = 5 → x.text ∈ marks) at Hmk
    have HZ := Lib.hid (show Zl w1.heap.size w.heap.size S (.slice va ts.length vc) ts 0 (.slice (some ⟨w1.heap.size + 1, 0, none⟩) 0 0) [] w ((w1.alloc (.cells #[.string (bs S), .slice va ts.length vc, .int .i64 0, .slice none 0 0, .int .i64 0, .int .i64 0] 83)).alloc (.cells #[] 44)) from
      ⟨⟨w1.heap.size + 1, .slice none 0 0, [], 0, hb1, own_kept HT.out (Kt.below hW2), World.ownsRow_nil _ _ _ _, Nat.zero_le _, Nat.le_refl _, HB.out.kept (HB1.out.trans (hW2.mono hs1)), by omega, by omega, by omega, Hgd.out, Hmk.out, by omega⟩,
        ⟨[], rfl, World.ownsRow.mono (own0 hb2) (by omega), fun i hi => absurd hi (Nat.not_lt_zero _)⟩, HB1.out.trans (hW2.mono hs1), Nat.le_refl _, hs1⟩)
    clear hW1 hW2 hb0 hz0 hb1 hb2 hz2
    go_wp2_with fail
    generalize World.alloc (World.alloc w1 _) _ = W at *
    have hrr : w.heap.size ≤ w1.heap.size := hs1
    clear HT HB HB1 hs1
    generalize w1.heap.size = r at *
    go_loopg [9] ts.length (fun k v wr => ∃ (j : Nat) (l : List Sn) (f : Nat), k = ts.length - j ∧ ts.length - j ≤ f ∧ Hid (Zl r w.heap.size S (.slice va ts.length vc) ts j v l w wr) ∧ Hid (X = appE l (sentsP f ((ab ts).drop j))))
    case atStart => exact ⟨0, [], ts.length, by omega, by omega, HZ, HX⟩
    case round =>
      clear HZ HX
      obtain ⟨j, l, f, hgk, hf, HZ, HX⟩ := hrel
      obtain ⟨b, nv, nm, p, hR⟩ := HZ.out.rd
      obtain ⟨xa, xc, rfl⟩ := HZ.out.ss.shape
      have hjl := hR.le
      have d2 : wr.cell? ⟨r, 2, none⟩ = some (.int .i64 (j : Nat)) := by rw [hR.cell]; rfl
      have d3 : wr.cell? ⟨r, 3, none⟩ = some nv := by rw [hR.cell]; rfl
      have hfr := hR.free
      by_cases hlt : j < ts.length
      · have hlt2 : (j : Int) < ts.length := by omega
        have hne : (ab ts).drop j ≠ [] := by
          intro h
          have := congrArg List.length h
          rw [List.length_drop, ab_len] at this
          simp at this; omega
        obtain ⟨f, rfl⟩ : ∃ f', f = f' + 1 := ⟨f - 1, by omega⟩
        obtain ⟨h1, h2, h3⟩ := HZ.out.fresh hR
        have kx : Calls Try.prog 55 #[.pointer (some ⟨r, 0, none⟩), .int .i64 1200, .int .i64 0] (wr.setCell ⟨r, 3, none⟩ (.slice none 0 0)) (SQ r (wr.setCell ⟨r, 3, none⟩ (.slice none 0 0)).heap.size S (.slice va ts.length vc) ts j (wr.setCell ⟨r, 3, none⟩ (.slice none 0 0)) (termP 65 1200 ((ab ts).drop j, []))) :=
          term_all 65 0 rfl 1200 j _ _ _ _ (by decide) (by decide) h1
        have HR0 := Lib.hid h1
        have HS0 := Lib.hid h2
        have HB0 := Lib.hid h3
        have har := HZ.out.ar
        have hlj := HZ.out.len
        have Hne := Lib.hid hne
        clear hR h1 h2 h3 hne HZ
        go_wp2_with fail
        generalize World.setCell wr ⟨r, 3, none⟩ _ = W2 at *
        refine kx.mono ?_
        rintro en w2 ⟨t, a2, i6, nv6, nm6, p6, k6, rfl, hT, hi6, hR6, hF6, hA⟩
        obtain ⟨ap, an, ac, rfl⟩ := hT.shape
        obtain ⟨na, nn, nc, rfl⟩ := own_shape hR6.names
        obtain ⟨g1, g2, g3⟩ := Zl.got HS0.out HB0.out har HR0.out hF6 hR6 hT
        have hbo := (Below.refl w2.heap.size w2).alloc (Nat.le_refl _) (.cells #[.int .i64 (t.k : Nat), .int .i64 t.n, .string (bs t.s), .slice ap an ac] 25)
        have HR6 := Lib.hid (hR6.stay hbo)
        have HS6 := Lib.hid (g1.stay hbo)
        have HB6 := Lib.hid (g2.trans (hbo.mono g2.size))
        have HG6 := Lib.hid (g3.kept (Kt.below hbo) (Kt.below hbo))
        have hbx := Lib.hid (heap_alloc_new w2 (.cells #[.int .i64 (t.k : Nat), .int .i64 t.n, .string (bs t.s), .slice ap an ac] 25))
        have c5 : (w2.alloc (.cells #[.int .i64 (t.k : Nat), .int .i64 t.n, .string (bs t.s), .slice ap an ac] 25)).cell? ⟨r, 5, none⟩ = some (.int .i64 (k6 : Nat)) := by rw [HR6.out.cell]; rfl
        have hle6 := hR6.le
        have hz2 := g2.size
        have hb2 := hR6.bz
        have hlr := hR6.lt
        clear hT hR6 hF6 g1 g2 g3 hbo kx HR0 HS0 HB0 d2 d3 hfr
        have hf := field_k
        by_cases hk6 : k6 = 0
        · subst hk6
          have hX := hA.ok rfl
          have kn := next_c HR6.out
          by_cases h6 : (tkAt ts S.length i6).kind = 6
          · have HXs := Lib.hid (HX.out.trans (sents_go f l Hne.out (sent_ok (n := S.length) hX h6)))
            have hil : i6 < ts.length := tk_lt (n := S.length) (by omega)
            obtain ⟨y0, y1⟩ := ieq_yes (a := (tkAt ts S.length i6).kind) 6 (by omega)
            clear hX hA HX
            generalize tkAt ts S.length i6 = T0 at *
            unfold tokV at kn
            clear h6
            go_wp2_with fail
            generalize World.alloc w2 _ = W3 at *
            refine kn.mono ?_
            rintro en w4 ⟨rfl, hb⟩
            have hR7 := HR6.out.stay hb
            have HR7 := Lib.hid (hR7.step hil)
            have hk2 := fun ty (h : ty ≠ 83) => kt_set (t := ty) (p := ⟨r, 2, none⟩) (v := .int .i64 ((i6 : Int) + 1)) hR7.blk h
            have hz4 := hb.size
            have HS7 := Lib.hid ((HS6.out.stay hb).kept (hk2 _ (by decide)) (hk2 _ (by decide)) (hk2 _ (by decide)))
            have HG7 := Lib.hid ((HG6.out.kept (Kt.below hb) (Kt.below hb)).kept (hk2 _ (by decide)) (hk2 _ (by decide)))
            have HB7 := Lib.hid ((HB6.out.trans (hb.mono HB6.out.size)).setCell (p := ⟨r, 2, none⟩) har (.int .i64 ((i6 : Int) + 1)))
            have hbx7 := Lib.hid (hk2 25 (by decide) _ _ _ ((hb.block _ (lt_of hbx.out)).trans hbx.out))
            have c5' : w4.cell? ⟨r, 5, none⟩ = some (.int .i64 0) := by rw [hR7.cell]; rfl
            have c2' : w4.cell? ⟨r, 2, none⟩ = some (.int .i64 (i6 : Nat)) := by rw [hR7.cell]; rfl
            have f2' := hR7.free 2
            have jw := wrap1' (n := i6) (by omega)
            clear hR7 hk2 hb kn c5 HR6 HS6 HB6 HG6 hbx
            go_wp2_with fail
            generalize World.setCell w4 ⟨r, 2, none⟩ _ = W5 at *
            have c3 : W5.cell? ⟨r, 3, none⟩ = some (.slice na nn nc) := by rw [HR7.out.cell]; rfl
            obtain ⟨t0, t1, t2, t3, _⟩ := cells4 hbx7.out
            obtain ⟨zs, hzl, hown, hall⟩ := HS7.out
            obtain ⟨i0, hi, hz0, hz1, hz2⟩ := info_parts sent_info3
            have Hown := Lib.hid hown
            have Hall := Lib.hid hall
            clear hown hall
            have hN1 : l.length + 1 ≤ 2000 := by omega
            have h5 : w.heap.size ≤ W5.heap.size := HB7.out.size
            go_region_held3 (fun w' => w'.cell? ⟨w2.heap.size, 0, none⟩ = some (.int .i64 (t.k : Nat)) ∧ w'.cell? ⟨w2.heap.size, 1, none⟩ = some (.int .i64 t.n) ∧ w'.cell? ⟨w2.heap.size, 2, none⟩ = some (.string (bs t.s)) ∧ w'.cell? ⟨w2.heap.size, 3, none⟩ = some (.slice ap an ac) ∧ w'.cell? ⟨r, 3, none⟩ = some (.slice na nn nc)) (first | exact ⟨u0, u1, u2, u3, u4⟩ | go_keep) ((refine step_append_lies _ rfl (.tmp 71) (.tmp 78) 64 rfl w.heap.size 44 i0 _ 5 80 Try.underlying64 hi hz0 hz1 hz2 rfl (by decide) (.slice xa l.length xc) l.length (scells (l.zip zs)) (by simp [Act.eval]) (World.ownsRow.alloc (w := W5.drew) Hown.out _) ⟨W5.heap.size, 0, none⟩ 1 1 (scell (t, nm6) (.slice ap an ac, .slice na nn nc)) (by simp [Act.eval]) rfl (snews W5.drew _ _) (snews_one _ _ rfl rfl) (by omega) (by unfold maxLen; omega) (by omega) (by simp; omega) _ rfl ?_; intro g7 cap7 w7 hn7 hgr7 hat7 hlt7; have HP7 := Lib.hid (Zl.push HR7.out hzl Hown.out Hall.out HG7.out (o := .cells (scell (t, nm6) (.slice ap an ac, .slice na nn nc)).toArray 44) (hgrD hgr7) hn7 (by omega) HB7.out har (by omega)); obtain ⟨u0, u1, u2, u3, u4⟩ := push_cells Hown.out hbx7.out HR7.out (hgrD hgr7); clear hn7 hgr7 hat7))
            all_goals
              obtain ⟨b8, nv8, nm8, p8, hR8⟩ := HP7.out.rd
              have hle8 := hR8.le
              clear hR8 u0 u1 u2 u3 u4
              go_wp2
              go_roundg (ts.length - (i6 + 1))
              case measure => omega
              case rel => exact ⟨i6 + 1, l ++ [(t, nm6)], f, rfl, by omega, HP7, Lib.hid HXs.out⟩
          · obtain ⟨y0, y1⟩ := ieq_no (a := (tkAt ts S.length i6).kind) 6 (by omega)
            have HXs := Lib.hid (HX.out.trans (sents_err f l Hne.out (sent_no (n := S.length) hX h6)))
            clear hX hA HX
            generalize tkAt ts S.length i6 = T0 at *
            unfold tokV at kn
            clear h6
            go_wp2_with fail
            generalize World.alloc w2 _ = W3 at *
            refine kn.mono ?_
            rintro en w4 ⟨rfl, hb⟩
            have HR7 := Lib.hid (HR6.out.stay hb)
            have HB7 := Lib.hid (HB6.out.trans (hb.mono HB6.out.size))
            clear hb kn c5 HR6 HS6 HB6 HG6 hbx
            go_wp2_with fail
            refine (wrong_c HR7.out).mono ?_
            rintro en w5 ⟨rfl, ⟨p7, hR⟩, hF⟩
            have HB8 := Lib.hid (HB7.out.trans ((below hF HR7.out).mono har))
            have c4' : w5.cell? ⟨r, 4, none⟩ = some (.int .i64 (p7 : Nat)) := by rw [hR.cell]; rfl
            have c5' : w5.cell? ⟨r, 5, none⟩ = some (.int .i64 50) := by rw [hR.cell]; rfl
            clear hR hF HR7 HB7
            go_wp2
            go_quiet (fail)
            go_wp2
            go_ret3
            rw [HXs.out]
            exact ⟨p7, rfl, HB8.out.trans (below_drawn _ _ _)⟩
        · have hX := hA.bad hk6
          have HXs := Lib.hid (HX.out.trans (sents_err f l Hne.out (sent_bad hX)))
          have hk2 : ((k6 : Int) == 0) = false := by rw [beq_eq_false_iff_ne]; omega
          have hk3 : ((k6 : Int) != 0) = true := by rw [bne, hk2]; rfl
          have c4' : (w2.alloc (.cells #[.int .i64 (t.k : Nat), .int .i64 t.n, .string (bs t.s), .slice ap an ac] 25)).cell? ⟨r, 4, none⟩ = some (.int .i64 (p6 : Nat)) := by rw [HR6.out.cell]; rfl
          clear hX hA HX HR6 HS6 HG6 hbx hk6
          go_wp2
          go_quiet (fail)
          go_wp2
          go_ret3
          rw [HXs.out]
          exact ⟨p6, rfl, HB6.out.trans (below_drawn _ _ _)⟩
      · have hlt2 : ¬ ((j : Int) < ts.length) := by omega
        have hX2 := Lib.hid (show X = .ok l by rw [HX.out, List.drop_eq_nil_of_le (by rw [ab_len]; omega)]; exact sents_nil f l)
        go_wp2
        go_ret3
        exact hX2.out ▸ ⟨_, rfl, HZ.out.ss, HZ.out.bl⟩
  · rw [ho] at kt
    have hk := outE_bad ho
    have hrp : readP (.bad p k) = .error k := rfl
    rw [hrp]
    clear hb hgd hrp ho hmk
    obtain ⟨x1, x2⟩ := ieq_no (a := k) 0 (by omega)
    go_enter Try.func41, Try.ntmps41
    go_wp2_with fail
    refine kt.mono ?_
    rintro en w1 ⟨v, rfl, hT, hb1⟩
    have HB1 := Lib.hid hb1
    obtain ⟨va, vc, rfl⟩ := hT.shape
    clear kt hT hb1
    unfold outP outE
    go_wp2
    go_ret3
    exact ⟨p, rfl, HB1.out⟩
end Go.Proofs.Ytjccohcigopdfaa.rr
end
section
/- The program's Read, ended, One. -/
namespace Go.Proofs.Ytjccohcigopdfaa.rd
open Go.RowKit
open Go.Proofs.Ytjccohcigopdfaa.op (bs strC Both Tb bs_data)
open Go.Proofs.Ytjccohcigopdfaa.lx (Tok Tk Out toksD rtoks outToks outP outE cell_at ieq_yes ieq_no outToks_len good_toks outE_bad)
set_option maxRecDepth 20000

end Go.Proofs.Ytjccohcigopdfaa.rd
end
section
/- The errors of a row of tokens: none of them is 0. -/
namespace Go.Proofs.Ytjccohcigopdfaa.rd
open Go.Proofs.Ytjccohcigopdfaa.lx (Out toksD outE_bad)

def EW (w : W) : Prop := ∀ m s k, w m s = .error k → k ≠ 0
theorem expect_err {m : List UInt8} {s : St} {k : Nat} (h : expectP m s = .error k) : k ≠ 0 := by
  unfold expectP at h; split at h <;> cases h; decide
theorem int_err {m : List UInt8} {s : St} {k : Nat} (h : intP m s = .error k) : k ≠ 0 := by
  unfold intP at h
  dsimp only at h
  split at h
  · cases h
  · split at h <;> cases h; decide
theorem rowGo_e {w : W} (hw : EW w) : ∀ f l s k, rowGo w f l s = .error k → k ≠ 0
  | 0, _, _, _, h => by cases h
  | f + 1, l, s, k, h => by
    rw [rowGo] at h
    split at h
    · split at h
      · cases h; exact hw _ _ _ ‹_›
      · exact rowGo_e hw f _ _ _ h
    · cases h
theorem row_e {w : W} (hw : EW w) {s : St} {k : Nat} (h : rowP w s = .error k) : k ≠ 0 := by
  unfold rowP at h
  split at h
  · cases h; exact hw _ _ _ ‹_›
  · exact rowGo_e hw _ _ _ _ h
theorem bracket_e {w : W} (hw : EW w) {m : List UInt8} {s : St} {k : Nat} (h : bracketP w m s = .error k) : k ≠ 0 := by
  unfold bracketP at h
  split at h
  · cases h; exact hw _ _ _ ‹_›
  · split at h
    · cases h; exact expect_err ‹_›
    · cases h
theorem list_e {w : W} (hw : EW w) {s : St} {k : Nat} (h : listP w s = .error k) : k ≠ 0 := by
  unfold listP at h
  split at h
  · cases h
  · split at h
    · cases h; exact row_e hw ‹_›
    · split at h
      · rename_i hh
        cases h
        split at hh
        · exact hw _ _ _ hh
        · cases hh
      · split at h
        · cases h; exact expect_err ‹_›
        · cases h
theorem marked_e {w : W} (hw : EW w) {s : St} {k : Nat} (h : markedP w s = .error k) : k ≠ 0 := by
  unfold markedP at h
  split at h
  · exact bracket_e hw h
  · split at h
    · exact list_e hw h
    · split at h
      · split at h
        · cases h
        · split at h
          · cases h; exact bracket_e hw ‹_›
          · cases h
      · cases h; decide
theorem zero_e {r : Res T} (hr : ∀ k, r = .error k → k ≠ 0) {k : Nat} (h : zeroP r = .error k) : k ≠ 0 := by
  unfold zeroP at h
  split at h
  · cases h; exact hr _ rfl
  · cases h
theorem named_e {w : W} (hw : EW w) {m : Int} {s : St} {k : Nat} (h : namedP w m s = .error k) : k ≠ 0 := by
  unfold namedP at h
  dsimp only at h
  split at h
  · split at h
    · cases h; exact row_e hw ‹_›
    · split at h
      · cases h; exact expect_err ‹_›
      · cases h
  · split at h
    · exact zero_e (fun _ => int_err) h
    · split at h
      · split at h
        · cases h; exact hw _ _ _ ‹_›
        · cases h
      · cases h
theorem operand_e {w : W} (hw : EW w) {m : Int} {s : St} {k : Nat} (h : operandP w m s = .error k) : k ≠ 0 := by
  unfold operandP at h
  dsimp only at h
  split at h
  · exact named_e hw h
  · split at h
    · cases h
    · split at h
      · exact zero_e (fun _ => int_err) h
      · split at h
        · exact zero_e (fun _ => bracket_e hw) h
        · exact zero_e (fun _ => marked_e hw) h
theorem loop_e {w : W} (hw : EW w) (m : Int) : ∀ f t p s k, loopP w m f t p s = .error k → k ≠ 0
  | 0, _, _, _, _, h => by cases h
  | f + 1, t, p, s, k, h => by
    rw [loopP] at h
    split at h
    · cases h
    · split at h
      · cases h; exact hw _ _ _ ‹_›
      · exact loop_e hw m f _ _ _ _ h
theorem term_e : ∀ d, EW (termP d)
  | 0 => fun _ _ _ h => by cases h; decide
  | d + 1 => fun m s k h => by
    rw [termP] at h
    dsimp only at h
    split at h
    · cases h; exact operand_e (term_e d) ‹_›
    · exact loop_e (term_e d) m _ _ _ _ _ h
theorem sent_e {l : List K} {k : Nat} (h : sentP l = .error k) : k ≠ 0 := by
  unfold sentP at h
  split at h
  · cases h; exact term_e _ _ _ _ ‹_›
  · split at h <;> cases h; decide
theorem sents_e : ∀ f l k, sentsP f l = .error k → k ≠ 0
  | 0, _, _, h => by cases h
  | f + 1, l, k, h => by
    rw [sentsP] at h
    split at h
    · cases h
    · split at h
      · cases h; exact sent_e ‹_›
      · split at h
        · cases h; exact sents_e f _ _ ‹_›
        · cases h
theorem read_err {o : Out} {l : List UInt8} (ho : o = toksD l) {k : Nat} (h : readP o = .error k) : k ≠ 0 := by
  unfold readP at h
  split at h
  · cases h; exact outE_bad ho.symm
  · exact sents_e _ _ _ h
end Go.Proofs.Ytjccohcigopdfaa.rd
end
section
/- The program's ended, One. -/
namespace Go.Proofs.Ytjccohcigopdfaa.rd
open Go.RowKit
open Go.Proofs.Ytjccohcigopdfaa.op (bs strC Both Tb bs_data)
open Go.Proofs.Ytjccohcigopdfaa.lx (Tok Tk Out toksD rtoks outToks outP outE cell_at ieq_yes ieq_no outToks_len good_toks outE_bad)
set_option maxRecDepth 20000

/-- do the tokens end a sentence -/
def endsB (ts : List Tok) : Bool := match ts.getLast? with
  | some t => t.kind == 6
  | none => false
/-- a text that ends its last sentence -/
def endP (l : List UInt8) : List UInt8 := match toksD l with
  | .bad _ _ => l
  | .ok ts => if endsB ts = true then l else l ++ [32, 46]
theorem app_data (s : ByteArray) (l : List UInt8) (h : l = s.data.toList) : s ++ ⟨#[32, 46]⟩ = bs (l ++ [32, 46]) := by
  subst h; apply ByteArray.ext; unfold bs; simp
/-- the one sentence of a text, or the error -/
noncomputable def oneP (l : List UInt8) : Except Nat Sn := match readP (toksD (endP l)) with
  | .error k => .error k
  | .ok [x] => .ok x
  | .ok _ => .error 50
/-- what One gives -/
def OQ (w : World) (x : Except Nat Sn) (en : Ending) (w' : World) : Prop :=
  match x with
  | .ok x => ∃ a nvs, en = .returned (.tuple #[.agg #[.int .i64 (x.1.k : Nat), .int .i64 x.1.n, .string (bs x.1.s), a, nvs], .int .i64 0, .int .i64 0]) ∧ Hg w.heap.size w' x (a, nvs) ∧ Below w.heap.size w w'
  | .error k => ∃ p : Int, en = .returned (.tuple #[.agg #[.int .i64 0, .int .i64 0, .string ⟨#[]⟩, .slice none 0 0, .slice none 0 0], .int .i64 p, .int .i64 (k : Nat)]) ∧ Below w.heap.size w w'
theorem ret_one {fn : Func} {p u v : Tmp} (h : fn.results = #[.cell p 44, .tmp u, .tmp v]) (tmps : Array Value) (w : World) {g : Nat} {a b c d e : Value} (hp : tmps.getD p undef = .pointer (some ⟨g, 0, none⟩)) (hg : w.heap[g]? = some (.cells #[a, b, c, d, e] 44 (0, 0))) :
    (results fn tmps).run Try.prog w = .ok (.tuple #[.agg #[a, b, c, d, e], tmps.getD u undef, tmps.getD v undef]) w := by
  have hp' : tmps[p]?.getD undef = .pointer (some ⟨g, 0, none⟩) := by simpa using hp
  simp [results, h, hp', asAddr, run_loadVar_row w g 44 44 _ _ _ hg Try.underlying44 rfl sent_info, Result.andThen]
theorem endP_len (l : List UInt8) : (endP l).length ≤ l.length + 2 := by
  unfold endP
  split
  · omega
  · split
    · omega
    · simp
theorem below5 {B g : Nat} {w W : World} (h : Below B w W) (hg : B ≤ g) (a b c d e : Value) : Below B w (((((W.setCell ⟨g, 0, none⟩ a).setCell ⟨g, 1, none⟩ b).setCell ⟨g, 2, none⟩ c).setCell ⟨g, 3, none⟩ d).setCell ⟨g, 4, none⟩ e) :=
  ((((h.setCell (p := ⟨g, 0, none⟩) hg _).setCell (p := ⟨g, 1, none⟩) hg _).setCell (p := ⟨g, 2, none⟩) hg _).setCell (p := ⟨g, 3, none⟩) hg _).setCell (p := ⟨g, 4, none⟩) hg _
theorem kt5 {W : World} {B : Nat} {a0 a1 a2 a3 a4 : Value} (hB : W.heap[B]? = some (.cells #[a0, a1, a2, a3, a4] 44 (0, 0))) (x0 x1 x2 x3 x4 : Value) (ty : TypeId) (hty : ty ≠ 44) :
    Kt ty W (((((W.setCell ⟨B, 0, none⟩ x0).setCell ⟨B, 1, none⟩ x1).setCell ⟨B, 2, none⟩ x2).setCell ⟨B, 3, none⟩ x3).setCell ⟨B, 4, none⟩ x4) := by
  have p1 := heap_set_at (j := 0) (v := x0) hB
  have p2 := heap_set_at (j := 1) (v := x1) p1
  have p3 := heap_set_at (j := 2) (v := x2) p2
  have p4 := heap_set_at (j := 3) (v := x3) p3
  exact ((((kt_set (p := ⟨B, 0, none⟩) hB hty).trans (kt_set (p := ⟨B, 1, none⟩) p1 hty)).trans (kt_set (p := ⟨B, 2, none⟩) p2 hty)).trans (kt_set (p := ⟨B, 3, none⟩) p3 hty)).trans (kt_set (p := ⟨B, 4, none⟩) p4 hty)
/-- the first sentence's cells -/
theorem Ss.head {B : Nat} {w : World} {v : Value} {x : Sn} {l : List Sn} (h : Ss B w v (x :: l)) : ∃ g cap a nvs, v = .slice (some ⟨g, 0, none⟩) (l.length + 1) cap ∧ Hg B w x (a, nvs) ∧ l.length + 1 ≤ cap ∧ g < w.heap.size ∧
    w.cell? ⟨g, 0, none⟩ = some (.int .i64 (x.1.k : Nat)) ∧ w.cell? ⟨g, 1, none⟩ = some (.int .i64 x.1.n) ∧ w.cell? ⟨g, 2, none⟩ = some (.string (bs x.1.s)) ∧ w.cell? ⟨g, 3, none⟩ = some a ∧ w.cell? ⟨g, 4, none⟩ = some nvs := by
  obtain ⟨zs, h1, h2, h3⟩ := h
  rcases zs with _ | ⟨⟨a, nvs⟩, zs⟩
  · simp at h1
  rcases h2.2 with ⟨_, h4⟩ | ⟨g, cap, cur, h4, _, h5, h6, _⟩
  · simp at h4
  have hc := World.ownsRow.cells h2 (g := g) (by rw [h4]; rfl)
  have key : ∀ j u, j < 5 → (scell x (a, nvs))[j]? = some u → w.cell? ⟨g, j, none⟩ = some u := fun j u hj hu => by
    have := hc j u (by
      have := scells_get ((x :: l).zip ((a, nvs) :: zs)) 0 j (by simp) hj
      rw [Nat.zero_mul, Nat.zero_add] at this
      rw [this]; exact hu)
    rwa [op.addr_add] at this
  exact ⟨g, cap, a, nvs, h4, h3 0 (by simp) (by simp), h6, lt_of h5, key 0 _ (by omega) rfl, key 1 _ (by omega) rfl, key 2 _ (by omega) rfl, key 3 _ (by omega) rfl, key 4 _ (by omega) rfl⟩
end Go.Proofs.Ytjccohcigopdfaa.rd
end
