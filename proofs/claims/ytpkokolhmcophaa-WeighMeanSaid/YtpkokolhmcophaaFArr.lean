/- A slice of floats of the call's own: made empty, others' floats appended. -/
import Derived.Test.YtpkokolhmcophaaRow
import Derived.Test.YtpkokolhmcophaaArr
import Derived.Laws.AppendOwnNone
namespace Go.Proofs.Ytpkokolhmcophaa.sl
open Go.RowKit Go.Proofs.Ytpkokolhmcophaa.fl

def flts (l : List Nat) : List Value := l.map fun (d : Nat) => Value.float .f64 d
theorem flts_len (l : List Nat) : (flts l).length = l.length := by simp [flts]
/-- in the world w the slice at block g of room cap holds the floats l -/
def FlB (B : Nat) (w : World) (g cap : Nat) (l : List Nat) : Prop := w.ownsRow B 27 1 (.slice (some ⟨g, 0, none⟩) l.length cap) l.length (flts l)
theorem FlB.empty (B : Nat) (w : World) (hB : B ≤ w.heap.size) : FlB B (w.alloc (.cells #[] 27)) w.heap.size 0 [] :=
  ⟨rfl, .inr ⟨w.heap.size, 0, #[], rfl, hB, heap_alloc_new w _, Nat.le_refl _, by unfold maxLen; omega, rfl, rfl⟩⟩
theorem FlB.lt {B : Nat} {w : World} {g cap : Nat} {l : List Nat} (h : FlB B w g cap l) : B ≤ g ∧ g < w.heap.size := (World.ownsRow.lt h) g rfl
theorem FlB.row {B : Nat} {w : World} {g cap : Nat} {l : List Nat} (h : FlB B w g cap l) (hwf : ∀ x ∈ l, x < 2 ^ 64) : FRow w (some ⟨g, 0, none⟩) cap l := by
  have hs : l.length ≤ cap ∧ cap ≤ maxLen := by
    rcases h.2 with ⟨h1, _⟩ | ⟨g', cap', cur, h1, _, _, h2, h3, _⟩
    · simp at h1
    · simp at h1; obtain ⟨rfl, rfl⟩ := h1; exact ⟨h2, h3⟩
  refine ⟨hs.1, hs.2, hwf, fun i hi => ⟨_, rfl, ?_⟩, fun h => nomatch h⟩
  have := World.ownsRow.cells h (g := g) rfl i (.float .f64 l[i]) (by simp [flts, hi])
  exact this
theorem info_flt : (Try.prog.info? 27).map (fun i => (i.zero, i.size, i.bytes)) = some (some (.float .f64 0), 1, 8) := by kernel_rfl

/-- 'out = append(out, more...)', more from outside, nil or not -/
theorem wpList_fspread {ops : Array Oper} {rest : List Oper} {o : Oper} {a : Act} {Q : Exit → Act → World → Prop} (hgd : o.guard = none) (s x : Operand)
    (ho : o.op = .call { callee := .builtin .append, args := #[s, x], argTypes := #[22, 22] })
    (B : Nat) (w : World) (g n cap : Nat) (l : List Nat) (hs : a.eval s = .slice (some ⟨g, 0, none⟩) n cap) (hn : l.length = n) (hown : FlB B w g cap l)
    (ad : Option Addr) (m c : Nat) (l2 : List Nat) (hx : a.eval x = .slice ad m c) (hm : l2.length = m) (hrow : FRow w ad c l2) (hlen : n + m ≤ 1000000) (hB : B ≤ w.heap.size)
    (r : Nat) (hr : n + m = r) (h : ∀ g' cap' w', FlB B w' g' cap' (l ++ l2) → Below B w w' → wpList Try.prog ops Q rest (a.put o.dst (.slice (some ⟨g', 0, none⟩) r cap')) w') :
    wpList Try.prog ops Q (o :: rest) a w := by
  obtain ⟨i0, hi, hz0, hz1, hz2⟩ := info_parts info_flt
  subst hm hr hn
  cases ad with
  | none =>
    have hc : c = 0 := hrow.2.2.2.2 rfl
    have hl : l2.length = 0 := by have := hrow.1; omega
    have hl2 : l2 = [] := List.eq_nil_of_length_eq_zero hl
    subst hc hl2
    refine wpList_append_own_none (w := w) hgd s x 22 ho B 27 i0 1 Try.underlying22 hi _ l.length (flts l) hs hown hx ?_
    have := h g cap w (by rw [List.append_nil]; exact hown) (Below.refl _ _)
    exact this
  | some ad =>
    refine wpList_append_own _ hgd s x 22 ho B 27 i0 (.float .f64 0) 1 8 Try.underlying22 hi hz0 hz1 hz2 rfl (by decide) _ l.length (flts l) hs hown ad l2.length c (flts l2) hx (by simp [flts]) ?_ ?_ ?_ ?_ hB ?_
    · intro j u hj
      have hj2 : j < l2.length := by
        have := (List.getElem?_eq_some_iff.1 hj).1
        rwa [flts_len] at this
      obtain ⟨y, hy, hc⟩ := hrow.2.2.2.1 j hj2
      cases hy
      rw [hc, ← hj]
      simp [flts, hj2]
    · intro u hu
      simp [flts] at hu
      obtain ⟨d, _, rfl⟩ := hu; rfl
    · unfold maxLen; omega
    · omega
    · intro v' w' hown' hgr hnil
      have e1 : flts l ++ flts l2 = flts (l ++ l2) := by simp [flts]
      rw [e1] at hown'
      have hb : Below B w w' := (Below.refl B w).grown hgr hB (fun k hk => by simp [Value.ownBlock] at hk; have := hown.lt.1; omega)
      rcases hown'.2 with ⟨h1, h2⟩ | ⟨g', cap', cur, h1, h2⟩
      · have := hnil.1 h1; simp at this
      · subst h1
        refine h g' cap' w' ?_ hb
        have : FlB B w' g' cap' (l ++ l2) := by unfold FlB; simpa using hown'
        exact this
end Go.Proofs.Ytpkokolhmcophaa.sl
