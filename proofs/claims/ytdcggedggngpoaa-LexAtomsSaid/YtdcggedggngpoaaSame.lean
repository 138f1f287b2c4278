/- The law's same: whether two rows of tokens are one. -/
import Derived.Test.YtdcggedggngpoaaRfW
import Derived.Laws.StructEq
namespace Go.Proofs.Ytdcggedggngpoaa.lx
open Go.RowKit

theorem tok_neq (a b : Tok) (w : World) :
    (binOp .neq 29 (.agg #[.int .i64 (a.kind : Nat), .string ⟨a.text.toArray⟩, .int .i64 (a.frm : Nat), .int .i64 (a.to : Nat)]) (.agg #[.int .i64 (b.kind : Nat), .string ⟨b.text.toArray⟩, .int .i64 (b.frm : Nat), .int .i64 (b.to : Nat)])).run Try.prog w = .ok (.bool (!decide (a = b))) w := by
  rw [run_neq_struct, run_equalIn_agg w 9999 29 _ _ (by kernel_rfl) (by kernel_rfl)]
  simp [go_sem, Try.underlying29]
  obtain ⟨k, x, f, e⟩ := a
  obtain ⟨k', x', f', e'⟩ := b
  simp only [Tok.mk.injEq]
  by_cases h1 : k = k'
  · by_cases h2 : x = x'
    · by_cases h3 : f = f'
      · by_cases h4 : e = e'
        · simp [h1, h2, h3, h4]
        · have : (e : Int) ≠ e' := by omega
          simp [h1, h2, h3, h4, this]
      · have : (f : Int) ≠ f' := by omega
        simp [h1, h2, h3, this]
    · simp [h1, h2]
  · have : (k : Int) ≠ k' := by omega
    simp [h1, this]

/-- what same is asked of: a slice that holds these tokens -/
def Row (w : World) (v : Value) (ts : List Tok) : Prop := ∃ B, Tk B w v ts
theorem Row.of {B : Nat} {w : World} {v : Value} {ts : List Tok} (h : Tk B w v ts) : Row w v ts := ⟨B, h⟩
theorem take_eq_snoc {a b : List Tok} {m : Nat} (ha : m < a.length) (hb : m < b.length) (h : a.take m = b.take m) (he : a[m] = b[m]) : a.take (m + 1) = b.take (m + 1) := by
  rw [List.take_succ_eq_append_getElem ha, List.take_succ_eq_append_getElem hb, h, he]

set_option maxHeartbeats 2000000 in
theorem same_c (v1 v2 : Value) (a b : List Tok) (w : World) (h1 : Row w v1 a) (h2 : Row w v2 b) (hl1 : a.length ≤ 1000000) (hl2 : b.length ≤ 1000000) :
    Calls Try.prog 10 #[v1, v2] w fun e w' => e = .returned (.bool (decide (a = b))) ∧ Below w.heap.size w w' := by
  obtain ⟨B1, h1⟩ := h1
  obtain ⟨B2, h2⟩ := h2
  by_cases hn : a.length = b.length
  · have x1 : ((a.length : Int) != (b.length : Int)) = false := by simp; omega
    by_cases h0 : a.length = 0
    · have ha : a = [] := List.length_eq_zero_iff.1 h0
      have hb : b = [] := List.length_eq_zero_iff.1 (by omega)
      subst ha; subst hb
      obtain ⟨p1, c1, rfl⟩ := h1.shape
      obtain ⟨p2, c2, rfl⟩ := h2.shape
      clear h1 h2 x1 h0 hn
      simp only [List.length_nil]
      go_enter Try.func10, Try.ntmps10
      go_wp2
      go_loop [5] (fun i => i = .int .i64 0) (fun _ => 0)
      case atStart => rfl
      case round =>
        obtain rfl := hrel
        go_wp2
        go_ret
        exact ⟨rfl, Below.refl _ _⟩
    · obtain ⟨g1, c1, rfl, hc1, _, _, q1⟩ := h1.row (by omega)
      obtain ⟨g2, c2, rfl, hc2, _, _, q2⟩ := h2.row (by omega)
      have Hn := Lib.hid hn
      have Q1 := Lib.hid q1
      have Q2 := Lib.hid q2
      clear h1 h2 hn h0 q1 q2
      go_enter Try.func10, Try.ntmps10
      go_wp2
      go_loopg [5] a.length (fun k i wr => ∃ m : Nat, k = a.length - m ∧ m ≤ a.length ∧ i = .int .i64 m ∧ Hid (a.take m = b.take m) ∧ Hid (∃ q, wr = w.drewN q))
      case atStart => exact ⟨0, by omega, by omega, rfl, Lib.hid rfl, Lib.hid ⟨0, rfl⟩⟩
      case round =>
        obtain ⟨m, hgk, hm, rfl, htk, hw⟩ := hrel
        by_cases hlt : m < a.length
        · have hltb : m < b.length := by have := Hn.out; omega
          have hlt1 : (m : Int) < a.length := by omega
          have hlt2 : (m : Int) < b.length := by omega
          obtain ⟨qq, hww⟩ := hw.out
          have cc : ∀ x : Addr, wr.cell? x = w.cell? x := fun x => by rw [hww]; rfl
          obtain ⟨a0, a1, a2, a3⟩ := Q1.out m hlt
          obtain ⟨b0, b1, b2, b3⟩ := Q2.out m hltb
          rw [← cc] at a0 a1 a2 a3 b0 b1 b2 b3
          have Hww := Lib.hid hww
          clear cc hww hw
          have hneq := tok_neq a[m] b[m]
          by_cases heq : a[m] = b[m]
          · have htk' := Lib.hid (take_eq_snoc hlt hltb htk.out heq)
            rw [decide_eq_true heq] at hneq
            generalize a[m] = ta at *
            generalize b[m] = tb at *
            clear heq htk
            go_wp2
            go_quiet (fail)
            go_wp2
            go_roundg (a.length - (m + 1))
            case measure => omega
            case rel => exact ⟨m + 1, rfl, by omega, by go_num, htk', Lib.hid ⟨_, by rw [Hww.out]; exact World.drewN_drewN ..⟩⟩
          · have hne := Lib.hid (show a ≠ b from fun e => heq (by simp [e]))
            rw [decide_eq_false heq] at hneq
            generalize a[m] = ta at *
            generalize b[m] = tb at *
            clear heq htk
            go_wp2
            go_quiet (fail)
            go_wp2
            go_ret
            exact ⟨ret_b (by rw [decide_eq_false hne.out]), by rw [Hww.out, World.drewN_drewN]; exact below_drawn ..⟩
        · have hlt1 : ¬ ((m : Int) < a.length) := by omega
          have heq := Lib.hid (show a = b by
            have h := htk.out
            rwa [List.take_of_length_le (by omega), List.take_of_length_le (by have := Hn.out; omega)] at h)
          clear htk
          go_wp2
          go_ret
          exact ⟨ret_b (by rw [decide_eq_true heq.out]), by obtain ⟨q, hq⟩ := hw.out; rw [hq]; exact below_drawn ..⟩
  · have x1 : ((a.length : Int) != (b.length : Int)) = true := by simp; omega
    have hne := Lib.hid (show a ≠ b from fun e => hn (by rw [e]))
    obtain ⟨p1, c1, rfl⟩ := h1.shape
    obtain ⟨p2, c2, rfl⟩ := h2.shape
    clear h1 h2 hn
    go_enter Try.func10, Try.ntmps10
    go_wp2
    go_ret
    exact ⟨ret_b (by rw [decide_eq_false hne.out]), Below.refl _ _⟩
end Go.Proofs.Ytdcggedggngpoaa.lx
