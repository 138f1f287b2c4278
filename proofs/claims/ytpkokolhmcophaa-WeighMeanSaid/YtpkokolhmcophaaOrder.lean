/- The program's Order: its contract. -/
import Derived.Test.YtpkokolhmcophaaStab
import Derived.Test.YtpkokolhmcophaaRank
namespace Go.Proofs.Ytpkokolhmcophaa.sl
open Go.RowKit Go.Proofs.Ytpkokolhmcophaa.fl

/-- an answer in new memory: all places in the order of their ranks -/
def Ordered (w : World) (fs : List Nat) (e : Ending) (w' : World) : Prop :=
  ∃ g cap l, e = .returned (.slice (some ⟨g, 0, none⟩) fs.length cap) ∧ IsOrd fs l ∧ SlB w.heap.size w' g cap l ∧ Below w.heap.size w w'

theorem fill_step {k n : Nat} {c : List Nat} (hl : c.length = n) (hk : k < n) (h : ∀ j, j < k → c.getD j 0 = j) : ∀ j, j < k + 1 → (c.set k k).getD j 0 = j := by
  intro j hj
  simp only [List.getD_eq_getElem?_getD, List.getElem?_set]
  by_cases e : k = j
  · subst e; simp [hl, hk]
  · rw [if_neg e, ← List.getD_eq_getElem?_getD]; exact h j (by omega)
theorem fill_end {n : Nat} {c : List Nat} (hl : c.length = n) (h : ∀ j, j < n → c.getD j 0 = j) : c = List.range n := by
  apply List.ext_getElem (by simp [hl])
  intro i h1 h2
  have := h i (by omega)
  simp [h1] at this
  rw [List.getElem_range]; exact this

theorem order_c (w : World) (a : Option Addr) (cap : Nat) (fs : List Nat) (h : FRow w a cap fs) (hn : fs.length ≤ 1000) :
    Calls Try.prog 16 #[.slice a fs.length cap] w (Ordered w fs) := by
  have hW := Lib.hid h
  have hcap := h.1
  have hm2 := h.2.1
  unfold maxLen at hm2
  clear h
  have hord := @ord_of_moved fs
  have hcrs := Lib.hid (rk_crs fs)
  have hfwd := Lib.hid (rk_fwd fs)
  have hcl := order1_c (a := a) (cap := cap) (fs := fs)
  have hO := Lib.hid (fun l => @ord_of_moved fs l)
  clear hord
  generalize hfl : fs.length = n at *
  have Hfl := Lib.hid hfl
  clear hfl
  go_enter Try.func16, Try.ntmps16
  go_wp2_with (at_make; refine wpList_zeros _ rfl _ _ rfl (w.heap.size + 1) n _ _ rfl rfl ?c1 ?c2 ?c3 ?c4 ?c5)
  case c1 => rfl
  case c2 => rfl
  case c3 => omega
  case c4 => go_size
  case c5 =>
    intro w1 hsl hb1
    have hbox : (w.alloc (.cells #[Value.slice a n cap] 22)).cell? ⟨w.heap.size, 0, none⟩ = some (.slice a n cap) := by simp [go_sem]
    have HB := Lib.hid hbox
    have cB : w1.cell? ⟨w.heap.size, 0, none⟩ = some (.slice a n cap) := by rw [hb1.cell (by simp)]; exact hbox
    clear hbox
    go_wp2
    clear cB
    go_loopw [10] (fun u wr => ∃ (k : Nat) (c : List Nat), u = .int .i64 k ∧ k ≤ n ∧ SlB (w.heap.size + 1) wr (w.heap.size + 1) n c ∧ Hid (c.length = n) ∧ Hid (∀ j, j < k → c.getD j 0 = j) ∧ Below (w.heap.size + 1) (w.alloc (.cells #[Value.slice a n cap] 22)) wr) (fun u _ => n - (intOf u).toNat)
    case atStart => exact ⟨0, List.replicate n 0, by go_num, Nat.zero_le _, hsl, Lib.hid (by simp), Lib.hid (fun j hj => by omega), hb1⟩
    case round =>
      clear hsl hb1
      obtain ⟨k, c, rfl, hk, hsl, hl, hc, hb⟩ := hrel
      by_cases hlt : k < n
      · have c1 := hsl.at k (by have := hl.out; omega)
        have f1 := hsl.free k
        have hs' := Lib.hid (hsl.store k k)
        have hl' : Hid ((c.set k k).length = n) := Lib.hid (by simp [hl.out])
        have hc' := Lib.hid (fill_step hl.out hlt hc.out)
        have hb' := hb.setCell (p := ⟨w.heap.size + 1, k, none⟩) (Nat.le_refl _) (.int .i64 (k : Int))
        clear hb hsl hl hc
        go_wp2
        exact ⟨⟨k + 1, c.set k k, by go_num, by omega, hs'.out, hl', hc', hb'⟩, by first | (simp [intOf]; done) | (simp [intOf]; omega)⟩
      · obtain rfl : k = n := by omega
        have he := fill_end hl.out hc.out
        subst he
        have hbw : ∀ w'', Below (w.heap.size + 1) wr w'' → Below w.heap.size w w'' := fun w'' h'' => ((Below.refl _ _).alloc (Nat.le_refl _) _).trans ((hb.trans h'').mono (by omega))
        have hk1 := sortStable_c (ahead fs) (rk fs) (w.heap.size + 1) k w.heap.size wr (w.heap.size + 1) k k (List.range k) (by simp) (by omega) hsl
          (fun i hi => by simp at hi; rw [List.getD_eq_getElem?_getD, List.getElem?_range hi]; exact hi) hfwd.out
          (fun w'' h'' x y hx hy => by
            have hb2 := hb.trans h''
            refine hcl w'' w.heap.size ?_ (hW.out.kept (hbw _ h'') rfl) x y hx hy
            rw [hb2.cell (by simp)]; exact HB.out) hcrs.out
        have hmf : ∀ (fn : Fn) (first cap : Array Value) (w : World), (Instr.makeFunc fn first cap).run Try.prog w = .ok (.func fn first cap) w := fun _ _ _ _ => rfl
        have HF := Lib.hid hbw
        clear hcl hc hl hsl hbw hb
        go_wp2_with fail
        refine hk1.mono ?_; rintro e0 w2 ⟨l', rfl, hs2, hb2, hm2, hr2⟩
        have hO2 := Lib.hid (hO.out l' hm2 hr2)
        have hB2 := HF.out w2 hb2
        clear hm2 hr2
        go_wp2_with fail
        go_ret
        exact ⟨w.heap.size + 1, k, l', by rw [Hfl.out]; rfl, hO2.out, hs2.mono (by omega), hB2⟩
end Go.Proofs.Ytpkokolhmcophaa.sl
