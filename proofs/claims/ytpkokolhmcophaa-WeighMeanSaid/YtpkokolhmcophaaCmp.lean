/- The closure by which places are compared: its contract; and what a sort asks of it. -/
import Derived.Test.YtpkokolhmcophaaWLess
import Derived.Test.YtpkokolhmcophaaRow
import Derived.Test.YtpkokolhmcophaaArr
namespace Go.Proofs.Ytpkokolhmcophaa.sl
open Go.RowKit Go.Proofs.Ytpkokolhmcophaa.fl

/-- a callee that changes nothing, asked in a region that reads, behind another such region -/
theorem still {f : FuncId} {args : Array Value} {w : World} {p q : Nat} {v : Value} (h : ∀ W, Calls Try.prog f args W fun e w' => e = .returned v ∧ W = w') :
    Calls Try.prog f args (w.drewN (p + q)) fun e w'' => e = .returned v ∧ ∃ m, w'' = w.drewN (p + m) := by
  refine (h _).mono ?_
  rintro e w' ⟨rfl, rfl⟩
  exact ⟨rfl, q, rfl⟩
/-- .. in the first one -/
theorem still0 {f : FuncId} {args : Array Value} {w : World} {q : Nat} {v : Value} (h : ∀ W, Calls Try.prog f args W fun e w' => e = .returned v ∧ W = w') :
    Calls Try.prog f args (w.drewN q) fun e w'' => e = .returned v ∧ ∃ m, w'' = w.drewN m := by
  refine (h _).mono ?_
  rintro e w' ⟨rfl, rfl⟩
  exact ⟨rfl, q, rfl⟩
/-- -1, 0 or 1 -/
def cmpV (D : Nat → Nat → Bool) (x y : Nat) : Int := if D x y = true then -1 else if D y x = true then 1 else 0
theorem cmpV_neg (D : Nat → Nat → Bool) (x y : Nat) : decide (cmpV D x y < 0) = D x y := by
  unfold cmpV
  cases h : D x y
  · cases h2 : D y x <;> simp
  · simp
/-- the weight at x is ahead of that at y -/
def ahead (fs : List Nat) (x y : Nat) : Bool := less (fs.getD x 0) (fs.getD y 0)

theorem order1_c (w : World) (P : Nat) (a : Option Addr) (cap : Nat) (fs : List Nat) (hP : w.cell? ⟨P, 0, none⟩ = some (.slice a fs.length cap)) (h : FRow w a cap fs) (x y : Nat) (hx : x < fs.length) (hy : y < fs.length) :
    Calls Try.prog 24 #[.int .i64 (x : Nat), .int .i64 (y : Nat), .pointer (some ⟨P, 0, none⟩)] w fun e w' => e = .returned (.int .i64 (cmpV (ahead fs) x y)) ∧ ∃ k, w' = w.drewN k := by
  obtain ⟨ad, rfl, hc⟩ := h.cells hx
  have hm := h.1
  have hm2 := h.2.1
  unfold maxLen at hm2
  have c1 := hc x hx
  have c2 := hc y hy
  have e1 : fs[x] = fs.getD x 0 := by simp [hx]
  have e2 : fs[y] = fs.getD y 0 := by simp [hy]
  rw [e1] at c1
  rw [e2] at c2
  clear e1 e2 hc h
  unfold cmpV ahead
  have k1 := less_c (fs.getD x 0) (fs.getD y 0)
  have k2 := less_c (fs.getD y 0) (fs.getD x 0)
  generalize fs.getD x 0 = p at *
  generalize fs.getD y 0 = q at *
  cases h1 : less p q <;> rw [h1] at k1
  · cases h2 : less q p <;> rw [h2] at k2
    all_goals
      clear h1 h2
      go_enter Try.func24, Try.ntmps24
      go_wp2
      go_quiet ((go_at_call 13; exact still0 k1))
      go_wp2
      go_quiet ((go_at_call 13; exact still k2))
      go_wp2
      go_ret
      exact ⟨rfl, by first | exact ⟨_, rfl⟩ | exact ⟨_, World.drewN_drewN ..⟩⟩
  · clear h1
    go_enter Try.func24, Try.ntmps24
    go_wp2
    go_quiet ((go_at_call 13; exact still0 k1))
    go_wp2
    go_ret
    exact ⟨rfl, by first | exact ⟨_, rfl⟩ | exact ⟨_, World.drewN_drewN ..⟩⟩

/-- the closure compares by D, in whatever world a sort of block g comes to -/
def CmpOk (g n P : Nat) (D : Nat → Nat → Bool) (w : World) : Prop :=
  ∀ w', Below g w w' → ∀ x y : Nat, x < n → y < n → Calls Try.prog 24 #[.int .i64 (x : Nat), .int .i64 (y : Nat), .pointer (some ⟨P, 0, none⟩)] w' fun e w'' => e = .returned (.int .i64 (cmpV D x y)) ∧ ∃ k, w'' = w'.drewN k
theorem CmpOk.on {g n P : Nat} {D : Nat → Nat → Bool} {w w' : World} (h : CmpOk g n P D w) (hb : Below g w w') : CmpOk g n P D w' := fun w'' hb' => h w'' (hb.trans hb')
theorem below_drawn (B : Nat) (w : World) (k : Nat) : Below B w (w.drewN k) := ⟨rfl, rfl, rfl, Nat.le_refl _, fun _ _ => rfl⟩
theorem CmpOk.quiet {g n P : Nat} {D : Nat → Nat → Bool} {w : World} (h : CmpOk g n P D w) {x y : Nat} (hx : x < n) (hy : y < n) (q : Nat) :
    Calls Try.prog 24 #[.int .i64 (x : Nat), .int .i64 (y : Nat), .pointer (some ⟨P, 0, none⟩)] (w.drewN q) fun e w'' => e = .returned (.int .i64 (cmpV D x y)) ∧ ∃ m, w'' = w.drewN m := by
  refine (h _ (below_drawn _ _ _) x y hx hy).mono ?_
  rintro e w' ⟨rfl, k, rfl⟩
  exact ⟨rfl, q + k, World.drewN_drewN ..⟩
theorem CmpOk.quiet2 {g n P : Nat} {D : Nat → Nat → Bool} {w : World} (h : CmpOk g n P D w) {x y : Nat} (hx : x < n) (hy : y < n) (p q : Nat) :
    Calls Try.prog 24 #[.int .i64 (x : Nat), .int .i64 (y : Nat), .pointer (some ⟨P, 0, none⟩)] (w.drewN (p + q)) fun e w'' => e = .returned (.int .i64 (cmpV D x y)) ∧ ∃ m, w'' = w.drewN (p + m) := by
  refine (h _ (below_drawn _ _ _) x y hx hy).mono ?_
  rintro e w' ⟨rfl, k, rfl⟩
  exact ⟨rfl, q + k, by rw [World.drewN_drewN, Nat.add_assoc]⟩
end Go.Proofs.Ytpkokolhmcophaa.sl
