/- The walk of NumTimes. -/
import Derived.Test.YtpfkcllincfpkaaNumLaws
import Derived.Test.YtpfkcllincfpkaaRefF
namespace Go.Proofs.Ytpfkcllincfpkaa.nm
open Go.RowKit Go.Proofs.Ytpfkcllincfpkaa.dg

theorem numTimes_walk (a0 : Int) (a1 : Int) (w : World) (w0 : (Lit.int .i64 a0).wf = true) (w1 : (Lit.int .i64 a1).wf = true) :
    Calls Try.prog 6 #[.int .i64 a0, .int .i64 a1] w fun e w' => e = .returned (.bool true) ∧ Below w.heap.size w w' := by
  have ha := fit_wf w0
  have hb := fit_wf w1
  have k1 := mul_c a0 a1 ha hb
  have k2 := mul_r a0 a1 ha hb
  have k3 := mul_c a1 a0 hb ha
  rw [Int.mul_comm a1 a0] at k3
  clear w0 w1 ha hb
  generalize a0 * a1 = x1 at *
  go_enter Try.func6, Try.ntmps6
  go_wp2_with fail
  refine (k1 _).mono ?_; rintro e w' ⟨rfl, rfl⟩; go_wp2_with fail
  refine (k2 _).mono ?_; rintro e w2 ⟨rfl, b2⟩; go_wp2_with fail
  refine (k3 _).mono ?_; rintro e w' ⟨rfl, rfl⟩; go_wp2_with fail
  go_ret
  exact ⟨rfl, b2⟩
end Go.Proofs.Ytpfkcllincfpkaa.nm
