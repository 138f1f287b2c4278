/- The two tables are the document's: for each name the same answer. -/
import Derived.Test.YtnbbcegfcpcndaaDoorOps
namespace Go.Proofs.YtnbbcegfcpcndaaDoor.op

theorem inB_no {n T : List UInt8} {N : List (List UInt8)} (hT : ∀ x ∈ wd [] T, x ∈ N) (h : n ∉ N) : inB n T = false := by
  unfold inB
  rw [List.contains_eq_mem]; simp
  exact fun hm => h (hT _ hm)
theorem find_not {l : List (List UInt8 × Int × Int)} {n : List UInt8} (h : n ∉ l.map (·.1)) : l.find? (fun r => r.1 == n) = none := by
  rw [List.find?_eq_none]
  intro r hr he
  exact h (List.mem_map.2 ⟨r, hr, by simpa using he⟩)
set_option maxRecDepth 100000 in
theorem sameI (n : List UInt8) : refI n = progI n := by
  by_cases h : n ∈ rowsI.map (·.1)
  · exact (by decide +kernel : ∀ n ∈ rowsI.map (·.1), refI n = progI n) n h
  · unfold refI progI
    rw [find_not h, inB_no (T := [58, 45]) (by decide +kernel) h, inB_no (T := [59]) (by decide +kernel) h, inB_no (T := [45, 62]) (by decide +kernel) h, inB_no (T := [44]) (by decide +kernel) h, inB_no (T := [35, 60, 61, 62]) (by decide +kernel) h, inB_no (T := [61, 32, 92, 61, 32, 61, 61, 32, 92, 61, 61, 32, 64, 60, 32, 64, 62, 32, 64, 61, 60, 32, 64, 62, 61, 32, 105, 115, 32, 61, 58, 61, 32, 61, 92, 61, 32, 60, 32, 62, 32, 61, 60, 32, 62, 61, 32, 61, 46, 46, 32, 35, 61, 32, 35, 92, 61, 32, 35, 60, 32, 35, 62, 32, 35, 61, 60, 32, 35, 62, 61, 32, 105, 110]) (by decide +kernel) h, inB_no (T := [92, 47]) (by decide +kernel) h, inB_no (T := [46, 46]) (by decide +kernel) h, inB_no (T := [43, 32, 45]) (by decide +kernel) h, inB_no (T := [42, 32, 47, 47, 32, 114, 101, 109, 32, 109, 111, 100, 32, 100, 105, 118]) (by decide +kernel) h, inB_no (T := [94]) (by decide +kernel) h]
    rfl
set_option maxRecDepth 100000 in
theorem sameP (n : List UInt8) : refP n = progP n := by
  by_cases h : n ∈ rowsP.map (·.1)
  · exact (by decide +kernel : ∀ n ∈ rowsP.map (·.1), refP n = progP n) n h
  · unfold refP progP
    rw [find_not h, inB_no (T := [58, 45]) (by decide +kernel) h, inB_no (T := [92, 43]) (by decide +kernel) h, inB_no (T := [43, 32, 45]) (by decide +kernel) h]
    rfl
/-- what stands beside an operator -/
theorem sides (n : List UInt8) : progI n = (0, 0, 0, false) ∨ ((progI n).2.2.2 = true ∧ 200 ≤ (progI n).1 ∧ (progI n).1 ≤ 1200 ∧ (progI n).2.1 ≤ (progI n).1 ∧ (progI n).2.2.1 ≤ (progI n).1 ∧ (progI n).1 - 1 ≤ (progI n).2.1 ∧ (progI n).1 - 1 ≤ (progI n).2.2.1 ∧ (progI n).2.1 + (progI n).2.2.1 < 2 * (progI n).1) := by
  by_cases h : n ∈ rowsI.map (·.1)
  · exact .inr ((by decide +kernel : ∀ n ∈ rowsI.map (·.1), (progI n).2.2.2 = true ∧ 200 ≤ (progI n).1 ∧ (progI n).1 ≤ 1200 ∧ (progI n).2.1 ≤ (progI n).1 ∧ (progI n).2.2.1 ≤ (progI n).1 ∧ (progI n).1 - 1 ≤ (progI n).2.1 ∧ (progI n).1 - 1 ≤ (progI n).2.2.1 ∧ (progI n).2.1 + (progI n).2.2.1 < 2 * (progI n).1) n h)
  · left; unfold progI; rw [find_not h]
end Go.Proofs.YtnbbcegfcpcndaaDoor.op
