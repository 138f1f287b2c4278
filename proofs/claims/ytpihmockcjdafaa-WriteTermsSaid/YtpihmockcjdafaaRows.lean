/-
  NARROWER THAN 'FOR EVERY INPUT', by the rows' own cells (each row's printed sentence says how): WriteTerms: loops.
  DERIVED. THE GIVEN ROWS OF THIS SEAT. 5 by the template 'for every input the law returns true; each argument reads behind the call as it read before'; 0 by the template 'total and deterministic' (their statements: YtpihmockcjdafaaTotals.lean).
  GIVEN WITH THE SEED: the statements are not yours to turn. If you find one false, say at which input.
  Laid BY PROGRAM, IN A SANDBOX (cutbox-rows.mjs): the forced cells as the released guide's own fill.sh prints them over the translation d892a577501efe5b… (all of the seat's roots in one cut). By AI agents, Wed Nov 11 2026. No macro, syntax, notation, axiom, sorry.
-/
import Derived.Test.YtpihmockcjdafaaChecked
import GoSem.Claim
import GoSem.ClaimJoined
import GoSem.ClaimMapViews
import Derived.JoinedTies
import Derived.KernelRfl
namespace Go.Proofs.Ytpihmockcjdafaa
/- THE CELL 'sum', in the pinned program and in every row, IS THE sha256 OF THE DUMP (.gsa) THAT YtpihmockcjdafaaProg.lean LOADS. Nothing in Lean hashes anything: it is a label: what it is worth is what the hold of that sum in a sandbox is worth. -/
noncomputable def Try.pinned : Pinned := { name := "ytpihmockcjdafaa", sum := "d892a577501efe5bcfa60e7bc37266e7263229ebf7aff17006124d3192446516", checked := Try.checked }
namespace Rows
def none {H : Type} : Left H := { results := [], args := [] }

/-- 'coneylaw06.WriteAtoms': WHATEVER THE INPUT: true; the input reads as it did. -/
def writeAtomsSpec : ChangeSpec := { name := "writeAtoms", fn := fun _ => fun
  | [d1, d2] => { results := [.lit (.bool true)], args := [d1, d2] }
  | _ => none }
def writeAtomsRow : OpenClaim := { program := "ytpihmockcjdafaa", sum := "d892a577501efe5bcfa60e7bc37266e7263229ebf7aff17006124d3192446516", func := "coney/coneylaw06.WriteAtoms", spec := "writeAtoms", inPlace := ["internal/bytealg.IndexByteString", "internal/bytealg.IndexString", "internal/abi.NoEscape"], unfollowed := true, recurses := true, named := ["internal/bytealg.MaxLen"], apart := false }
def WriteAtomsSaid : Prop := writeAtomsRow.holds Try.pinned (OpenSpec.ofChange writeAtomsSpec)

/-- ITS FALSE NEIGHBOUR: 'it returns false'. Refute it at one input. -/
def writeAtomsWrong : ChangeSpec := { name := "writeAtoms", fn := fun _ => fun
  | [d1, d2] => { results := [.lit (.bool false)], args := [d1, d2] }
  | _ => none }
def WriteAtomsWrongFalsely : Prop := writeAtomsRow.holds Try.pinned (OpenSpec.ofChange writeAtomsWrong)

/-- 'coneylaw06.WriteLists': WHATEVER THE INPUT: true; the input reads as it did. -/
def writeListsSpec : ChangeSpec := { name := "writeLists", fn := fun _ => fun
  | [d1, d2] => { results := [.lit (.bool true)], args := [d1, d2] }
  | _ => none }
def writeListsRow : OpenClaim := { program := "ytpihmockcjdafaa", sum := "d892a577501efe5bcfa60e7bc37266e7263229ebf7aff17006124d3192446516", func := "coney/coneylaw06.WriteLists", spec := "writeLists", inPlace := ["internal/bytealg.IndexByteString", "internal/bytealg.IndexString", "internal/abi.NoEscape"], unfollowed := true, recurses := true, named := ["internal/bytealg.MaxLen"], apart := false }
def WriteListsSaid : Prop := writeListsRow.holds Try.pinned (OpenSpec.ofChange writeListsSpec)

/-- ITS FALSE NEIGHBOUR: 'it returns false'. Refute it at one input. -/
def writeListsWrong : ChangeSpec := { name := "writeLists", fn := fun _ => fun
  | [d1, d2] => { results := [.lit (.bool false)], args := [d1, d2] }
  | _ => none }
def WriteListsWrongFalsely : Prop := writeListsRow.holds Try.pinned (OpenSpec.ofChange writeListsWrong)

/-- 'coneylaw06.WriteTerms': WHATEVER THE INPUT: true; the input reads as it did. -/
def writeTermsSpec : ChangeSpec := { name := "writeTerms", fn := fun _ => fun
  | [d1, d2] => { results := [.lit (.bool true)], args := [d1, d2] }
  | _ => none }
def writeTermsRow : OpenClaim := { program := "ytpihmockcjdafaa", sum := "d892a577501efe5bcfa60e7bc37266e7263229ebf7aff17006124d3192446516", func := "coney/coneylaw06.WriteTerms", spec := "writeTerms", inPlace := ["internal/bytealg.IndexByteString", "internal/bytealg.IndexString", "internal/abi.NoEscape"], unfollowed := true, recurses := true, named := ["internal/bytealg.MaxLen"], loops := true, apart := false }
def WriteTermsSaid : Prop := writeTermsRow.holds Try.pinned (OpenSpec.ofChange writeTermsSpec)

/-- ITS FALSE NEIGHBOUR: 'it returns false'. Refute it at one input. -/
def writeTermsWrong : ChangeSpec := { name := "writeTerms", fn := fun _ => fun
  | [d1, d2] => { results := [.lit (.bool false)], args := [d1, d2] }
  | _ => none }
def WriteTermsWrongFalsely : Prop := writeTermsRow.holds Try.pinned (OpenSpec.ofChange writeTermsWrong)

/-- 'coneylaw06.WriteBack': WHATEVER THE INPUT: true; the input reads as it did. -/
def writeBackSpec : ChangeSpec := { name := "writeBack", fn := fun _ => fun
  | [d] => { results := [.lit (.bool true)], args := [d] }
  | _ => none }
def writeBackRow : OpenClaim := { program := "ytpihmockcjdafaa", sum := "d892a577501efe5bcfa60e7bc37266e7263229ebf7aff17006124d3192446516", func := "coney/coneylaw06.WriteBack", spec := "writeBack", inPlace := ["internal/bytealg.IndexByteString", "internal/bytealg.IndexString", "internal/abi.NoEscape"], unfollowed := true, recurses := true, named := ["internal/bytealg.MaxLen"], apart := false }
def WriteBackSaid : Prop := writeBackRow.holds Try.pinned (OpenSpec.ofChange writeBackSpec)

/-- ITS FALSE NEIGHBOUR: 'it returns false'. Refute it at one input. -/
def writeBackWrong : ChangeSpec := { name := "writeBack", fn := fun _ => fun
  | [d] => { results := [.lit (.bool false)], args := [d] }
  | _ => none }
def WriteBackWrongFalsely : Prop := writeBackRow.holds Try.pinned (OpenSpec.ofChange writeBackWrong)

/-- 'coneylaw06.WriteNames': WHATEVER THE INPUT: true; the input reads as it did. -/
def writeNamesSpec : ChangeSpec := { name := "writeNames", fn := fun _ => fun
  | [d] => { results := [.lit (.bool true)], args := [d] }
  | _ => none }
def writeNamesRow : OpenClaim := { program := "ytpihmockcjdafaa", sum := "d892a577501efe5bcfa60e7bc37266e7263229ebf7aff17006124d3192446516", func := "coney/coneylaw06.WriteNames", spec := "writeNames", inPlace := ["internal/bytealg.IndexByteString", "internal/bytealg.IndexString", "internal/abi.NoEscape"], unfollowed := true, recurses := true, named := ["internal/bytealg.MaxLen"], apart := false }
def WriteNamesSaid : Prop := writeNamesRow.holds Try.pinned (OpenSpec.ofChange writeNamesSpec)

/-- ITS FALSE NEIGHBOUR: 'it returns false'. Refute it at one input. -/
def writeNamesWrong : ChangeSpec := { name := "writeNames", fn := fun _ => fun
  | [d] => { results := [.lit (.bool false)], args := [d] }
  | _ => none }
def WriteNamesWrongFalsely : Prop := writeNamesRow.holds Try.pinned (OpenSpec.ofChange writeNamesWrong)

/- THE SECOND FORM. 'bulk': how many values and letters a reading holds, each counted each time it is reached (what is shared counts as often as it is met; a slice's spare places count too). A statement '..UptoSaid' is the law's where the arguments, and the package variables that the reading takes, are together of bulk at most 1048576: NARROWER than '..Said'. Prove '..Said' where nothing that the law and all that it calls make is longer than what came in: it says more and counts as full. Else prove '..UptoSaid'. A law counts once. -/
mutual
def uptoBulk {H : Type} : DataW H → Nat
  | .lit (.string bytes) => bytes.length + 1
  | .lit _ => 1
  | .nil => 1
  | .ptr d => uptoBulk d + 1
  | .slice elems spare => uptoBulkAll elems + uptoBulkAll spare + 1
  | .agg parts => uptoBulkAll parts + 1
  | .iface _ d => uptoBulk d + 1
  | .map entries => uptoBulkEntries entries + 1
  | .held _ => 1
def uptoBulkAll {H : Type} : List (DataW H) → Nat
  | [] => 0
  | d :: r => uptoBulk d + uptoBulkAll r
def uptoBulkEntries {H : Type} : List (Lit × DataW H) → Nat
  | [] => 0
  | x :: r => uptoBulkEntry x + uptoBulkEntries r
def uptoBulkEntry {H : Type} : Lit × DataW H → Nat
  | (.string bytes, d) => bytes.length + uptoBulk d + 1
  | (_, d) => uptoBulk d + 1
 end
def uptoSmall : (H : Type) → List (DataW H) → Bool := fun _ ds => decide (uptoBulkAll ds ≤ 1048576)
def OpenSpec.upto (s : _root_.Go.ChangeSpec) : _root_.Go.OpenSpec := { _root_.Go.OpenSpec.ofChange s with cond := some uptoSmall }

/-- 'coneylaw06.WriteAtoms', WHERE WHAT IT READS IS OF BULK AT MOST 1048576: true; the input reads as it did. -/
def writeAtomsUptoRow : OpenClaim := { program := "ytpihmockcjdafaa", sum := "d892a577501efe5bcfa60e7bc37266e7263229ebf7aff17006124d3192446516", func := "coney/coneylaw06.WriteAtoms", spec := "writeAtoms", inPlace := ["internal/bytealg.IndexByteString", "internal/bytealg.IndexString", "internal/abi.NoEscape"], unfollowed := true, recurses := true, named := ["internal/bytealg.MaxLen"], apart := false, narrowed := true }
def WriteAtomsUptoSaid : Prop := writeAtomsUptoRow.holds Try.pinned (OpenSpec.upto writeAtomsSpec)

/-- 'coneylaw06.WriteLists', WHERE WHAT IT READS IS OF BULK AT MOST 1048576: true; the input reads as it did. -/
def writeListsUptoRow : OpenClaim := { program := "ytpihmockcjdafaa", sum := "d892a577501efe5bcfa60e7bc37266e7263229ebf7aff17006124d3192446516", func := "coney/coneylaw06.WriteLists", spec := "writeLists", inPlace := ["internal/bytealg.IndexByteString", "internal/bytealg.IndexString", "internal/abi.NoEscape"], unfollowed := true, recurses := true, named := ["internal/bytealg.MaxLen"], apart := false, narrowed := true }
def WriteListsUptoSaid : Prop := writeListsUptoRow.holds Try.pinned (OpenSpec.upto writeListsSpec)

/-- 'coneylaw06.WriteTerms', WHERE WHAT IT READS IS OF BULK AT MOST 1048576: true; the input reads as it did. -/
def writeTermsUptoRow : OpenClaim := { program := "ytpihmockcjdafaa", sum := "d892a577501efe5bcfa60e7bc37266e7263229ebf7aff17006124d3192446516", func := "coney/coneylaw06.WriteTerms", spec := "writeTerms", inPlace := ["internal/bytealg.IndexByteString", "internal/bytealg.IndexString", "internal/abi.NoEscape"], unfollowed := true, recurses := true, named := ["internal/bytealg.MaxLen"], loops := true, apart := false, narrowed := true }
def WriteTermsUptoSaid : Prop := writeTermsUptoRow.holds Try.pinned (OpenSpec.upto writeTermsSpec)

/-- 'coneylaw06.WriteBack', WHERE WHAT IT READS IS OF BULK AT MOST 1048576: true; the input reads as it did. -/
def writeBackUptoRow : OpenClaim := { program := "ytpihmockcjdafaa", sum := "d892a577501efe5bcfa60e7bc37266e7263229ebf7aff17006124d3192446516", func := "coney/coneylaw06.WriteBack", spec := "writeBack", inPlace := ["internal/bytealg.IndexByteString", "internal/bytealg.IndexString", "internal/abi.NoEscape"], unfollowed := true, recurses := true, named := ["internal/bytealg.MaxLen"], apart := false, narrowed := true }
def WriteBackUptoSaid : Prop := writeBackUptoRow.holds Try.pinned (OpenSpec.upto writeBackSpec)

/-- 'coneylaw06.WriteNames', WHERE WHAT IT READS IS OF BULK AT MOST 1048576: true; the input reads as it did. -/
def writeNamesUptoRow : OpenClaim := { program := "ytpihmockcjdafaa", sum := "d892a577501efe5bcfa60e7bc37266e7263229ebf7aff17006124d3192446516", func := "coney/coneylaw06.WriteNames", spec := "writeNames", inPlace := ["internal/bytealg.IndexByteString", "internal/bytealg.IndexString", "internal/abi.NoEscape"], unfollowed := true, recurses := true, named := ["internal/bytealg.MaxLen"], apart := false, narrowed := true }
def WriteNamesUptoSaid : Prop := writeNamesUptoRow.holds Try.pinned (OpenSpec.upto writeNamesSpec)

end Rows
end Go.Proofs.Ytpihmockcjdafaa
