/-
  NARROWER THAN 'FOR EVERY INPUT', by the rows' own cells (each row's printed sentence says how): UnifyMatchesReference: loops · UnifyParameters: loops · UnifyGeneral: loops · UnifyMatches: loops · UnifyFails: loops.
  DERIVED. THE GIVEN ROWS OF THIS SEAT. 5 by the template 'for every input the law returns true; each argument reads behind the call as it read before'; 0 by the template 'total and deterministic' (their statements: YtcdlnhfgehhkcaaTotals.lean).
  GIVEN WITH THE SEED: the statements are not yours to turn. If you find one false, say at which input.
  Laid BY PROGRAM, IN A SANDBOX (cutbox-rows.mjs): the forced cells as the released guide's own fill.sh prints them over the translation 02d72769106ead16… (all of the seat's roots in one cut). By AI agents, Wed Nov 11 2026. No macro, syntax, notation, axiom, sorry.
-/
import Derived.Test.YtcdlnhfgehhkcaaChecked
import GoSem.Claim
import GoSem.ClaimJoined
import GoSem.ClaimMapViews
import Derived.JoinedTies
import Derived.KernelRfl
namespace Go.Proofs.Ytcdlnhfgehhkcaa
/- THE CELL 'sum', in the pinned program and in every row, IS THE sha256 OF THE DUMP (.gsa) THAT YtcdlnhfgehhkcaaProg.lean LOADS. Nothing in Lean hashes anything: it is a label: what it is worth is what the hold of that sum in a sandbox is worth. -/
noncomputable def Try.pinned : Pinned := { name := "ytcdlnhfgehhkcaa", sum := "02d72769106ead16cb673a3a9b0f6551e15b84a17b1620f0f278490f2934006d", checked := Try.checked }
namespace Rows
def none {H : Type} : Left H := { results := [], args := [] }

/-- 'leaseholdlaw05.UnifyMatchesReference': WHATEVER THE INPUT: true; the input reads as it did. -/
def unifyMatchesReferenceSpec : ChangeSpec := { name := "unifyMatchesReference", fn := fun _ => fun
  | [d1, d2, d3, d4, d5] => { results := [.lit (.bool true)], args := [d1, d2, d3, d4, d5] }
  | _ => none }
def unifyMatchesReferenceRow : OpenClaim := { program := "ytcdlnhfgehhkcaa", sum := "02d72769106ead16cb673a3a9b0f6551e15b84a17b1620f0f278490f2934006d", func := "leasehold/leaseholdlaw05.UnifyMatchesReference", spec := "unifyMatchesReference", unfollowed := true, recurses := true, loops := true, apart := false }
def UnifyMatchesReferenceSaid : Prop := unifyMatchesReferenceRow.holds Try.pinned (OpenSpec.ofChange unifyMatchesReferenceSpec)

/-- ITS FALSE NEIGHBOUR: 'it returns false'. Refute it at one input. -/
def unifyMatchesReferenceWrong : ChangeSpec := { name := "unifyMatchesReference", fn := fun _ => fun
  | [d1, d2, d3, d4, d5] => { results := [.lit (.bool false)], args := [d1, d2, d3, d4, d5] }
  | _ => none }
def UnifyMatchesReferenceWrongFalsely : Prop := unifyMatchesReferenceRow.holds Try.pinned (OpenSpec.ofChange unifyMatchesReferenceWrong)

/-- 'leaseholdlaw05.UnifyParameters': WHATEVER THE INPUT: true; the input reads as it did. -/
def unifyParametersSpec : ChangeSpec := { name := "unifyParameters", fn := fun _ => fun
  | [d1, d2, d3, d4, d5] => { results := [.lit (.bool true)], args := [d1, d2, d3, d4, d5] }
  | _ => none }
def unifyParametersRow : OpenClaim := { program := "ytcdlnhfgehhkcaa", sum := "02d72769106ead16cb673a3a9b0f6551e15b84a17b1620f0f278490f2934006d", func := "leasehold/leaseholdlaw05.UnifyParameters", spec := "unifyParameters", unfollowed := true, recurses := true, loops := true, apart := false }
def UnifyParametersSaid : Prop := unifyParametersRow.holds Try.pinned (OpenSpec.ofChange unifyParametersSpec)

/-- ITS FALSE NEIGHBOUR: 'it returns false'. Refute it at one input. -/
def unifyParametersWrong : ChangeSpec := { name := "unifyParameters", fn := fun _ => fun
  | [d1, d2, d3, d4, d5] => { results := [.lit (.bool false)], args := [d1, d2, d3, d4, d5] }
  | _ => none }
def UnifyParametersWrongFalsely : Prop := unifyParametersRow.holds Try.pinned (OpenSpec.ofChange unifyParametersWrong)

/-- 'leaseholdlaw05.UnifyGeneral': WHATEVER THE INPUT: true; the input reads as it did. -/
def unifyGeneralSpec : ChangeSpec := { name := "unifyGeneral", fn := fun _ => fun
  | [d1, d2, d3, d4] => { results := [.lit (.bool true)], args := [d1, d2, d3, d4] }
  | _ => none }
def unifyGeneralRow : OpenClaim := { program := "ytcdlnhfgehhkcaa", sum := "02d72769106ead16cb673a3a9b0f6551e15b84a17b1620f0f278490f2934006d", func := "leasehold/leaseholdlaw05.UnifyGeneral", spec := "unifyGeneral", unfollowed := true, recurses := true, loops := true, apart := false }
def UnifyGeneralSaid : Prop := unifyGeneralRow.holds Try.pinned (OpenSpec.ofChange unifyGeneralSpec)

/-- ITS FALSE NEIGHBOUR: 'it returns false'. Refute it at one input. -/
def unifyGeneralWrong : ChangeSpec := { name := "unifyGeneral", fn := fun _ => fun
  | [d1, d2, d3, d4] => { results := [.lit (.bool false)], args := [d1, d2, d3, d4] }
  | _ => none }
def UnifyGeneralWrongFalsely : Prop := unifyGeneralRow.holds Try.pinned (OpenSpec.ofChange unifyGeneralWrong)

/-- 'leaseholdlaw05.UnifyMatches': WHATEVER THE INPUT: true; the input reads as it did. -/
def unifyMatchesSpec : ChangeSpec := { name := "unifyMatches", fn := fun _ => fun
  | [d1, d2, d3] => { results := [.lit (.bool true)], args := [d1, d2, d3] }
  | _ => none }
def unifyMatchesRow : OpenClaim := { program := "ytcdlnhfgehhkcaa", sum := "02d72769106ead16cb673a3a9b0f6551e15b84a17b1620f0f278490f2934006d", func := "leasehold/leaseholdlaw05.UnifyMatches", spec := "unifyMatches", unfollowed := true, recurses := true, loops := true, apart := false }
def UnifyMatchesSaid : Prop := unifyMatchesRow.holds Try.pinned (OpenSpec.ofChange unifyMatchesSpec)

/-- ITS FALSE NEIGHBOUR: 'it returns false'. Refute it at one input. -/
def unifyMatchesWrong : ChangeSpec := { name := "unifyMatches", fn := fun _ => fun
  | [d1, d2, d3] => { results := [.lit (.bool false)], args := [d1, d2, d3] }
  | _ => none }
def UnifyMatchesWrongFalsely : Prop := unifyMatchesRow.holds Try.pinned (OpenSpec.ofChange unifyMatchesWrong)

/-- 'leaseholdlaw05.UnifyFails': WHATEVER THE INPUT: true; the input reads as it did. -/
def unifyFailsSpec : ChangeSpec := { name := "unifyFails", fn := fun _ => fun
  | [d1, d2, d3, d4] => { results := [.lit (.bool true)], args := [d1, d2, d3, d4] }
  | _ => none }
def unifyFailsRow : OpenClaim := { program := "ytcdlnhfgehhkcaa", sum := "02d72769106ead16cb673a3a9b0f6551e15b84a17b1620f0f278490f2934006d", func := "leasehold/leaseholdlaw05.UnifyFails", spec := "unifyFails", unfollowed := true, recurses := true, loops := true, apart := false }
def UnifyFailsSaid : Prop := unifyFailsRow.holds Try.pinned (OpenSpec.ofChange unifyFailsSpec)

/-- ITS FALSE NEIGHBOUR: 'it returns false'. Refute it at one input. -/
def unifyFailsWrong : ChangeSpec := { name := "unifyFails", fn := fun _ => fun
  | [d1, d2, d3, d4] => { results := [.lit (.bool false)], args := [d1, d2, d3, d4] }
  | _ => none }
def UnifyFailsWrongFalsely : Prop := unifyFailsRow.holds Try.pinned (OpenSpec.ofChange unifyFailsWrong)

/- THE SECOND FORM. 'bulk': how many values and letters a reading holds, each counted each time it is reached (what is shared counts as often as it is met; a slice's spare places count too). A statement '..UptoSaid' is the law's where the arguments, and the package variables that the reading takes, are together of bulk at most 1048576: NARROWER than '..Said'. Prove '..Said' where nothing that the law and all that it calls make is longer than what came in: it says more and counts as full. Else prove '..UptoSaid'. A law counts once. -/
mutual
def uptoBulk {H : Type} : DataW H → Nat
  | .lit (.string bytes) => bytes.length + 1
  | .lit _ => 1
  | .nil => 1
  | .ptr d => uptoBulk d + 1
  | .slice elems spare => uptoBulkAll elems + uptoBulkAll spare + 1
  | .agg parts => uptoBulkAll parts + 1
  | .iface _ d => uptoBulk d + 1
  | .map entries => uptoBulkEntries entries + 1
  | .held _ => 1
def uptoBulkAll {H : Type} : List (DataW H) → Nat
  | [] => 0
  | d :: r => uptoBulk d + uptoBulkAll r
def uptoBulkEntries {H : Type} : List (Lit × DataW H) → Nat
  | [] => 0
  | x :: r => uptoBulkEntry x + uptoBulkEntries r
def uptoBulkEntry {H : Type} : Lit × DataW H → Nat
  | (.string bytes, d) => bytes.length + uptoBulk d + 1
  | (_, d) => uptoBulk d + 1
 end
def uptoSmall : (H : Type) → List (DataW H) → Bool := fun _ ds => decide (uptoBulkAll ds ≤ 1048576)
def OpenSpec.upto (s : _root_.Go.ChangeSpec) : _root_.Go.OpenSpec := { _root_.Go.OpenSpec.ofChange s with cond := some uptoSmall }

/-- 'leaseholdlaw05.UnifyMatchesReference', WHERE WHAT IT READS IS OF BULK AT MOST 1048576: true; the input reads as it did. -/
def unifyMatchesReferenceUptoRow : OpenClaim := { program := "ytcdlnhfgehhkcaa", sum := "02d72769106ead16cb673a3a9b0f6551e15b84a17b1620f0f278490f2934006d", func := "leasehold/leaseholdlaw05.UnifyMatchesReference", spec := "unifyMatchesReference", unfollowed := true, recurses := true, loops := true, apart := false, narrowed := true }
def UnifyMatchesReferenceUptoSaid : Prop := unifyMatchesReferenceUptoRow.holds Try.pinned (OpenSpec.upto unifyMatchesReferenceSpec)

/-- 'leaseholdlaw05.UnifyParameters', WHERE WHAT IT READS IS OF BULK AT MOST 1048576: true; the input reads as it did. -/
def unifyParametersUptoRow : OpenClaim := { program := "ytcdlnhfgehhkcaa", sum := "02d72769106ead16cb673a3a9b0f6551e15b84a17b1620f0f278490f2934006d", func := "leasehold/leaseholdlaw05.UnifyParameters", spec := "unifyParameters", unfollowed := true, recurses := true, loops := true, apart := false, narrowed := true }
def UnifyParametersUptoSaid : Prop := unifyParametersUptoRow.holds Try.pinned (OpenSpec.upto unifyParametersSpec)

/-- 'leaseholdlaw05.UnifyGeneral', WHERE WHAT IT READS IS OF BULK AT MOST 1048576: true; the input reads as it did. -/
def unifyGeneralUptoRow : OpenClaim := { program := "ytcdlnhfgehhkcaa", sum := "02d72769106ead16cb673a3a9b0f6551e15b84a17b1620f0f278490f2934006d", func := "leasehold/leaseholdlaw05.UnifyGeneral", spec := "unifyGeneral", unfollowed := true, recurses := true, loops := true, apart := false, narrowed := true }
def UnifyGeneralUptoSaid : Prop := unifyGeneralUptoRow.holds Try.pinned (OpenSpec.upto unifyGeneralSpec)

/-- 'leaseholdlaw05.UnifyMatches', WHERE WHAT IT READS IS OF BULK AT MOST 1048576: true; the input reads as it did. -/
def unifyMatchesUptoRow : OpenClaim := { program := "ytcdlnhfgehhkcaa", sum := "02d72769106ead16cb673a3a9b0f6551e15b84a17b1620f0f278490f2934006d", func := "leasehold/leaseholdlaw05.UnifyMatches", spec := "unifyMatches", unfollowed := true, recurses := true, loops := true, apart := false, narrowed := true }
def UnifyMatchesUptoSaid : Prop := unifyMatchesUptoRow.holds Try.pinned (OpenSpec.upto unifyMatchesSpec)

/-- 'leaseholdlaw05.UnifyFails', WHERE WHAT IT READS IS OF BULK AT MOST 1048576: true; the input reads as it did. -/
def unifyFailsUptoRow : OpenClaim := { program := "ytcdlnhfgehhkcaa", sum := "02d72769106ead16cb673a3a9b0f6551e15b84a17b1620f0f278490f2934006d", func := "leasehold/leaseholdlaw05.UnifyFails", spec := "unifyFails", unfollowed := true, recurses := true, loops := true, apart := false, narrowed := true }
def UnifyFailsUptoSaid : Prop := unifyFailsUptoRow.holds Try.pinned (OpenSpec.upto unifyFailsSpec)

end Rows
end Go.Proofs.Ytcdlnhfgehhkcaa
