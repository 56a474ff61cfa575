/-
  NARROWER THAN 'FOR EVERY INPUT', by the rows' own cells (each row's printed sentence says how): Compiles: laid.
  DERIVED. THE GIVEN ROWS OF THIS SEAT. 1 by the template 'for every input the law returns true; each argument reads behind the call as it read before'; 0 by the template 'total and deterministic' (their statements: YtdhmllobgijggaaGreatDoorTotals.lean).
  GIVEN WITH THE SEED: the statements are not yours to turn. If you find one false, say at which input.
  Laid BY PROGRAM, IN A SANDBOX (cutbox-rows.mjs): the forced cells as the released guide's own fill.sh prints them over the translation 8f387c6e14af1b14… (all of the seat's roots in one cut). By AI agents, Wed Nov 11 2026. No macro, syntax, notation, axiom, sorry.
-/
import Derived.Test.YtdhmllobgijggaaGreatDoorChecked
import GoSem.Claim
import GoSem.ClaimJoined
import GoSem.ClaimMapViews
import Derived.JoinedTies
import Derived.KernelRfl
namespace Go.Proofs.YtdhmllobgijggaaGreatDoor
/- THE CELL 'sum', in the pinned program and in every row, IS THE sha256 OF THE DUMP (.gsa) THAT YtdhmllobgijggaaGreatDoorProg.lean LOADS. Nothing in Lean hashes anything: it is a label: what it is worth is what the hold of that sum in a sandbox is worth. -/
noncomputable def Tryz.pinned : Pinned := { name := "ytdhmllobgijggaagreatdoor", sum := "8f387c6e14af1b14bf05320193f6e5215d1af8677a9702831567bada507594e5", checked := Tryz.checked }
namespace Rows
def none {H : Type} : Left H := { results := [], args := [] }

/- WHAT THE LISTED PACKAGE-LEVEL VARIABLES READ AS WHEN THE CALL BEGINS. Each datum BY PROGRAM (the guide's laid-datum.mjs) off the statement by which the dump's own 'gosem.cut.vars' lays the variable. In a bare row this is a premise. The card (YtdhmllobgijggaaGreatDoorCards.lean) ties it to the program's text. -/
def laid_errors_errorType {H : Type} : DataW H := .iface "internal/reflectlite.rtype" (.agg [.ptr (.lit (.string [101, 114, 114, 111, 114]))])
def laid_lineal_fault_Text {H : Type} : DataW H := .iface "*errors.errorString" (.ptr (.agg [.lit (.string [98, 121, 116, 101, 115, 32, 116, 104, 97, 116, 32, 97, 114, 101, 32, 110, 111, 32, 116, 101, 120, 116])]))
def laid_lineal_fault_Long {H : Type} : DataW H := .iface "*errors.errorString" (.ptr (.agg [.lit (.string [116, 111, 111, 32, 109, 97, 110, 121, 32, 98, 121, 116, 101, 115])]))
def laid_lineal_fault_Syntax {H : Type} : DataW H := .iface "*errors.errorString" (.ptr (.agg [.lit (.string [110, 111, 32, 112, 97, 116, 116, 101, 114, 110])]))
def laid_lineal_fault_Range {H : Type} : DataW H := .iface "*errors.errorString" (.ptr (.agg [.lit (.string [97, 32, 114, 97, 110, 103, 101, 32, 111, 114, 32, 99, 111, 117, 110, 116, 115, 32, 116, 104, 101, 32, 119, 114, 111, 110, 103, 32, 119, 97, 121, 32, 97, 98, 111, 117, 116])]))
def laid_lineal_fault_Count {H : Type} : DataW H := .iface "*errors.errorString" (.ptr (.agg [.lit (.string [97, 32, 99, 111, 117, 110, 116, 32, 116, 104, 97, 116, 32, 105, 115, 32, 116, 111, 111, 32, 103, 114, 101, 97, 116])]))
def laid_lineal_fault_Unsupported {H : Type} : DataW H := .iface "*errors.errorString" (.ptr (.agg [.lit (.string [97, 32, 112, 97, 116, 116, 101, 114, 110, 32, 116, 104, 97, 116, 32, 110, 101, 101, 100, 115, 32, 109, 101, 109, 111, 114, 121])]))
def laid_lineal_fault_Deep {H : Type} : DataW H := .iface "*errors.errorString" (.ptr (.agg [.lit (.string [103, 114, 111, 117, 112, 115, 32, 116, 111, 111, 32, 100, 101, 101, 112, 32, 105, 110, 32, 111, 110, 101, 32, 97, 110, 111, 116, 104, 101, 114])]))
def laid_lineal_fault_Big {H : Type} : DataW H := .iface "*errors.errorString" (.ptr (.agg [.lit (.string [97, 32, 112, 97, 116, 116, 101, 114, 110, 32, 116, 104, 97, 116, 32, 105, 115, 32, 116, 111, 111, 32, 108, 97, 114, 103, 101])]))

/-- 'lineallaw.Compiles': WHATEVER THE INPUT: true; the input reads as it did. -/
def compilesSpec : ChangeSpec := { name := "compiles", fn := fun _ => fun
  | [d] => { results := [.lit (.bool true)], args := [d] }
  | _ => none }
def compilesRow : OpenClaim := { program := "ytdhmllobgijggaagreatdoor", sum := "8f387c6e14af1b14bf05320193f6e5215d1af8677a9702831567bada507594e5", func := "lineal/lineallaw.Compiles", spec := "compiles", inPlace := ["internal/bytealg.IndexByteString", "internal/bytealg.IndexString", "internal/reflectlite.TypeOf", "internal/reflectlite.ValueOf", "(internal/reflectlite.Value).Type", "(internal/reflectlite.Value).IsNil", "(internal/reflectlite.Value).Elem", "(internal/reflectlite.Value).Set"], unfollowed := true, recurses := true, named := ["lineal/fault.Long", "lineal/fault.Big", "lineal/fault.Text", "lineal/fault.Syntax", "lineal/fault.Deep", "lineal/fault.Unsupported", "lineal/fault.Range", "lineal/fault.Count", "errors.errorType", "internal/bytealg.MaxLen"], apart := false, laid := [("errors.errorType", laid_errors_errorType), ("lineal/fault.Text", laid_lineal_fault_Text), ("lineal/fault.Long", laid_lineal_fault_Long), ("lineal/fault.Syntax", laid_lineal_fault_Syntax), ("lineal/fault.Range", laid_lineal_fault_Range), ("lineal/fault.Count", laid_lineal_fault_Count), ("lineal/fault.Unsupported", laid_lineal_fault_Unsupported), ("lineal/fault.Deep", laid_lineal_fault_Deep), ("lineal/fault.Big", laid_lineal_fault_Big)] }
def CompilesSaid : Prop := compilesRow.holds Tryz.pinned (OpenSpec.ofChange compilesSpec)

/-- ITS FALSE NEIGHBOUR: 'it returns false'. Refute it at one input. -/
def compilesWrong : ChangeSpec := { name := "compiles", fn := fun _ => fun
  | [d] => { results := [.lit (.bool false)], args := [d] }
  | _ => none }
def CompilesWrongFalsely : Prop := compilesRow.holds Tryz.pinned (OpenSpec.ofChange compilesWrong)

/- THE SECOND FORM. 'bulk': how many values and letters a reading holds, each counted each time it is reached (what is shared counts as often as it is met; a slice's spare places count too). A statement '..UptoSaid' is the law's where the arguments, and the package variables that the reading takes, are together of bulk at most 1048576: NARROWER than '..Said'. Prove '..Said' where nothing that the law and all that it calls make is longer than what came in: it says more and counts as full. Else prove '..UptoSaid'. A law counts once. -/
mutual
def uptoBulk {H : Type} : DataW H → Nat
  | .lit (.string bytes) => bytes.length + 1
  | .lit _ => 1
  | .nil => 1
  | .ptr d => uptoBulk d + 1
  | .slice elems spare => uptoBulkAll elems + uptoBulkAll spare + 1
  | .agg parts => uptoBulkAll parts + 1
  | .iface _ d => uptoBulk d + 1
  | .map entries => uptoBulkEntries entries + 1
  | .held _ => 1
def uptoBulkAll {H : Type} : List (DataW H) → Nat
  | [] => 0
  | d :: r => uptoBulk d + uptoBulkAll r
def uptoBulkEntries {H : Type} : List (Lit × DataW H) → Nat
  | [] => 0
  | x :: r => uptoBulkEntry x + uptoBulkEntries r
def uptoBulkEntry {H : Type} : Lit × DataW H → Nat
  | (.string bytes, d) => bytes.length + uptoBulk d + 1
  | (_, d) => uptoBulk d + 1
 end
def uptoSmall : (H : Type) → List (DataW H) → Bool := fun _ ds => decide (uptoBulkAll ds ≤ 1048576)
def OpenSpec.upto (s : _root_.Go.ChangeSpec) : _root_.Go.OpenSpec := { _root_.Go.OpenSpec.ofChange s with cond := some uptoSmall }

/-- 'lineallaw.Compiles', WHERE WHAT IT READS IS OF BULK AT MOST 1048576: true; the input reads as it did. -/
def compilesUptoRow : OpenClaim := { program := "ytdhmllobgijggaagreatdoor", sum := "8f387c6e14af1b14bf05320193f6e5215d1af8677a9702831567bada507594e5", func := "lineal/lineallaw.Compiles", spec := "compiles", inPlace := ["internal/bytealg.IndexByteString", "internal/bytealg.IndexString", "internal/reflectlite.TypeOf", "internal/reflectlite.ValueOf", "(internal/reflectlite.Value).Type", "(internal/reflectlite.Value).IsNil", "(internal/reflectlite.Value).Elem", "(internal/reflectlite.Value).Set"], unfollowed := true, recurses := true, named := ["lineal/fault.Long", "lineal/fault.Big", "lineal/fault.Text", "lineal/fault.Syntax", "lineal/fault.Deep", "lineal/fault.Unsupported", "lineal/fault.Range", "lineal/fault.Count", "errors.errorType", "internal/bytealg.MaxLen"], apart := false, laid := [("errors.errorType", laid_errors_errorType), ("lineal/fault.Text", laid_lineal_fault_Text), ("lineal/fault.Long", laid_lineal_fault_Long), ("lineal/fault.Syntax", laid_lineal_fault_Syntax), ("lineal/fault.Range", laid_lineal_fault_Range), ("lineal/fault.Count", laid_lineal_fault_Count), ("lineal/fault.Unsupported", laid_lineal_fault_Unsupported), ("lineal/fault.Deep", laid_lineal_fault_Deep), ("lineal/fault.Big", laid_lineal_fault_Big)], narrowed := true }
def CompilesUptoSaid : Prop := compilesUptoRow.holds Tryz.pinned (OpenSpec.upto compilesSpec)

end Rows
end Go.Proofs.YtdhmllobgijggaaGreatDoor
