/-
  No cell of these rows narrows 'for every input' (looked for: loops, veiled, ifaces, maps, wideKeys, modest, calm, conditions, laid).
  DERIVED. THE GIVEN ROWS OF THIS SEAT. 3 by the template 'for every input the law returns true; each argument reads behind the call as it read before'; 0 by the template 'total and deterministic' (their statements: YtldgpmnckhlbbaaTotals.lean).
  GIVEN WITH THE SEED: the statements are not yours to turn. If you find one false, say at which input.
  Laid BY PROGRAM, IN A SANDBOX (cutbox-rows.mjs): the forced cells as the released guide's own fill.sh prints them over the translation 4cc9fd556ffcea5d… (all of the seat's roots in one cut). By AI agents, Wed Nov 11 2026. No macro, syntax, notation, axiom, sorry.
-/
import Derived.Test.YtldgpmnckhlbbaaChecked
import GoSem.Claim
import GoSem.ClaimJoined
import GoSem.ClaimMapViews
import Derived.JoinedTies
import Derived.KernelRfl
namespace Go.Proofs.Ytldgpmnckhlbbaa
/- THE CELL 'sum', in the pinned program and in every row, IS THE sha256 OF THE DUMP (.gsa) THAT YtldgpmnckhlbbaaProg.lean LOADS. Nothing in Lean hashes anything: it is a label: what it is worth is what the hold of that sum in a sandbox is worth. -/
noncomputable def Try.pinned : Pinned := { name := "ytldgpmnckhlbbaa", sum := "4cc9fd556ffcea5d2bbc08cd5730ab4145f978b46d008f55d934c9d175cea5be", checked := Try.checked }
namespace Rows
def none {H : Type} : Left H := { results := [], args := [] }

/-- 'agatelaw06.GaussReads': WHATEVER THE INPUT: true; the input reads as it did. -/
def gaussReadsSpec : ChangeSpec := { name := "gaussReads", fn := fun _ => fun
  | [d1, d2, d3] => { results := [.lit (.bool true)], args := [d1, d2, d3] }
  | _ => none }
def gaussReadsRow : OpenClaim := { program := "ytldgpmnckhlbbaa", sum := "4cc9fd556ffcea5d2bbc08cd5730ab4145f978b46d008f55d934c9d175cea5be", func := "agate/agatelaw06.GaussReads", spec := "gaussReads", inPlace := ["math.Float64bits", "math.archTrunc", "math.Float64frombits", "math.Float32frombits", "math.Float32bits"], apart := false }
def GaussReadsSaid : Prop := gaussReadsRow.holds Try.pinned (OpenSpec.ofChange gaussReadsSpec)

/-- ITS FALSE NEIGHBOUR: 'it returns false'. Refute it at one input. -/
def gaussReadsWrong : ChangeSpec := { name := "gaussReads", fn := fun _ => fun
  | [d1, d2, d3] => { results := [.lit (.bool false)], args := [d1, d2, d3] }
  | _ => none }
def GaussReadsWrongFalsely : Prop := gaussReadsRow.holds Try.pinned (OpenSpec.ofChange gaussReadsWrong)

/-- 'agatelaw06.GaussReckons': WHATEVER THE INPUT: true; the input reads as it did. -/
def gaussReckonsSpec : ChangeSpec := { name := "gaussReckons", fn := fun _ => fun
  | [d1, d2, d3, d4] => { results := [.lit (.bool true)], args := [d1, d2, d3, d4] }
  | _ => none }
def gaussReckonsRow : OpenClaim := { program := "ytldgpmnckhlbbaa", sum := "4cc9fd556ffcea5d2bbc08cd5730ab4145f978b46d008f55d934c9d175cea5be", func := "agate/agatelaw06.GaussReckons", spec := "gaussReckons", inPlace := ["math.Float64bits", "math.archTrunc", "math.Float64frombits", "math.Float32bits"], apart := false }
def GaussReckonsSaid : Prop := gaussReckonsRow.holds Try.pinned (OpenSpec.ofChange gaussReckonsSpec)

/-- ITS FALSE NEIGHBOUR: 'it returns false'. Refute it at one input. -/
def gaussReckonsWrong : ChangeSpec := { name := "gaussReckons", fn := fun _ => fun
  | [d1, d2, d3, d4] => { results := [.lit (.bool false)], args := [d1, d2, d3, d4] }
  | _ => none }
def GaussReckonsWrongFalsely : Prop := gaussReckonsRow.holds Try.pinned (OpenSpec.ofChange gaussReckonsWrong)

/-- 'agatelaw06.GaussBack': WHATEVER THE INPUT: true; the input reads as it did. -/
def gaussBackSpec : ChangeSpec := { name := "gaussBack", fn := fun _ => fun
  | [d1, d2, d3, d4] => { results := [.lit (.bool true)], args := [d1, d2, d3, d4] }
  | _ => none }
def gaussBackRow : OpenClaim := { program := "ytldgpmnckhlbbaa", sum := "4cc9fd556ffcea5d2bbc08cd5730ab4145f978b46d008f55d934c9d175cea5be", func := "agate/agatelaw06.GaussBack", spec := "gaussBack", inPlace := ["math.Float64bits", "math.archTrunc", "math.Float64frombits", "math.Float32bits", "math.Float32frombits"], apart := false }
def GaussBackSaid : Prop := gaussBackRow.holds Try.pinned (OpenSpec.ofChange gaussBackSpec)

/-- ITS FALSE NEIGHBOUR: 'it returns false'. Refute it at one input. -/
def gaussBackWrong : ChangeSpec := { name := "gaussBack", fn := fun _ => fun
  | [d1, d2, d3, d4] => { results := [.lit (.bool false)], args := [d1, d2, d3, d4] }
  | _ => none }
def GaussBackWrongFalsely : Prop := gaussBackRow.holds Try.pinned (OpenSpec.ofChange gaussBackWrong)

/- THE SECOND FORM. 'bulk': how many values and letters a reading holds, each counted each time it is reached (what is shared counts as often as it is met; a slice's spare places count too). A statement '..UptoSaid' is the law's where the arguments, and the package variables that the reading takes, are together of bulk at most 1048576: NARROWER than '..Said'. Prove '..Said' where nothing that the law and all that it calls make is longer than what came in: it says more and counts as full. Else prove '..UptoSaid'. A law counts once. -/
mutual
def uptoBulk {H : Type} : DataW H → Nat
  | .lit (.string bytes) => bytes.length + 1
  | .lit _ => 1
  | .nil => 1
  | .ptr d => uptoBulk d + 1
  | .slice elems spare => uptoBulkAll elems + uptoBulkAll spare + 1
  | .agg parts => uptoBulkAll parts + 1
  | .iface _ d => uptoBulk d + 1
  | .map entries => uptoBulkEntries entries + 1
  | .held _ => 1
def uptoBulkAll {H : Type} : List (DataW H) → Nat
  | [] => 0
  | d :: r => uptoBulk d + uptoBulkAll r
def uptoBulkEntries {H : Type} : List (Lit × DataW H) → Nat
  | [] => 0
  | x :: r => uptoBulkEntry x + uptoBulkEntries r
def uptoBulkEntry {H : Type} : Lit × DataW H → Nat
  | (.string bytes, d) => bytes.length + uptoBulk d + 1
  | (_, d) => uptoBulk d + 1
 end
def uptoSmall : (H : Type) → List (DataW H) → Bool := fun _ ds => decide (uptoBulkAll ds ≤ 1048576)
def OpenSpec.upto (s : _root_.Go.ChangeSpec) : _root_.Go.OpenSpec := { _root_.Go.OpenSpec.ofChange s with cond := some uptoSmall }

/-- 'agatelaw06.GaussReads', WHERE WHAT IT READS IS OF BULK AT MOST 1048576: true; the input reads as it did. -/
def gaussReadsUptoRow : OpenClaim := { program := "ytldgpmnckhlbbaa", sum := "4cc9fd556ffcea5d2bbc08cd5730ab4145f978b46d008f55d934c9d175cea5be", func := "agate/agatelaw06.GaussReads", spec := "gaussReads", inPlace := ["math.Float64bits", "math.archTrunc", "math.Float64frombits", "math.Float32frombits", "math.Float32bits"], apart := false, narrowed := true }
def GaussReadsUptoSaid : Prop := gaussReadsUptoRow.holds Try.pinned (OpenSpec.upto gaussReadsSpec)

/-- 'agatelaw06.GaussReckons', WHERE WHAT IT READS IS OF BULK AT MOST 1048576: true; the input reads as it did. -/
def gaussReckonsUptoRow : OpenClaim := { program := "ytldgpmnckhlbbaa", sum := "4cc9fd556ffcea5d2bbc08cd5730ab4145f978b46d008f55d934c9d175cea5be", func := "agate/agatelaw06.GaussReckons", spec := "gaussReckons", inPlace := ["math.Float64bits", "math.archTrunc", "math.Float64frombits", "math.Float32bits"], apart := false, narrowed := true }
def GaussReckonsUptoSaid : Prop := gaussReckonsUptoRow.holds Try.pinned (OpenSpec.upto gaussReckonsSpec)

/-- 'agatelaw06.GaussBack', WHERE WHAT IT READS IS OF BULK AT MOST 1048576: true; the input reads as it did. -/
def gaussBackUptoRow : OpenClaim := { program := "ytldgpmnckhlbbaa", sum := "4cc9fd556ffcea5d2bbc08cd5730ab4145f978b46d008f55d934c9d175cea5be", func := "agate/agatelaw06.GaussBack", spec := "gaussBack", inPlace := ["math.Float64bits", "math.archTrunc", "math.Float64frombits", "math.Float32bits", "math.Float32frombits"], apart := false, narrowed := true }
def GaussBackUptoSaid : Prop := gaussBackUptoRow.holds Try.pinned (OpenSpec.upto gaussBackSpec)

end Rows
end Go.Proofs.Ytldgpmnckhlbbaa
