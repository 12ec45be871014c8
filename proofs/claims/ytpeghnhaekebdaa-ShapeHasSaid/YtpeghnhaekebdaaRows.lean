/-
  No cell of these rows narrows 'for every input' (looked for: loops, veiled, ifaces, maps, wideKeys, modest, calm, conditions, laid).
  DERIVED. THE GIVEN ROWS OF THIS SEAT. 3 by the template 'for every input the law returns true; each argument reads behind the call as it read before'; 0 by the template 'total and deterministic' (their statements: YtpeghnhaekebdaaTotals.lean).
  GIVEN WITH THE SEED: the statements are not yours to turn. If you find one false, say at which input.
  Laid BY PROGRAM, IN A SANDBOX (cutbox-rows.mjs): the forced cells as the released guide's own fill.sh prints them over the translation 9af47e0350ef9ff0… (all of the seat's roots in one cut). By AI agents, Wed Nov 11 2026. No macro, syntax, notation, axiom, sorry.
-/
import Derived.Test.YtpeghnhaekebdaaChecked
import GoSem.Claim
import GoSem.ClaimJoined
import GoSem.ClaimMapViews
import Derived.JoinedTies
import Derived.KernelRfl
namespace Go.Proofs.Ytpeghnhaekebdaa
/- THE CELL 'sum', in the pinned program and in every row, IS THE sha256 OF THE DUMP (.gsa) THAT YtpeghnhaekebdaaProg.lean LOADS. Nothing in Lean hashes anything: it is a label: what it is worth is what the hold of that sum in a sandbox is worth. -/
noncomputable def Try.pinned : Pinned := { name := "ytpeghnhaekebdaa", sum := "9af47e0350ef9ff0f700a508cebbe01459b9bc54ed8bdf0aa84a687f74608fc6", checked := Try.checked }
namespace Rows
def none {H : Type} : Left H := { results := [], args := [] }

/-- 'draymanlaw16.ShapeOf': WHATEVER THE INPUT: true; the input reads as it did. -/
def shapeOfSpec : ChangeSpec := { name := "shapeOf", fn := fun _ => fun
  | [d] => { results := [.lit (.bool true)], args := [d] }
  | _ => none }
def shapeOfRow : OpenClaim := { program := "ytpeghnhaekebdaa", sum := "9af47e0350ef9ff0f700a508cebbe01459b9bc54ed8bdf0aa84a687f74608fc6", func := "drayman/draymanlaw16.ShapeOf", spec := "shapeOf", inPlace := ["internal/abi.NoEscape", "internal/bytealg.IndexByteString", "internal/bytealg.IndexString"], unfollowed := true, recurses := true, named := ["internal/bytealg.MaxLen"], apart := false }
def ShapeOfSaid : Prop := shapeOfRow.holds Try.pinned (OpenSpec.ofChange shapeOfSpec)

/-- ITS FALSE NEIGHBOUR: 'it returns false'. Refute it at one input. -/
def shapeOfWrong : ChangeSpec := { name := "shapeOf", fn := fun _ => fun
  | [d] => { results := [.lit (.bool false)], args := [d] }
  | _ => none }
def ShapeOfWrongFalsely : Prop := shapeOfRow.holds Try.pinned (OpenSpec.ofChange shapeOfWrong)

/-- 'draymanlaw16.ShapeSames': WHATEVER THE INPUT: true; the input reads as it did. -/
def shapeSamesSpec : ChangeSpec := { name := "shapeSames", fn := fun _ => fun
  | [d1, d2] => { results := [.lit (.bool true)], args := [d1, d2] }
  | _ => none }
def shapeSamesRow : OpenClaim := { program := "ytpeghnhaekebdaa", sum := "9af47e0350ef9ff0f700a508cebbe01459b9bc54ed8bdf0aa84a687f74608fc6", func := "drayman/draymanlaw16.ShapeSames", spec := "shapeSames", inPlace := ["internal/abi.NoEscape", "internal/bytealg.IndexByteString", "internal/bytealg.IndexString"], unfollowed := true, recurses := true, named := ["internal/bytealg.MaxLen"], apart := false }
def ShapeSamesSaid : Prop := shapeSamesRow.holds Try.pinned (OpenSpec.ofChange shapeSamesSpec)

/-- ITS FALSE NEIGHBOUR: 'it returns false'. Refute it at one input. -/
def shapeSamesWrong : ChangeSpec := { name := "shapeSames", fn := fun _ => fun
  | [d1, d2] => { results := [.lit (.bool false)], args := [d1, d2] }
  | _ => none }
def ShapeSamesWrongFalsely : Prop := shapeSamesRow.holds Try.pinned (OpenSpec.ofChange shapeSamesWrong)

/-- 'draymanlaw16.ShapeHas': WHATEVER THE INPUT: true; the input reads as it did. -/
def shapeHasSpec : ChangeSpec := { name := "shapeHas", fn := fun _ => fun
  | [d1, d2, d3] => { results := [.lit (.bool true)], args := [d1, d2, d3] }
  | _ => none }
def shapeHasRow : OpenClaim := { program := "ytpeghnhaekebdaa", sum := "9af47e0350ef9ff0f700a508cebbe01459b9bc54ed8bdf0aa84a687f74608fc6", func := "drayman/draymanlaw16.ShapeHas", spec := "shapeHas", inPlace := ["internal/abi.NoEscape", "internal/bytealg.IndexByteString", "internal/bytealg.IndexString"], unfollowed := true, recurses := true, named := ["internal/bytealg.MaxLen"], apart := false }
def ShapeHasSaid : Prop := shapeHasRow.holds Try.pinned (OpenSpec.ofChange shapeHasSpec)

/-- ITS FALSE NEIGHBOUR: 'it returns false'. Refute it at one input. -/
def shapeHasWrong : ChangeSpec := { name := "shapeHas", fn := fun _ => fun
  | [d1, d2, d3] => { results := [.lit (.bool false)], args := [d1, d2, d3] }
  | _ => none }
def ShapeHasWrongFalsely : Prop := shapeHasRow.holds Try.pinned (OpenSpec.ofChange shapeHasWrong)

/- THE SECOND FORM. 'bulk': how many values and letters a reading holds, each counted each time it is reached (what is shared counts as often as it is met; a slice's spare places count too). A statement '..UptoSaid' is the law's where the arguments, and the package variables that the reading takes, are together of bulk at most 1048576: NARROWER than '..Said'. Prove '..Said' where nothing that the law and all that it calls make is longer than what came in: it says more and counts as full. Else prove '..UptoSaid'. A law counts once. -/
mutual
def uptoBulk {H : Type} : DataW H → Nat
  | .lit (.string bytes) => bytes.length + 1
  | .lit _ => 1
  | .nil => 1
  | .ptr d => uptoBulk d + 1
  | .slice elems spare => uptoBulkAll elems + uptoBulkAll spare + 1
  | .agg parts => uptoBulkAll parts + 1
  | .iface _ d => uptoBulk d + 1
  | .map entries => uptoBulkEntries entries + 1
  | .held _ => 1
def uptoBulkAll {H : Type} : List (DataW H) → Nat
  | [] => 0
  | d :: r => uptoBulk d + uptoBulkAll r
def uptoBulkEntries {H : Type} : List (Lit × DataW H) → Nat
  | [] => 0
  | x :: r => uptoBulkEntry x + uptoBulkEntries r
def uptoBulkEntry {H : Type} : Lit × DataW H → Nat
  | (.string bytes, d) => bytes.length + uptoBulk d + 1
  | (_, d) => uptoBulk d + 1
 end
def uptoSmall : (H : Type) → List (DataW H) → Bool := fun _ ds => decide (uptoBulkAll ds ≤ 1048576)
def OpenSpec.upto (s : _root_.Go.ChangeSpec) : _root_.Go.OpenSpec := { _root_.Go.OpenSpec.ofChange s with cond := some uptoSmall }

/-- 'draymanlaw16.ShapeOf', WHERE WHAT IT READS IS OF BULK AT MOST 1048576: true; the input reads as it did. -/
def shapeOfUptoRow : OpenClaim := { program := "ytpeghnhaekebdaa", sum := "9af47e0350ef9ff0f700a508cebbe01459b9bc54ed8bdf0aa84a687f74608fc6", func := "drayman/draymanlaw16.ShapeOf", spec := "shapeOf", inPlace := ["internal/abi.NoEscape", "internal/bytealg.IndexByteString", "internal/bytealg.IndexString"], unfollowed := true, recurses := true, named := ["internal/bytealg.MaxLen"], apart := false, narrowed := true }
def ShapeOfUptoSaid : Prop := shapeOfUptoRow.holds Try.pinned (OpenSpec.upto shapeOfSpec)

/-- 'draymanlaw16.ShapeSames', WHERE WHAT IT READS IS OF BULK AT MOST 1048576: true; the input reads as it did. -/
def shapeSamesUptoRow : OpenClaim := { program := "ytpeghnhaekebdaa", sum := "9af47e0350ef9ff0f700a508cebbe01459b9bc54ed8bdf0aa84a687f74608fc6", func := "drayman/draymanlaw16.ShapeSames", spec := "shapeSames", inPlace := ["internal/abi.NoEscape", "internal/bytealg.IndexByteString", "internal/bytealg.IndexString"], unfollowed := true, recurses := true, named := ["internal/bytealg.MaxLen"], apart := false, narrowed := true }
def ShapeSamesUptoSaid : Prop := shapeSamesUptoRow.holds Try.pinned (OpenSpec.upto shapeSamesSpec)

/-- 'draymanlaw16.ShapeHas', WHERE WHAT IT READS IS OF BULK AT MOST 1048576: true; the input reads as it did. -/
def shapeHasUptoRow : OpenClaim := { program := "ytpeghnhaekebdaa", sum := "9af47e0350ef9ff0f700a508cebbe01459b9bc54ed8bdf0aa84a687f74608fc6", func := "drayman/draymanlaw16.ShapeHas", spec := "shapeHas", inPlace := ["internal/abi.NoEscape", "internal/bytealg.IndexByteString", "internal/bytealg.IndexString"], unfollowed := true, recurses := true, named := ["internal/bytealg.MaxLen"], apart := false, narrowed := true }
def ShapeHasUptoSaid : Prop := shapeHasUptoRow.holds Try.pinned (OpenSpec.upto shapeHasSpec)

end Rows
end Go.Proofs.Ytpeghnhaekebdaa
