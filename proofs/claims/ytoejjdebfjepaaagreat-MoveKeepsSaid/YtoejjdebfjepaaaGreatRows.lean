/-
  No cell of these rows narrows 'for every input' (looked for: loops, veiled, ifaces, maps, wideKeys, modest, calm, conditions, laid).
  DERIVED. THE GIVEN ROWS OF THIS SEAT. 5 by the template 'for every input the law returns true; each argument reads behind the call as it read before'; 0 by the template 'total and deterministic' (their statements: YtoejjdebfjepaaaGreatTotals.lean).
  GIVEN WITH THE SEED: the statements are not yours to turn. If you find one false, say at which input.
  Laid BY PROGRAM, IN A SANDBOX (cutbox-rows.mjs): the forced cells as the released guide's own fill.sh prints them over the translation 48ab8dff8eab102a… (all of the seat's roots in one cut). By AI agents, Wed Nov 11 2026. No macro, syntax, notation, axiom, sorry.
-/
import Derived.Test.YtoejjdebfjepaaaGreatChecked
import GoSem.Claim
import GoSem.ClaimJoined
import GoSem.ClaimMapViews
import Derived.JoinedTies
import Derived.KernelRfl
namespace Go.Proofs.YtoejjdebfjepaaaGreat
/- THE CELL 'sum', in the pinned program and in every row, IS THE sha256 OF THE DUMP (.gsa) THAT YtoejjdebfjepaaaGreatProg.lean LOADS. Nothing in Lean hashes anything: it is a label: what it is worth is what the hold of that sum in a sandbox is worth. -/
noncomputable def Tryz.pinned : Pinned := { name := "ytoejjdebfjepaaagreat", sum := "48ab8dff8eab102a777238fb9c102c096b7eef511028a29188f27f8bd76d0f77", checked := Tryz.checked }
namespace Rows
def none {H : Type} : Left H := { results := [], args := [] }

/-- 'draymanlaw14.MoveRenames': WHATEVER THE INPUT: true; the input reads as it did. -/
def moveRenamesSpec : ChangeSpec := { name := "moveRenames", fn := fun _ => fun
  | [d1, d2, d3, d4] => { results := [.lit (.bool true)], args := [d1, d2, d3, d4] }
  | _ => none }
def moveRenamesRow : OpenClaim := { program := "ytoejjdebfjepaaagreat", sum := "48ab8dff8eab102a777238fb9c102c096b7eef511028a29188f27f8bd76d0f77", func := "drayman/draymanlaw14.MoveRenames", spec := "moveRenames", inPlace := ["internal/bytealg.IndexByteString", "internal/bytealg.IndexString", "internal/abi.NoEscape", "internal/bytealg.abigen_runtime_cmpstring"], unfollowed := true, recurses := true, named := ["internal/bytealg.MaxLen"], apart := false }
def MoveRenamesSaid : Prop := moveRenamesRow.holds Tryz.pinned (OpenSpec.ofChange moveRenamesSpec)

/-- ITS FALSE NEIGHBOUR: 'it returns false'. Refute it at one input. -/
def moveRenamesWrong : ChangeSpec := { name := "moveRenames", fn := fun _ => fun
  | [d1, d2, d3, d4] => { results := [.lit (.bool false)], args := [d1, d2, d3, d4] }
  | _ => none }
def MoveRenamesWrongFalsely : Prop := moveRenamesRow.holds Tryz.pinned (OpenSpec.ofChange moveRenamesWrong)

/-- 'draymanlaw14.MoveInside': WHATEVER THE INPUT: true; the input reads as it did. -/
def moveInsideSpec : ChangeSpec := { name := "moveInside", fn := fun _ => fun
  | [d1, d2, d3] => { results := [.lit (.bool true)], args := [d1, d2, d3] }
  | _ => none }
def moveInsideRow : OpenClaim := { program := "ytoejjdebfjepaaagreat", sum := "48ab8dff8eab102a777238fb9c102c096b7eef511028a29188f27f8bd76d0f77", func := "drayman/draymanlaw14.MoveInside", spec := "moveInside", inPlace := ["internal/bytealg.IndexByteString", "internal/bytealg.IndexString", "internal/abi.NoEscape", "internal/bytealg.abigen_runtime_cmpstring"], unfollowed := true, recurses := true, named := ["internal/bytealg.MaxLen"], apart := false }
def MoveInsideSaid : Prop := moveInsideRow.holds Tryz.pinned (OpenSpec.ofChange moveInsideSpec)

/-- ITS FALSE NEIGHBOUR: 'it returns false'. Refute it at one input. -/
def moveInsideWrong : ChangeSpec := { name := "moveInside", fn := fun _ => fun
  | [d1, d2, d3] => { results := [.lit (.bool false)], args := [d1, d2, d3] }
  | _ => none }
def MoveInsideWrongFalsely : Prop := moveInsideRow.holds Tryz.pinned (OpenSpec.ofChange moveInsideWrong)

/-- 'draymanlaw14.MoveMoves': WHATEVER THE INPUT: true; the input reads as it did. -/
def moveMovesSpec : ChangeSpec := { name := "moveMoves", fn := fun _ => fun
  | [d1, d2, d3] => { results := [.lit (.bool true)], args := [d1, d2, d3] }
  | _ => none }
def moveMovesRow : OpenClaim := { program := "ytoejjdebfjepaaagreat", sum := "48ab8dff8eab102a777238fb9c102c096b7eef511028a29188f27f8bd76d0f77", func := "drayman/draymanlaw14.MoveMoves", spec := "moveMoves", inPlace := ["internal/bytealg.IndexByteString", "internal/bytealg.IndexString", "internal/abi.NoEscape", "internal/bytealg.abigen_runtime_cmpstring"], unfollowed := true, recurses := true, named := ["internal/bytealg.MaxLen"], apart := false }
def MoveMovesSaid : Prop := moveMovesRow.holds Tryz.pinned (OpenSpec.ofChange moveMovesSpec)

/-- ITS FALSE NEIGHBOUR: 'it returns false'. Refute it at one input. -/
def moveMovesWrong : ChangeSpec := { name := "moveMoves", fn := fun _ => fun
  | [d1, d2, d3] => { results := [.lit (.bool false)], args := [d1, d2, d3] }
  | _ => none }
def MoveMovesWrongFalsely : Prop := moveMovesRow.holds Tryz.pinned (OpenSpec.ofChange moveMovesWrong)

/-- 'draymanlaw14.MoveSound': WHATEVER THE INPUT: true; the input reads as it did. -/
def moveSoundSpec : ChangeSpec := { name := "moveSound", fn := fun _ => fun
  | [d1, d2, d3] => { results := [.lit (.bool true)], args := [d1, d2, d3] }
  | _ => none }
def moveSoundRow : OpenClaim := { program := "ytoejjdebfjepaaagreat", sum := "48ab8dff8eab102a777238fb9c102c096b7eef511028a29188f27f8bd76d0f77", func := "drayman/draymanlaw14.MoveSound", spec := "moveSound", inPlace := ["internal/bytealg.IndexByteString", "internal/bytealg.IndexString", "internal/abi.NoEscape", "internal/bytealg.abigen_runtime_cmpstring"], unfollowed := true, recurses := true, named := ["internal/bytealg.MaxLen"], apart := false }
def MoveSoundSaid : Prop := moveSoundRow.holds Tryz.pinned (OpenSpec.ofChange moveSoundSpec)

/-- ITS FALSE NEIGHBOUR: 'it returns false'. Refute it at one input. -/
def moveSoundWrong : ChangeSpec := { name := "moveSound", fn := fun _ => fun
  | [d1, d2, d3] => { results := [.lit (.bool false)], args := [d1, d2, d3] }
  | _ => none }
def MoveSoundWrongFalsely : Prop := moveSoundRow.holds Tryz.pinned (OpenSpec.ofChange moveSoundWrong)

/-- 'draymanlaw14.MoveKeeps': WHATEVER THE INPUT: true; the input reads as it did. -/
def moveKeepsSpec : ChangeSpec := { name := "moveKeeps", fn := fun _ => fun
  | [d1, d2, d3, d4] => { results := [.lit (.bool true)], args := [d1, d2, d3, d4] }
  | _ => none }
def moveKeepsRow : OpenClaim := { program := "ytoejjdebfjepaaagreat", sum := "48ab8dff8eab102a777238fb9c102c096b7eef511028a29188f27f8bd76d0f77", func := "drayman/draymanlaw14.MoveKeeps", spec := "moveKeeps", inPlace := ["internal/bytealg.IndexByteString", "internal/bytealg.IndexString", "internal/abi.NoEscape", "internal/bytealg.abigen_runtime_cmpstring"], unfollowed := true, recurses := true, named := ["internal/bytealg.MaxLen"], apart := false }
def MoveKeepsSaid : Prop := moveKeepsRow.holds Tryz.pinned (OpenSpec.ofChange moveKeepsSpec)

/-- ITS FALSE NEIGHBOUR: 'it returns false'. Refute it at one input. -/
def moveKeepsWrong : ChangeSpec := { name := "moveKeeps", fn := fun _ => fun
  | [d1, d2, d3, d4] => { results := [.lit (.bool false)], args := [d1, d2, d3, d4] }
  | _ => none }
def MoveKeepsWrongFalsely : Prop := moveKeepsRow.holds Tryz.pinned (OpenSpec.ofChange moveKeepsWrong)

/- THE SECOND FORM. 'bulk': how many values and letters a reading holds, each counted each time it is reached (what is shared counts as often as it is met; a slice's spare places count too). A statement '..UptoSaid' is the law's where the arguments, and the package variables that the reading takes, are together of bulk at most 1048576: NARROWER than '..Said'. Prove '..Said' where nothing that the law and all that it calls make is longer than what came in: it says more and counts as full. Else prove '..UptoSaid'. A law counts once. -/
mutual
def uptoBulk {H : Type} : DataW H → Nat
  | .lit (.string bytes) => bytes.length + 1
  | .lit _ => 1
  | .nil => 1
  | .ptr d => uptoBulk d + 1
  | .slice elems spare => uptoBulkAll elems + uptoBulkAll spare + 1
  | .agg parts => uptoBulkAll parts + 1
  | .iface _ d => uptoBulk d + 1
  | .map entries => uptoBulkEntries entries + 1
  | .held _ => 1
def uptoBulkAll {H : Type} : List (DataW H) → Nat
  | [] => 0
  | d :: r => uptoBulk d + uptoBulkAll r
def uptoBulkEntries {H : Type} : List (Lit × DataW H) → Nat
  | [] => 0
  | x :: r => uptoBulkEntry x + uptoBulkEntries r
def uptoBulkEntry {H : Type} : Lit × DataW H → Nat
  | (.string bytes, d) => bytes.length + uptoBulk d + 1
  | (_, d) => uptoBulk d + 1
 end
def uptoSmall : (H : Type) → List (DataW H) → Bool := fun _ ds => decide (uptoBulkAll ds ≤ 1048576)
def OpenSpec.upto (s : _root_.Go.ChangeSpec) : _root_.Go.OpenSpec := { _root_.Go.OpenSpec.ofChange s with cond := some uptoSmall }

/-- 'draymanlaw14.MoveRenames', WHERE WHAT IT READS IS OF BULK AT MOST 1048576: true; the input reads as it did. -/
def moveRenamesUptoRow : OpenClaim := { program := "ytoejjdebfjepaaagreat", sum := "48ab8dff8eab102a777238fb9c102c096b7eef511028a29188f27f8bd76d0f77", func := "drayman/draymanlaw14.MoveRenames", spec := "moveRenames", inPlace := ["internal/bytealg.IndexByteString", "internal/bytealg.IndexString", "internal/abi.NoEscape", "internal/bytealg.abigen_runtime_cmpstring"], unfollowed := true, recurses := true, named := ["internal/bytealg.MaxLen"], apart := false, narrowed := true }
def MoveRenamesUptoSaid : Prop := moveRenamesUptoRow.holds Tryz.pinned (OpenSpec.upto moveRenamesSpec)

/-- 'draymanlaw14.MoveInside', WHERE WHAT IT READS IS OF BULK AT MOST 1048576: true; the input reads as it did. -/
def moveInsideUptoRow : OpenClaim := { program := "ytoejjdebfjepaaagreat", sum := "48ab8dff8eab102a777238fb9c102c096b7eef511028a29188f27f8bd76d0f77", func := "drayman/draymanlaw14.MoveInside", spec := "moveInside", inPlace := ["internal/bytealg.IndexByteString", "internal/bytealg.IndexString", "internal/abi.NoEscape", "internal/bytealg.abigen_runtime_cmpstring"], unfollowed := true, recurses := true, named := ["internal/bytealg.MaxLen"], apart := false, narrowed := true }
def MoveInsideUptoSaid : Prop := moveInsideUptoRow.holds Tryz.pinned (OpenSpec.upto moveInsideSpec)

/-- 'draymanlaw14.MoveMoves', WHERE WHAT IT READS IS OF BULK AT MOST 1048576: true; the input reads as it did. -/
def moveMovesUptoRow : OpenClaim := { program := "ytoejjdebfjepaaagreat", sum := "48ab8dff8eab102a777238fb9c102c096b7eef511028a29188f27f8bd76d0f77", func := "drayman/draymanlaw14.MoveMoves", spec := "moveMoves", inPlace := ["internal/bytealg.IndexByteString", "internal/bytealg.IndexString", "internal/abi.NoEscape", "internal/bytealg.abigen_runtime_cmpstring"], unfollowed := true, recurses := true, named := ["internal/bytealg.MaxLen"], apart := false, narrowed := true }
def MoveMovesUptoSaid : Prop := moveMovesUptoRow.holds Tryz.pinned (OpenSpec.upto moveMovesSpec)

/-- 'draymanlaw14.MoveSound', WHERE WHAT IT READS IS OF BULK AT MOST 1048576: true; the input reads as it did. -/
def moveSoundUptoRow : OpenClaim := { program := "ytoejjdebfjepaaagreat", sum := "48ab8dff8eab102a777238fb9c102c096b7eef511028a29188f27f8bd76d0f77", func := "drayman/draymanlaw14.MoveSound", spec := "moveSound", inPlace := ["internal/bytealg.IndexByteString", "internal/bytealg.IndexString", "internal/abi.NoEscape", "internal/bytealg.abigen_runtime_cmpstring"], unfollowed := true, recurses := true, named := ["internal/bytealg.MaxLen"], apart := false, narrowed := true }
def MoveSoundUptoSaid : Prop := moveSoundUptoRow.holds Tryz.pinned (OpenSpec.upto moveSoundSpec)

/-- 'draymanlaw14.MoveKeeps', WHERE WHAT IT READS IS OF BULK AT MOST 1048576: true; the input reads as it did. -/
def moveKeepsUptoRow : OpenClaim := { program := "ytoejjdebfjepaaagreat", sum := "48ab8dff8eab102a777238fb9c102c096b7eef511028a29188f27f8bd76d0f77", func := "drayman/draymanlaw14.MoveKeeps", spec := "moveKeeps", inPlace := ["internal/bytealg.IndexByteString", "internal/bytealg.IndexString", "internal/abi.NoEscape", "internal/bytealg.abigen_runtime_cmpstring"], unfollowed := true, recurses := true, named := ["internal/bytealg.MaxLen"], apart := false, narrowed := true }
def MoveKeepsUptoSaid : Prop := moveKeepsUptoRow.holds Tryz.pinned (OpenSpec.upto moveKeepsSpec)

end Rows
end Go.Proofs.YtoejjdebfjepaaaGreat
