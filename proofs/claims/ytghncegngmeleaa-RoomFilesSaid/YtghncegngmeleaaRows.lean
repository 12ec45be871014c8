/-
  No cell of these rows narrows 'for every input' (looked for: loops, veiled, ifaces, maps, wideKeys, modest, calm, conditions, laid).
  DERIVED. THE GIVEN ROWS OF THIS SEAT. 3 by the template 'for every input the law returns true; each argument reads behind the call as it read before'; 0 by the template 'total and deterministic' (their statements: YtghncegngmeleaaTotals.lean).
  GIVEN WITH THE SEED: the statements are not yours to turn. If you find one false, say at which input.
  Laid BY PROGRAM, IN A SANDBOX (cutbox-rows.mjs): the forced cells as the released guide's own fill.sh prints them over the translation 7a91ad6e1d56fbe4… (all of the seat's roots in one cut). By AI agents, Wed Nov 11 2026. No macro, syntax, notation, axiom, sorry.
-/
import Derived.Test.YtghncegngmeleaaChecked
import GoSem.Claim
import GoSem.ClaimJoined
import GoSem.ClaimMapViews
import Derived.JoinedTies
import Derived.KernelRfl
namespace Go.Proofs.Ytghncegngmeleaa
/- THE CELL 'sum', in the pinned program and in every row, IS THE sha256 OF THE DUMP (.gsa) THAT YtghncegngmeleaaProg.lean LOADS. Nothing in Lean hashes anything: it is a label: what it is worth is what the hold of that sum in a sandbox is worth. -/
noncomputable def Try.pinned : Pinned := { name := "ytghncegngmeleaa", sum := "7a91ad6e1d56fbe40d0389b1613e2fa698299ca032727fc91c605eef7a3fb313", checked := Try.checked }
namespace Rows
def none {H : Type} : Left H := { results := [], args := [] }

/-- 'draymanlaw06.RoomCounts': WHATEVER THE INPUT: true; the input reads as it did. -/
def roomCountsSpec : ChangeSpec := { name := "roomCounts", fn := fun _ => fun
  | [d1, d2, d3] => { results := [.lit (.bool true)], args := [d1, d2, d3] }
  | _ => none }
def roomCountsRow : OpenClaim := { program := "ytghncegngmeleaa", sum := "7a91ad6e1d56fbe40d0389b1613e2fa698299ca032727fc91c605eef7a3fb313", func := "drayman/draymanlaw06.RoomCounts", spec := "roomCounts", apart := false }
def RoomCountsSaid : Prop := roomCountsRow.holds Try.pinned (OpenSpec.ofChange roomCountsSpec)

/-- ITS FALSE NEIGHBOUR: 'it returns false'. Refute it at one input. -/
def roomCountsWrong : ChangeSpec := { name := "roomCounts", fn := fun _ => fun
  | [d1, d2, d3] => { results := [.lit (.bool false)], args := [d1, d2, d3] }
  | _ => none }
def RoomCountsWrongFalsely : Prop := roomCountsRow.holds Try.pinned (OpenSpec.ofChange roomCountsWrong)

/-- 'draymanlaw06.RoomMore': WHATEVER THE INPUT: true; the input reads as it did. -/
def roomMoreSpec : ChangeSpec := { name := "roomMore", fn := fun _ => fun
  | [d1, d2, d3, d4] => { results := [.lit (.bool true)], args := [d1, d2, d3, d4] }
  | _ => none }
def roomMoreRow : OpenClaim := { program := "ytghncegngmeleaa", sum := "7a91ad6e1d56fbe40d0389b1613e2fa698299ca032727fc91c605eef7a3fb313", func := "drayman/draymanlaw06.RoomMore", spec := "roomMore", apart := false }
def RoomMoreSaid : Prop := roomMoreRow.holds Try.pinned (OpenSpec.ofChange roomMoreSpec)

/-- ITS FALSE NEIGHBOUR: 'it returns false'. Refute it at one input. -/
def roomMoreWrong : ChangeSpec := { name := "roomMore", fn := fun _ => fun
  | [d1, d2, d3, d4] => { results := [.lit (.bool false)], args := [d1, d2, d3, d4] }
  | _ => none }
def RoomMoreWrongFalsely : Prop := roomMoreRow.holds Try.pinned (OpenSpec.ofChange roomMoreWrong)

/-- 'draymanlaw06.RoomFiles': WHATEVER THE INPUT: true; the input reads as it did. -/
def roomFilesSpec : ChangeSpec := { name := "roomFiles", fn := fun _ => fun
  | [d1, d2] => { results := [.lit (.bool true)], args := [d1, d2] }
  | _ => none }
def roomFilesRow : OpenClaim := { program := "ytghncegngmeleaa", sum := "7a91ad6e1d56fbe40d0389b1613e2fa698299ca032727fc91c605eef7a3fb313", func := "drayman/draymanlaw06.RoomFiles", spec := "roomFiles", apart := false }
def RoomFilesSaid : Prop := roomFilesRow.holds Try.pinned (OpenSpec.ofChange roomFilesSpec)

/-- ITS FALSE NEIGHBOUR: 'it returns false'. Refute it at one input. -/
def roomFilesWrong : ChangeSpec := { name := "roomFiles", fn := fun _ => fun
  | [d1, d2] => { results := [.lit (.bool false)], args := [d1, d2] }
  | _ => none }
def RoomFilesWrongFalsely : Prop := roomFilesRow.holds Try.pinned (OpenSpec.ofChange roomFilesWrong)

/- THE SECOND FORM. 'bulk': how many values and letters a reading holds, each counted each time it is reached (what is shared counts as often as it is met; a slice's spare places count too). A statement '..UptoSaid' is the law's where the arguments, and the package variables that the reading takes, are together of bulk at most 1048576: NARROWER than '..Said'. Prove '..Said' where nothing that the law and all that it calls make is longer than what came in: it says more and counts as full. Else prove '..UptoSaid'. A law counts once. -/
mutual
def uptoBulk {H : Type} : DataW H → Nat
  | .lit (.string bytes) => bytes.length + 1
  | .lit _ => 1
  | .nil => 1
  | .ptr d => uptoBulk d + 1
  | .slice elems spare => uptoBulkAll elems + uptoBulkAll spare + 1
  | .agg parts => uptoBulkAll parts + 1
  | .iface _ d => uptoBulk d + 1
  | .map entries => uptoBulkEntries entries + 1
  | .held _ => 1
def uptoBulkAll {H : Type} : List (DataW H) → Nat
  | [] => 0
  | d :: r => uptoBulk d + uptoBulkAll r
def uptoBulkEntries {H : Type} : List (Lit × DataW H) → Nat
  | [] => 0
  | x :: r => uptoBulkEntry x + uptoBulkEntries r
def uptoBulkEntry {H : Type} : Lit × DataW H → Nat
  | (.string bytes, d) => bytes.length + uptoBulk d + 1
  | (_, d) => uptoBulk d + 1
 end
def uptoSmall : (H : Type) → List (DataW H) → Bool := fun _ ds => decide (uptoBulkAll ds ≤ 1048576)
def OpenSpec.upto (s : _root_.Go.ChangeSpec) : _root_.Go.OpenSpec := { _root_.Go.OpenSpec.ofChange s with cond := some uptoSmall }

/-- 'draymanlaw06.RoomCounts', WHERE WHAT IT READS IS OF BULK AT MOST 1048576: true; the input reads as it did. -/
def roomCountsUptoRow : OpenClaim := { program := "ytghncegngmeleaa", sum := "7a91ad6e1d56fbe40d0389b1613e2fa698299ca032727fc91c605eef7a3fb313", func := "drayman/draymanlaw06.RoomCounts", spec := "roomCounts", apart := false, narrowed := true }
def RoomCountsUptoSaid : Prop := roomCountsUptoRow.holds Try.pinned (OpenSpec.upto roomCountsSpec)

/-- 'draymanlaw06.RoomMore', WHERE WHAT IT READS IS OF BULK AT MOST 1048576: true; the input reads as it did. -/
def roomMoreUptoRow : OpenClaim := { program := "ytghncegngmeleaa", sum := "7a91ad6e1d56fbe40d0389b1613e2fa698299ca032727fc91c605eef7a3fb313", func := "drayman/draymanlaw06.RoomMore", spec := "roomMore", apart := false, narrowed := true }
def RoomMoreUptoSaid : Prop := roomMoreUptoRow.holds Try.pinned (OpenSpec.upto roomMoreSpec)

/-- 'draymanlaw06.RoomFiles', WHERE WHAT IT READS IS OF BULK AT MOST 1048576: true; the input reads as it did. -/
def roomFilesUptoRow : OpenClaim := { program := "ytghncegngmeleaa", sum := "7a91ad6e1d56fbe40d0389b1613e2fa698299ca032727fc91c605eef7a3fb313", func := "drayman/draymanlaw06.RoomFiles", spec := "roomFiles", apart := false, narrowed := true }
def RoomFilesUptoSaid : Prop := roomFilesUptoRow.holds Try.pinned (OpenSpec.upto roomFilesSpec)

end Rows
end Go.Proofs.Ytghncegngmeleaa
