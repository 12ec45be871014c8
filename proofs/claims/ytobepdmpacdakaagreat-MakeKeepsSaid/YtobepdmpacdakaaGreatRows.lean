/-
  No cell of these rows narrows 'for every input' (looked for: loops, veiled, ifaces, maps, wideKeys, modest, calm, conditions, laid).
  DERIVED. THE GIVEN ROWS OF THIS SEAT. 6 by the template 'for every input the law returns true; each argument reads behind the call as it read before'; 0 by the template 'total and deterministic' (their statements: YtobepdmpacdakaaGreatTotals.lean).
  GIVEN WITH THE SEED: the statements are not yours to turn. If you find one false, say at which input.
  Laid BY PROGRAM, IN A SANDBOX (cutbox-rows.mjs): the forced cells as the released guide's own fill.sh prints them over the translation ea4aa20164ee5937… (all of the seat's roots in one cut). By AI agents, Wed Nov 11 2026. No macro, syntax, notation, axiom, sorry.
-/
import Derived.Test.YtobepdmpacdakaaGreatChecked
import GoSem.Claim
import GoSem.ClaimJoined
import GoSem.ClaimMapViews
import Derived.JoinedTies
import Derived.KernelRfl
namespace Go.Proofs.YtobepdmpacdakaaGreat
/- THE CELL 'sum', in the pinned program and in every row, IS THE sha256 OF THE DUMP (.gsa) THAT YtobepdmpacdakaaGreatProg.lean LOADS. Nothing in Lean hashes anything: it is a label: what it is worth is what the hold of that sum in a sandbox is worth. -/
noncomputable def Tryz.pinned : Pinned := { name := "ytobepdmpacdakaagreat", sum := "ea4aa20164ee5937474e714bd980611559617b14d87fff6fa5654f3cfdf3273f", checked := Tryz.checked }
namespace Rows
def none {H : Type} : Left H := { results := [], args := [] }

/-- 'draymanlaw11.MakeMkdirs': WHATEVER THE INPUT: true; the input reads as it did. -/
def makeMkdirsSpec : ChangeSpec := { name := "makeMkdirs", fn := fun _ => fun
  | [d1, d2, d3] => { results := [.lit (.bool true)], args := [d1, d2, d3] }
  | _ => none }
def makeMkdirsRow : OpenClaim := { program := "ytobepdmpacdakaagreat", sum := "ea4aa20164ee5937474e714bd980611559617b14d87fff6fa5654f3cfdf3273f", func := "drayman/draymanlaw11.MakeMkdirs", spec := "makeMkdirs", inPlace := ["internal/bytealg.IndexByteString", "internal/bytealg.IndexString", "internal/bytealg.abigen_runtime_cmpstring", "internal/abi.NoEscape"], unfollowed := true, recurses := true, named := ["internal/bytealg.MaxLen"], apart := false }
def MakeMkdirsSaid : Prop := makeMkdirsRow.holds Tryz.pinned (OpenSpec.ofChange makeMkdirsSpec)

/-- ITS FALSE NEIGHBOUR: 'it returns false'. Refute it at one input. -/
def makeMkdirsWrong : ChangeSpec := { name := "makeMkdirs", fn := fun _ => fun
  | [d1, d2, d3] => { results := [.lit (.bool false)], args := [d1, d2, d3] }
  | _ => none }
def MakeMkdirsWrongFalsely : Prop := makeMkdirsRow.holds Tryz.pinned (OpenSpec.ofChange makeMkdirsWrong)

/-- 'draymanlaw11.MakeCreates': WHATEVER THE INPUT: true; the input reads as it did. -/
def makeCreatesSpec : ChangeSpec := { name := "makeCreates", fn := fun _ => fun
  | [d1, d2, d3, d4] => { results := [.lit (.bool true)], args := [d1, d2, d3, d4] }
  | _ => none }
def makeCreatesRow : OpenClaim := { program := "ytobepdmpacdakaagreat", sum := "ea4aa20164ee5937474e714bd980611559617b14d87fff6fa5654f3cfdf3273f", func := "drayman/draymanlaw11.MakeCreates", spec := "makeCreates", inPlace := ["internal/bytealg.IndexByteString", "internal/bytealg.IndexString", "internal/bytealg.abigen_runtime_cmpstring", "internal/abi.NoEscape"], unfollowed := true, recurses := true, named := ["internal/bytealg.MaxLen"], apart := false }
def MakeCreatesSaid : Prop := makeCreatesRow.holds Tryz.pinned (OpenSpec.ofChange makeCreatesSpec)

/-- ITS FALSE NEIGHBOUR: 'it returns false'. Refute it at one input. -/
def makeCreatesWrong : ChangeSpec := { name := "makeCreates", fn := fun _ => fun
  | [d1, d2, d3, d4] => { results := [.lit (.bool false)], args := [d1, d2, d3, d4] }
  | _ => none }
def MakeCreatesWrongFalsely : Prop := makeCreatesRow.holds Tryz.pinned (OpenSpec.ofChange makeCreatesWrong)

/-- 'draymanlaw11.MakeSymlinks': WHATEVER THE INPUT: true; the input reads as it did. -/
def makeSymlinksSpec : ChangeSpec := { name := "makeSymlinks", fn := fun _ => fun
  | [d1, d2, d3, d4] => { results := [.lit (.bool true)], args := [d1, d2, d3, d4] }
  | _ => none }
def makeSymlinksRow : OpenClaim := { program := "ytobepdmpacdakaagreat", sum := "ea4aa20164ee5937474e714bd980611559617b14d87fff6fa5654f3cfdf3273f", func := "drayman/draymanlaw11.MakeSymlinks", spec := "makeSymlinks", inPlace := ["internal/bytealg.IndexByteString", "internal/bytealg.IndexString", "internal/bytealg.abigen_runtime_cmpstring", "internal/abi.NoEscape"], unfollowed := true, recurses := true, named := ["internal/bytealg.MaxLen"], apart := false }
def MakeSymlinksSaid : Prop := makeSymlinksRow.holds Tryz.pinned (OpenSpec.ofChange makeSymlinksSpec)

/-- ITS FALSE NEIGHBOUR: 'it returns false'. Refute it at one input. -/
def makeSymlinksWrong : ChangeSpec := { name := "makeSymlinks", fn := fun _ => fun
  | [d1, d2, d3, d4] => { results := [.lit (.bool false)], args := [d1, d2, d3, d4] }
  | _ => none }
def MakeSymlinksWrongFalsely : Prop := makeSymlinksRow.holds Tryz.pinned (OpenSpec.ofChange makeSymlinksWrong)

/-- 'draymanlaw11.MakeNews': WHATEVER THE INPUT: true; the input reads as it did. -/
def makeNewsSpec : ChangeSpec := { name := "makeNews", fn := fun _ => fun
  | [d1, d2, d3, d4, d5] => { results := [.lit (.bool true)], args := [d1, d2, d3, d4, d5] }
  | _ => none }
def makeNewsRow : OpenClaim := { program := "ytobepdmpacdakaagreat", sum := "ea4aa20164ee5937474e714bd980611559617b14d87fff6fa5654f3cfdf3273f", func := "drayman/draymanlaw11.MakeNews", spec := "makeNews", inPlace := ["internal/bytealg.IndexByteString", "internal/bytealg.IndexString", "internal/bytealg.abigen_runtime_cmpstring", "internal/abi.NoEscape"], unfollowed := true, recurses := true, named := ["internal/bytealg.MaxLen"], apart := false }
def MakeNewsSaid : Prop := makeNewsRow.holds Tryz.pinned (OpenSpec.ofChange makeNewsSpec)

/-- ITS FALSE NEIGHBOUR: 'it returns false'. Refute it at one input. -/
def makeNewsWrong : ChangeSpec := { name := "makeNews", fn := fun _ => fun
  | [d1, d2, d3, d4, d5] => { results := [.lit (.bool false)], args := [d1, d2, d3, d4, d5] }
  | _ => none }
def MakeNewsWrongFalsely : Prop := makeNewsRow.holds Tryz.pinned (OpenSpec.ofChange makeNewsWrong)

/-- 'draymanlaw11.MakeSound': WHATEVER THE INPUT: true; the input reads as it did. -/
def makeSoundSpec : ChangeSpec := { name := "makeSound", fn := fun _ => fun
  | [d1, d2, d3, d4, d5] => { results := [.lit (.bool true)], args := [d1, d2, d3, d4, d5] }
  | _ => none }
def makeSoundRow : OpenClaim := { program := "ytobepdmpacdakaagreat", sum := "ea4aa20164ee5937474e714bd980611559617b14d87fff6fa5654f3cfdf3273f", func := "drayman/draymanlaw11.MakeSound", spec := "makeSound", inPlace := ["internal/bytealg.IndexByteString", "internal/bytealg.IndexString", "internal/bytealg.abigen_runtime_cmpstring", "internal/abi.NoEscape"], unfollowed := true, recurses := true, named := ["internal/bytealg.MaxLen"], apart := false }
def MakeSoundSaid : Prop := makeSoundRow.holds Tryz.pinned (OpenSpec.ofChange makeSoundSpec)

/-- ITS FALSE NEIGHBOUR: 'it returns false'. Refute it at one input. -/
def makeSoundWrong : ChangeSpec := { name := "makeSound", fn := fun _ => fun
  | [d1, d2, d3, d4, d5] => { results := [.lit (.bool false)], args := [d1, d2, d3, d4, d5] }
  | _ => none }
def MakeSoundWrongFalsely : Prop := makeSoundRow.holds Tryz.pinned (OpenSpec.ofChange makeSoundWrong)

/-- 'draymanlaw11.MakeKeeps': WHATEVER THE INPUT: true; the input reads as it did. -/
def makeKeepsSpec : ChangeSpec := { name := "makeKeeps", fn := fun _ => fun
  | [d1, d2, d3, d4] => { results := [.lit (.bool true)], args := [d1, d2, d3, d4] }
  | _ => none }
def makeKeepsRow : OpenClaim := { program := "ytobepdmpacdakaagreat", sum := "ea4aa20164ee5937474e714bd980611559617b14d87fff6fa5654f3cfdf3273f", func := "drayman/draymanlaw11.MakeKeeps", spec := "makeKeeps", inPlace := ["internal/bytealg.IndexByteString", "internal/bytealg.IndexString", "internal/bytealg.abigen_runtime_cmpstring", "internal/abi.NoEscape"], unfollowed := true, recurses := true, named := ["internal/bytealg.MaxLen"], apart := false }
def MakeKeepsSaid : Prop := makeKeepsRow.holds Tryz.pinned (OpenSpec.ofChange makeKeepsSpec)

/-- ITS FALSE NEIGHBOUR: 'it returns false'. Refute it at one input. -/
def makeKeepsWrong : ChangeSpec := { name := "makeKeeps", fn := fun _ => fun
  | [d1, d2, d3, d4] => { results := [.lit (.bool false)], args := [d1, d2, d3, d4] }
  | _ => none }
def MakeKeepsWrongFalsely : Prop := makeKeepsRow.holds Tryz.pinned (OpenSpec.ofChange makeKeepsWrong)

/- THE SECOND FORM. 'bulk': how many values and letters a reading holds, each counted each time it is reached (what is shared counts as often as it is met; a slice's spare places count too). A statement '..UptoSaid' is the law's where the arguments, and the package variables that the reading takes, are together of bulk at most 1048576: NARROWER than '..Said'. Prove '..Said' where nothing that the law and all that it calls make is longer than what came in: it says more and counts as full. Else prove '..UptoSaid'. A law counts once. -/
mutual
def uptoBulk {H : Type} : DataW H → Nat
  | .lit (.string bytes) => bytes.length + 1
  | .lit _ => 1
  | .nil => 1
  | .ptr d => uptoBulk d + 1
  | .slice elems spare => uptoBulkAll elems + uptoBulkAll spare + 1
  | .agg parts => uptoBulkAll parts + 1
  | .iface _ d => uptoBulk d + 1
  | .map entries => uptoBulkEntries entries + 1
  | .held _ => 1
def uptoBulkAll {H : Type} : List (DataW H) → Nat
  | [] => 0
  | d :: r => uptoBulk d + uptoBulkAll r
def uptoBulkEntries {H : Type} : List (Lit × DataW H) → Nat
  | [] => 0
  | x :: r => uptoBulkEntry x + uptoBulkEntries r
def uptoBulkEntry {H : Type} : Lit × DataW H → Nat
  | (.string bytes, d) => bytes.length + uptoBulk d + 1
  | (_, d) => uptoBulk d + 1
 end
def uptoSmall : (H : Type) → List (DataW H) → Bool := fun _ ds => decide (uptoBulkAll ds ≤ 1048576)
def OpenSpec.upto (s : _root_.Go.ChangeSpec) : _root_.Go.OpenSpec := { _root_.Go.OpenSpec.ofChange s with cond := some uptoSmall }

/-- 'draymanlaw11.MakeMkdirs', WHERE WHAT IT READS IS OF BULK AT MOST 1048576: true; the input reads as it did. -/
def makeMkdirsUptoRow : OpenClaim := { program := "ytobepdmpacdakaagreat", sum := "ea4aa20164ee5937474e714bd980611559617b14d87fff6fa5654f3cfdf3273f", func := "drayman/draymanlaw11.MakeMkdirs", spec := "makeMkdirs", inPlace := ["internal/bytealg.IndexByteString", "internal/bytealg.IndexString", "internal/bytealg.abigen_runtime_cmpstring", "internal/abi.NoEscape"], unfollowed := true, recurses := true, named := ["internal/bytealg.MaxLen"], apart := false, narrowed := true }
def MakeMkdirsUptoSaid : Prop := makeMkdirsUptoRow.holds Tryz.pinned (OpenSpec.upto makeMkdirsSpec)

/-- 'draymanlaw11.MakeCreates', WHERE WHAT IT READS IS OF BULK AT MOST 1048576: true; the input reads as it did. -/
def makeCreatesUptoRow : OpenClaim := { program := "ytobepdmpacdakaagreat", sum := "ea4aa20164ee5937474e714bd980611559617b14d87fff6fa5654f3cfdf3273f", func := "drayman/draymanlaw11.MakeCreates", spec := "makeCreates", inPlace := ["internal/bytealg.IndexByteString", "internal/bytealg.IndexString", "internal/bytealg.abigen_runtime_cmpstring", "internal/abi.NoEscape"], unfollowed := true, recurses := true, named := ["internal/bytealg.MaxLen"], apart := false, narrowed := true }
def MakeCreatesUptoSaid : Prop := makeCreatesUptoRow.holds Tryz.pinned (OpenSpec.upto makeCreatesSpec)

/-- 'draymanlaw11.MakeSymlinks', WHERE WHAT IT READS IS OF BULK AT MOST 1048576: true; the input reads as it did. -/
def makeSymlinksUptoRow : OpenClaim := { program := "ytobepdmpacdakaagreat", sum := "ea4aa20164ee5937474e714bd980611559617b14d87fff6fa5654f3cfdf3273f", func := "drayman/draymanlaw11.MakeSymlinks", spec := "makeSymlinks", inPlace := ["internal/bytealg.IndexByteString", "internal/bytealg.IndexString", "internal/bytealg.abigen_runtime_cmpstring", "internal/abi.NoEscape"], unfollowed := true, recurses := true, named := ["internal/bytealg.MaxLen"], apart := false, narrowed := true }
def MakeSymlinksUptoSaid : Prop := makeSymlinksUptoRow.holds Tryz.pinned (OpenSpec.upto makeSymlinksSpec)

/-- 'draymanlaw11.MakeNews', WHERE WHAT IT READS IS OF BULK AT MOST 1048576: true; the input reads as it did. -/
def makeNewsUptoRow : OpenClaim := { program := "ytobepdmpacdakaagreat", sum := "ea4aa20164ee5937474e714bd980611559617b14d87fff6fa5654f3cfdf3273f", func := "drayman/draymanlaw11.MakeNews", spec := "makeNews", inPlace := ["internal/bytealg.IndexByteString", "internal/bytealg.IndexString", "internal/bytealg.abigen_runtime_cmpstring", "internal/abi.NoEscape"], unfollowed := true, recurses := true, named := ["internal/bytealg.MaxLen"], apart := false, narrowed := true }
def MakeNewsUptoSaid : Prop := makeNewsUptoRow.holds Tryz.pinned (OpenSpec.upto makeNewsSpec)

/-- 'draymanlaw11.MakeSound', WHERE WHAT IT READS IS OF BULK AT MOST 1048576: true; the input reads as it did. -/
def makeSoundUptoRow : OpenClaim := { program := "ytobepdmpacdakaagreat", sum := "ea4aa20164ee5937474e714bd980611559617b14d87fff6fa5654f3cfdf3273f", func := "drayman/draymanlaw11.MakeSound", spec := "makeSound", inPlace := ["internal/bytealg.IndexByteString", "internal/bytealg.IndexString", "internal/bytealg.abigen_runtime_cmpstring", "internal/abi.NoEscape"], unfollowed := true, recurses := true, named := ["internal/bytealg.MaxLen"], apart := false, narrowed := true }
def MakeSoundUptoSaid : Prop := makeSoundUptoRow.holds Tryz.pinned (OpenSpec.upto makeSoundSpec)

/-- 'draymanlaw11.MakeKeeps', WHERE WHAT IT READS IS OF BULK AT MOST 1048576: true; the input reads as it did. -/
def makeKeepsUptoRow : OpenClaim := { program := "ytobepdmpacdakaagreat", sum := "ea4aa20164ee5937474e714bd980611559617b14d87fff6fa5654f3cfdf3273f", func := "drayman/draymanlaw11.MakeKeeps", spec := "makeKeeps", inPlace := ["internal/bytealg.IndexByteString", "internal/bytealg.IndexString", "internal/bytealg.abigen_runtime_cmpstring", "internal/abi.NoEscape"], unfollowed := true, recurses := true, named := ["internal/bytealg.MaxLen"], apart := false, narrowed := true }
def MakeKeepsUptoSaid : Prop := makeKeepsUptoRow.holds Tryz.pinned (OpenSpec.upto makeKeepsSpec)

end Rows
end Go.Proofs.YtobepdmpacdakaaGreat
