/-
  No cell of these rows narrows 'for every input' (looked for: loops, veiled, ifaces, maps, wideKeys, modest, calm, conditions, laid).
  DERIVED. THE GIVEN ROWS OF THIS SEAT. 6 by the template 'for every input the law returns true; each argument reads behind the call as it read before'; 0 by the template 'total and deterministic' (their statements: YtdgedcfenpmaoaaGreatTotals.lean).
  GIVEN WITH THE SEED: the statements are not yours to turn. If you find one false, say at which input.
  Laid BY PROGRAM, IN A SANDBOX (cutbox-rows.mjs): the forced cells as the released guide's own fill.sh prints them over the translation 010cc12a3fa5ad7d… (all of the seat's roots in one cut). By AI agents, Wed Nov 11 2026. No macro, syntax, notation, axiom, sorry.
-/
import Derived.Test.YtdgedcfenpmaoaaGreatChecked
import GoSem.Claim
import GoSem.ClaimJoined
import GoSem.ClaimMapViews
import Derived.JoinedTies
import Derived.KernelRfl
namespace Go.Proofs.YtdgedcfenpmaoaaGreat
/- THE CELL 'sum', in the pinned program and in every row, IS THE sha256 OF THE DUMP (.gsa) THAT YtdgedcfenpmaoaaGreatProg.lean LOADS. Nothing in Lean hashes anything: it is a label: what it is worth is what the hold of that sum in a sandbox is worth. -/
noncomputable def Tryz.pinned : Pinned := { name := "ytdgedcfenpmaoaagreat", sum := "010cc12a3fa5ad7d4a0aaad478f06b4c08b4c60ca5b115e027ac796dd5423a00", checked := Tryz.checked }
namespace Rows
def none {H : Type} : Left H := { results := [], args := [] }

/-- 'draymanlaw12.DropLinks': WHATEVER THE INPUT: true; the input reads as it did. -/
def dropLinksSpec : ChangeSpec := { name := "dropLinks", fn := fun _ => fun
  | [d1, d2, d3, d4] => { results := [.lit (.bool true)], args := [d1, d2, d3, d4] }
  | _ => none }
def dropLinksRow : OpenClaim := { program := "ytdgedcfenpmaoaagreat", sum := "010cc12a3fa5ad7d4a0aaad478f06b4c08b4c60ca5b115e027ac796dd5423a00", func := "drayman/draymanlaw12.DropLinks", spec := "dropLinks", inPlace := ["internal/bytealg.IndexByteString", "internal/bytealg.IndexString", "internal/abi.NoEscape", "internal/bytealg.abigen_runtime_cmpstring"], unfollowed := true, recurses := true, named := ["internal/bytealg.MaxLen"], apart := false }
def DropLinksSaid : Prop := dropLinksRow.holds Tryz.pinned (OpenSpec.ofChange dropLinksSpec)

/-- ITS FALSE NEIGHBOUR: 'it returns false'. Refute it at one input. -/
def dropLinksWrong : ChangeSpec := { name := "dropLinks", fn := fun _ => fun
  | [d1, d2, d3, d4] => { results := [.lit (.bool false)], args := [d1, d2, d3, d4] }
  | _ => none }
def DropLinksWrongFalsely : Prop := dropLinksRow.holds Tryz.pinned (OpenSpec.ofChange dropLinksWrong)

/-- 'draymanlaw12.DropUnlinks': WHATEVER THE INPUT: true; the input reads as it did. -/
def dropUnlinksSpec : ChangeSpec := { name := "dropUnlinks", fn := fun _ => fun
  | [d1, d2, d3] => { results := [.lit (.bool true)], args := [d1, d2, d3] }
  | _ => none }
def dropUnlinksRow : OpenClaim := { program := "ytdgedcfenpmaoaagreat", sum := "010cc12a3fa5ad7d4a0aaad478f06b4c08b4c60ca5b115e027ac796dd5423a00", func := "drayman/draymanlaw12.DropUnlinks", spec := "dropUnlinks", inPlace := ["internal/bytealg.IndexByteString", "internal/bytealg.IndexString", "internal/abi.NoEscape", "internal/bytealg.abigen_runtime_cmpstring"], unfollowed := true, recurses := true, named := ["internal/bytealg.MaxLen"], apart := false }
def DropUnlinksSaid : Prop := dropUnlinksRow.holds Tryz.pinned (OpenSpec.ofChange dropUnlinksSpec)

/-- ITS FALSE NEIGHBOUR: 'it returns false'. Refute it at one input. -/
def dropUnlinksWrong : ChangeSpec := { name := "dropUnlinks", fn := fun _ => fun
  | [d1, d2, d3] => { results := [.lit (.bool false)], args := [d1, d2, d3] }
  | _ => none }
def DropUnlinksWrongFalsely : Prop := dropUnlinksRow.holds Tryz.pinned (OpenSpec.ofChange dropUnlinksWrong)

/-- 'draymanlaw12.DropNames': WHATEVER THE INPUT: true; the input reads as it did. -/
def dropNamesSpec : ChangeSpec := { name := "dropNames", fn := fun _ => fun
  | [d1, d2, d3, d4] => { results := [.lit (.bool true)], args := [d1, d2, d3, d4] }
  | _ => none }
def dropNamesRow : OpenClaim := { program := "ytdgedcfenpmaoaagreat", sum := "010cc12a3fa5ad7d4a0aaad478f06b4c08b4c60ca5b115e027ac796dd5423a00", func := "drayman/draymanlaw12.DropNames", spec := "dropNames", inPlace := ["internal/bytealg.IndexByteString", "internal/bytealg.IndexString", "internal/abi.NoEscape", "internal/bytealg.abigen_runtime_cmpstring"], unfollowed := true, recurses := true, named := ["internal/bytealg.MaxLen"], apart := false }
def DropNamesSaid : Prop := dropNamesRow.holds Tryz.pinned (OpenSpec.ofChange dropNamesSpec)

/-- ITS FALSE NEIGHBOUR: 'it returns false'. Refute it at one input. -/
def dropNamesWrong : ChangeSpec := { name := "dropNames", fn := fun _ => fun
  | [d1, d2, d3, d4] => { results := [.lit (.bool false)], args := [d1, d2, d3, d4] }
  | _ => none }
def DropNamesWrongFalsely : Prop := dropNamesRow.holds Tryz.pinned (OpenSpec.ofChange dropNamesWrong)

/-- 'draymanlaw12.DropSound': WHATEVER THE INPUT: true; the input reads as it did. -/
def dropSoundSpec : ChangeSpec := { name := "dropSound", fn := fun _ => fun
  | [d1, d2, d3, d4, d5] => { results := [.lit (.bool true)], args := [d1, d2, d3, d4, d5] }
  | _ => none }
def dropSoundRow : OpenClaim := { program := "ytdgedcfenpmaoaagreat", sum := "010cc12a3fa5ad7d4a0aaad478f06b4c08b4c60ca5b115e027ac796dd5423a00", func := "drayman/draymanlaw12.DropSound", spec := "dropSound", inPlace := ["internal/bytealg.IndexByteString", "internal/bytealg.IndexString", "internal/abi.NoEscape", "internal/bytealg.abigen_runtime_cmpstring"], unfollowed := true, recurses := true, named := ["internal/bytealg.MaxLen"], apart := false }
def DropSoundSaid : Prop := dropSoundRow.holds Tryz.pinned (OpenSpec.ofChange dropSoundSpec)

/-- ITS FALSE NEIGHBOUR: 'it returns false'. Refute it at one input. -/
def dropSoundWrong : ChangeSpec := { name := "dropSound", fn := fun _ => fun
  | [d1, d2, d3, d4, d5] => { results := [.lit (.bool false)], args := [d1, d2, d3, d4, d5] }
  | _ => none }
def DropSoundWrongFalsely : Prop := dropSoundRow.holds Tryz.pinned (OpenSpec.ofChange dropSoundWrong)

/-- 'draymanlaw12.DropBack': WHATEVER THE INPUT: true; the input reads as it did. -/
def dropBackSpec : ChangeSpec := { name := "dropBack", fn := fun _ => fun
  | [d1, d2, d3, d4] => { results := [.lit (.bool true)], args := [d1, d2, d3, d4] }
  | _ => none }
def dropBackRow : OpenClaim := { program := "ytdgedcfenpmaoaagreat", sum := "010cc12a3fa5ad7d4a0aaad478f06b4c08b4c60ca5b115e027ac796dd5423a00", func := "drayman/draymanlaw12.DropBack", spec := "dropBack", inPlace := ["internal/bytealg.IndexByteString", "internal/bytealg.IndexString", "internal/abi.NoEscape", "internal/bytealg.abigen_runtime_cmpstring"], unfollowed := true, recurses := true, named := ["internal/bytealg.MaxLen"], apart := false }
def DropBackSaid : Prop := dropBackRow.holds Tryz.pinned (OpenSpec.ofChange dropBackSpec)

/-- ITS FALSE NEIGHBOUR: 'it returns false'. Refute it at one input. -/
def dropBackWrong : ChangeSpec := { name := "dropBack", fn := fun _ => fun
  | [d1, d2, d3, d4] => { results := [.lit (.bool false)], args := [d1, d2, d3, d4] }
  | _ => none }
def DropBackWrongFalsely : Prop := dropBackRow.holds Tryz.pinned (OpenSpec.ofChange dropBackWrong)

/-- 'draymanlaw12.DropKeeps': WHATEVER THE INPUT: true; the input reads as it did. -/
def dropKeepsSpec : ChangeSpec := { name := "dropKeeps", fn := fun _ => fun
  | [d1, d2, d3, d4] => { results := [.lit (.bool true)], args := [d1, d2, d3, d4] }
  | _ => none }
def dropKeepsRow : OpenClaim := { program := "ytdgedcfenpmaoaagreat", sum := "010cc12a3fa5ad7d4a0aaad478f06b4c08b4c60ca5b115e027ac796dd5423a00", func := "drayman/draymanlaw12.DropKeeps", spec := "dropKeeps", inPlace := ["internal/bytealg.IndexByteString", "internal/bytealg.IndexString", "internal/abi.NoEscape", "internal/bytealg.abigen_runtime_cmpstring"], unfollowed := true, recurses := true, named := ["internal/bytealg.MaxLen"], apart := false }
def DropKeepsSaid : Prop := dropKeepsRow.holds Tryz.pinned (OpenSpec.ofChange dropKeepsSpec)

/-- ITS FALSE NEIGHBOUR: 'it returns false'. Refute it at one input. -/
def dropKeepsWrong : ChangeSpec := { name := "dropKeeps", fn := fun _ => fun
  | [d1, d2, d3, d4] => { results := [.lit (.bool false)], args := [d1, d2, d3, d4] }
  | _ => none }
def DropKeepsWrongFalsely : Prop := dropKeepsRow.holds Tryz.pinned (OpenSpec.ofChange dropKeepsWrong)

/- THE SECOND FORM. 'bulk': how many values and letters a reading holds, each counted each time it is reached (what is shared counts as often as it is met; a slice's spare places count too). A statement '..UptoSaid' is the law's where the arguments, and the package variables that the reading takes, are together of bulk at most 1048576: NARROWER than '..Said'. Prove '..Said' where nothing that the law and all that it calls make is longer than what came in: it says more and counts as full. Else prove '..UptoSaid'. A law counts once. -/
mutual
def uptoBulk {H : Type} : DataW H → Nat
  | .lit (.string bytes) => bytes.length + 1
  | .lit _ => 1
  | .nil => 1
  | .ptr d => uptoBulk d + 1
  | .slice elems spare => uptoBulkAll elems + uptoBulkAll spare + 1
  | .agg parts => uptoBulkAll parts + 1
  | .iface _ d => uptoBulk d + 1
  | .map entries => uptoBulkEntries entries + 1
  | .held _ => 1
def uptoBulkAll {H : Type} : List (DataW H) → Nat
  | [] => 0
  | d :: r => uptoBulk d + uptoBulkAll r
def uptoBulkEntries {H : Type} : List (Lit × DataW H) → Nat
  | [] => 0
  | x :: r => uptoBulkEntry x + uptoBulkEntries r
def uptoBulkEntry {H : Type} : Lit × DataW H → Nat
  | (.string bytes, d) => bytes.length + uptoBulk d + 1
  | (_, d) => uptoBulk d + 1
 end
def uptoSmall : (H : Type) → List (DataW H) → Bool := fun _ ds => decide (uptoBulkAll ds ≤ 1048576)
def OpenSpec.upto (s : _root_.Go.ChangeSpec) : _root_.Go.OpenSpec := { _root_.Go.OpenSpec.ofChange s with cond := some uptoSmall }

/-- 'draymanlaw12.DropLinks', WHERE WHAT IT READS IS OF BULK AT MOST 1048576: true; the input reads as it did. -/
def dropLinksUptoRow : OpenClaim := { program := "ytdgedcfenpmaoaagreat", sum := "010cc12a3fa5ad7d4a0aaad478f06b4c08b4c60ca5b115e027ac796dd5423a00", func := "drayman/draymanlaw12.DropLinks", spec := "dropLinks", inPlace := ["internal/bytealg.IndexByteString", "internal/bytealg.IndexString", "internal/abi.NoEscape", "internal/bytealg.abigen_runtime_cmpstring"], unfollowed := true, recurses := true, named := ["internal/bytealg.MaxLen"], apart := false, narrowed := true }
def DropLinksUptoSaid : Prop := dropLinksUptoRow.holds Tryz.pinned (OpenSpec.upto dropLinksSpec)

/-- 'draymanlaw12.DropUnlinks', WHERE WHAT IT READS IS OF BULK AT MOST 1048576: true; the input reads as it did. -/
def dropUnlinksUptoRow : OpenClaim := { program := "ytdgedcfenpmaoaagreat", sum := "010cc12a3fa5ad7d4a0aaad478f06b4c08b4c60ca5b115e027ac796dd5423a00", func := "drayman/draymanlaw12.DropUnlinks", spec := "dropUnlinks", inPlace := ["internal/bytealg.IndexByteString", "internal/bytealg.IndexString", "internal/abi.NoEscape", "internal/bytealg.abigen_runtime_cmpstring"], unfollowed := true, recurses := true, named := ["internal/bytealg.MaxLen"], apart := false, narrowed := true }
def DropUnlinksUptoSaid : Prop := dropUnlinksUptoRow.holds Tryz.pinned (OpenSpec.upto dropUnlinksSpec)

/-- 'draymanlaw12.DropNames', WHERE WHAT IT READS IS OF BULK AT MOST 1048576: true; the input reads as it did. -/
def dropNamesUptoRow : OpenClaim := { program := "ytdgedcfenpmaoaagreat", sum := "010cc12a3fa5ad7d4a0aaad478f06b4c08b4c60ca5b115e027ac796dd5423a00", func := "drayman/draymanlaw12.DropNames", spec := "dropNames", inPlace := ["internal/bytealg.IndexByteString", "internal/bytealg.IndexString", "internal/abi.NoEscape", "internal/bytealg.abigen_runtime_cmpstring"], unfollowed := true, recurses := true, named := ["internal/bytealg.MaxLen"], apart := false, narrowed := true }
def DropNamesUptoSaid : Prop := dropNamesUptoRow.holds Tryz.pinned (OpenSpec.upto dropNamesSpec)

/-- 'draymanlaw12.DropSound', WHERE WHAT IT READS IS OF BULK AT MOST 1048576: true; the input reads as it did. -/
def dropSoundUptoRow : OpenClaim := { program := "ytdgedcfenpmaoaagreat", sum := "010cc12a3fa5ad7d4a0aaad478f06b4c08b4c60ca5b115e027ac796dd5423a00", func := "drayman/draymanlaw12.DropSound", spec := "dropSound", inPlace := ["internal/bytealg.IndexByteString", "internal/bytealg.IndexString", "internal/abi.NoEscape", "internal/bytealg.abigen_runtime_cmpstring"], unfollowed := true, recurses := true, named := ["internal/bytealg.MaxLen"], apart := false, narrowed := true }
def DropSoundUptoSaid : Prop := dropSoundUptoRow.holds Tryz.pinned (OpenSpec.upto dropSoundSpec)

/-- 'draymanlaw12.DropBack', WHERE WHAT IT READS IS OF BULK AT MOST 1048576: true; the input reads as it did. -/
def dropBackUptoRow : OpenClaim := { program := "ytdgedcfenpmaoaagreat", sum := "010cc12a3fa5ad7d4a0aaad478f06b4c08b4c60ca5b115e027ac796dd5423a00", func := "drayman/draymanlaw12.DropBack", spec := "dropBack", inPlace := ["internal/bytealg.IndexByteString", "internal/bytealg.IndexString", "internal/abi.NoEscape", "internal/bytealg.abigen_runtime_cmpstring"], unfollowed := true, recurses := true, named := ["internal/bytealg.MaxLen"], apart := false, narrowed := true }
def DropBackUptoSaid : Prop := dropBackUptoRow.holds Tryz.pinned (OpenSpec.upto dropBackSpec)

/-- 'draymanlaw12.DropKeeps', WHERE WHAT IT READS IS OF BULK AT MOST 1048576: true; the input reads as it did. -/
def dropKeepsUptoRow : OpenClaim := { program := "ytdgedcfenpmaoaagreat", sum := "010cc12a3fa5ad7d4a0aaad478f06b4c08b4c60ca5b115e027ac796dd5423a00", func := "drayman/draymanlaw12.DropKeeps", spec := "dropKeeps", inPlace := ["internal/bytealg.IndexByteString", "internal/bytealg.IndexString", "internal/abi.NoEscape", "internal/bytealg.abigen_runtime_cmpstring"], unfollowed := true, recurses := true, named := ["internal/bytealg.MaxLen"], apart := false, narrowed := true }
def DropKeepsUptoSaid : Prop := dropKeepsUptoRow.holds Tryz.pinned (OpenSpec.upto dropKeepsSpec)

end Rows
end Go.Proofs.YtdgedcfenpmaoaaGreat
