/-
  No cell of these rows narrows 'for every input' (looked for: loops, veiled, ifaces, maps, wideKeys, modest, calm, conditions, laid).
  DERIVED. THE GIVEN ROWS OF THIS SEAT. 3 by the template 'for every input the law returns true; each argument reads behind the call as it read before'; 0 by the template 'total and deterministic' (their statements: YtakaoplfkjejfaaTotals.lean).
  GIVEN WITH THE SEED: the statements are not yours to turn. If you find one false, say at which input.
  Laid BY PROGRAM, IN A SANDBOX (cutbox-rows.mjs): the forced cells as the released guide's own fill.sh prints them over the translation 095bec95dacf44f4… (all of the seat's roots in one cut). By AI agents, Wed Nov 11 2026. No macro, syntax, notation, axiom, sorry.
-/
import Derived.Test.YtakaoplfkjejfaaChecked
import GoSem.Claim
import GoSem.ClaimJoined
import GoSem.ClaimMapViews
import Derived.JoinedTies
import Derived.KernelRfl
namespace Go.Proofs.Ytakaoplfkjejfaa
/- THE CELL 'sum', in the pinned program and in every row, IS THE sha256 OF THE DUMP (.gsa) THAT YtakaoplfkjejfaaProg.lean LOADS. Nothing in Lean hashes anything: it is a label: what it is worth is what the hold of that sum in a sandbox is worth. -/
noncomputable def Try.pinned : Pinned := { name := "ytakaoplfkjejfaa", sum := "095bec95dacf44f460ed1f75265c0d9e006f7ed2298f7cc65a8455f3dc449a5d", checked := Try.checked }
namespace Rows
def none {H : Type} : Left H := { results := [], args := [] }

/-- 'draymanlaw10.SeekPlain': WHATEVER THE INPUT: true; the input reads as it did. -/
def seekPlainSpec : ChangeSpec := { name := "seekPlain", fn := fun _ => fun
  | [d1, d2, d3, d4] => { results := [.lit (.bool true)], args := [d1, d2, d3, d4] }
  | _ => none }
def seekPlainRow : OpenClaim := { program := "ytakaoplfkjejfaa", sum := "095bec95dacf44f460ed1f75265c0d9e006f7ed2298f7cc65a8455f3dc449a5d", func := "drayman/draymanlaw10.SeekPlain", spec := "seekPlain", inPlace := ["internal/bytealg.IndexByteString", "internal/bytealg.IndexString", "internal/abi.NoEscape", "internal/bytealg.abigen_runtime_cmpstring"], unfollowed := true, recurses := true, named := ["internal/bytealg.MaxLen"], apart := false }
def SeekPlainSaid : Prop := seekPlainRow.holds Try.pinned (OpenSpec.ofChange seekPlainSpec)

/-- ITS FALSE NEIGHBOUR: 'it returns false'. Refute it at one input. -/
def seekPlainWrong : ChangeSpec := { name := "seekPlain", fn := fun _ => fun
  | [d1, d2, d3, d4] => { results := [.lit (.bool false)], args := [d1, d2, d3, d4] }
  | _ => none }
def SeekPlainWrongFalsely : Prop := seekPlainRow.holds Try.pinned (OpenSpec.ofChange seekPlainWrong)

/-- 'draymanlaw10.SeekDots': WHATEVER THE INPUT: true; the input reads as it did. -/
def seekDotsSpec : ChangeSpec := { name := "seekDots", fn := fun _ => fun
  | [d1, d2] => { results := [.lit (.bool true)], args := [d1, d2] }
  | _ => none }
def seekDotsRow : OpenClaim := { program := "ytakaoplfkjejfaa", sum := "095bec95dacf44f460ed1f75265c0d9e006f7ed2298f7cc65a8455f3dc449a5d", func := "drayman/draymanlaw10.SeekDots", spec := "seekDots", inPlace := ["internal/bytealg.IndexByteString", "internal/bytealg.IndexString", "internal/abi.NoEscape", "internal/bytealg.abigen_runtime_cmpstring"], unfollowed := true, recurses := true, named := ["internal/bytealg.MaxLen"], apart := false }
def SeekDotsSaid : Prop := seekDotsRow.holds Try.pinned (OpenSpec.ofChange seekDotsSpec)

/-- ITS FALSE NEIGHBOUR: 'it returns false'. Refute it at one input. -/
def seekDotsWrong : ChangeSpec := { name := "seekDots", fn := fun _ => fun
  | [d1, d2] => { results := [.lit (.bool false)], args := [d1, d2] }
  | _ => none }
def SeekDotsWrongFalsely : Prop := seekDotsRow.holds Try.pinned (OpenSpec.ofChange seekDotsWrong)

/-- 'draymanlaw10.SeekFollows': WHATEVER THE INPUT: true; the input reads as it did. -/
def seekFollowsSpec : ChangeSpec := { name := "seekFollows", fn := fun _ => fun
  | [d1, d2, d3] => { results := [.lit (.bool true)], args := [d1, d2, d3] }
  | _ => none }
def seekFollowsRow : OpenClaim := { program := "ytakaoplfkjejfaa", sum := "095bec95dacf44f460ed1f75265c0d9e006f7ed2298f7cc65a8455f3dc449a5d", func := "drayman/draymanlaw10.SeekFollows", spec := "seekFollows", inPlace := ["internal/bytealg.IndexByteString", "internal/bytealg.IndexString", "internal/abi.NoEscape", "internal/bytealg.abigen_runtime_cmpstring"], unfollowed := true, recurses := true, named := ["internal/bytealg.MaxLen"], apart := false }
def SeekFollowsSaid : Prop := seekFollowsRow.holds Try.pinned (OpenSpec.ofChange seekFollowsSpec)

/-- ITS FALSE NEIGHBOUR: 'it returns false'. Refute it at one input. -/
def seekFollowsWrong : ChangeSpec := { name := "seekFollows", fn := fun _ => fun
  | [d1, d2, d3] => { results := [.lit (.bool false)], args := [d1, d2, d3] }
  | _ => none }
def SeekFollowsWrongFalsely : Prop := seekFollowsRow.holds Try.pinned (OpenSpec.ofChange seekFollowsWrong)

/- THE SECOND FORM. 'bulk': how many values and letters a reading holds, each counted each time it is reached (what is shared counts as often as it is met; a slice's spare places count too). A statement '..UptoSaid' is the law's where the arguments, and the package variables that the reading takes, are together of bulk at most 1048576: NARROWER than '..Said'. Prove '..Said' where nothing that the law and all that it calls make is longer than what came in: it says more and counts as full. Else prove '..UptoSaid'. A law counts once. -/
mutual
def uptoBulk {H : Type} : DataW H → Nat
  | .lit (.string bytes) => bytes.length + 1
  | .lit _ => 1
  | .nil => 1
  | .ptr d => uptoBulk d + 1
  | .slice elems spare => uptoBulkAll elems + uptoBulkAll spare + 1
  | .agg parts => uptoBulkAll parts + 1
  | .iface _ d => uptoBulk d + 1
  | .map entries => uptoBulkEntries entries + 1
  | .held _ => 1
def uptoBulkAll {H : Type} : List (DataW H) → Nat
  | [] => 0
  | d :: r => uptoBulk d + uptoBulkAll r
def uptoBulkEntries {H : Type} : List (Lit × DataW H) → Nat
  | [] => 0
  | x :: r => uptoBulkEntry x + uptoBulkEntries r
def uptoBulkEntry {H : Type} : Lit × DataW H → Nat
  | (.string bytes, d) => bytes.length + uptoBulk d + 1
  | (_, d) => uptoBulk d + 1
 end
def uptoSmall : (H : Type) → List (DataW H) → Bool := fun _ ds => decide (uptoBulkAll ds ≤ 1048576)
def OpenSpec.upto (s : _root_.Go.ChangeSpec) : _root_.Go.OpenSpec := { _root_.Go.OpenSpec.ofChange s with cond := some uptoSmall }

/-- 'draymanlaw10.SeekPlain', WHERE WHAT IT READS IS OF BULK AT MOST 1048576: true; the input reads as it did. -/
def seekPlainUptoRow : OpenClaim := { program := "ytakaoplfkjejfaa", sum := "095bec95dacf44f460ed1f75265c0d9e006f7ed2298f7cc65a8455f3dc449a5d", func := "drayman/draymanlaw10.SeekPlain", spec := "seekPlain", inPlace := ["internal/bytealg.IndexByteString", "internal/bytealg.IndexString", "internal/abi.NoEscape", "internal/bytealg.abigen_runtime_cmpstring"], unfollowed := true, recurses := true, named := ["internal/bytealg.MaxLen"], apart := false, narrowed := true }
def SeekPlainUptoSaid : Prop := seekPlainUptoRow.holds Try.pinned (OpenSpec.upto seekPlainSpec)

/-- 'draymanlaw10.SeekDots', WHERE WHAT IT READS IS OF BULK AT MOST 1048576: true; the input reads as it did. -/
def seekDotsUptoRow : OpenClaim := { program := "ytakaoplfkjejfaa", sum := "095bec95dacf44f460ed1f75265c0d9e006f7ed2298f7cc65a8455f3dc449a5d", func := "drayman/draymanlaw10.SeekDots", spec := "seekDots", inPlace := ["internal/bytealg.IndexByteString", "internal/bytealg.IndexString", "internal/abi.NoEscape", "internal/bytealg.abigen_runtime_cmpstring"], unfollowed := true, recurses := true, named := ["internal/bytealg.MaxLen"], apart := false, narrowed := true }
def SeekDotsUptoSaid : Prop := seekDotsUptoRow.holds Try.pinned (OpenSpec.upto seekDotsSpec)

/-- 'draymanlaw10.SeekFollows', WHERE WHAT IT READS IS OF BULK AT MOST 1048576: true; the input reads as it did. -/
def seekFollowsUptoRow : OpenClaim := { program := "ytakaoplfkjejfaa", sum := "095bec95dacf44f460ed1f75265c0d9e006f7ed2298f7cc65a8455f3dc449a5d", func := "drayman/draymanlaw10.SeekFollows", spec := "seekFollows", inPlace := ["internal/bytealg.IndexByteString", "internal/bytealg.IndexString", "internal/abi.NoEscape", "internal/bytealg.abigen_runtime_cmpstring"], unfollowed := true, recurses := true, named := ["internal/bytealg.MaxLen"], apart := false, narrowed := true }
def SeekFollowsUptoSaid : Prop := seekFollowsUptoRow.holds Try.pinned (OpenSpec.upto seekFollowsSpec)

end Rows
end Go.Proofs.Ytakaoplfkjejfaa
