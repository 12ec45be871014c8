/-
  NARROWER THAN 'FOR EVERY INPUT', by the rows' own cells (each row's printed sentence says how): DiagTells: laid · DiagSigns: laid · DiagWhole: laid.
  DERIVED. THE GIVEN ROWS OF THIS SEAT. 3 by the template 'for every input the law returns true; each argument reads behind the call as it read before'; 0 by the template 'total and deterministic' (their statements: YtbaclgnohnmdgaaDoorTotals.lean).
  GIVEN WITH THE SEED: the statements are not yours to turn. If you find one false, say at which input.
  Laid BY PROGRAM, IN A SANDBOX (cutbox-rows.mjs): the forced cells as the released guide's own fill.sh prints them over the translation 640ed7e11c5b755b… (all of the seat's roots in one cut). By AI agents, Wed Nov 11 2026. No macro, syntax, notation, axiom, sorry.
-/
import Derived.Test.YtbaclgnohnmdgaaDoorChecked
import GoSem.PinnedTables
import GoSem.Claim
import GoSem.ClaimJoined
import GoSem.ClaimMapViews
import Derived.JoinedTies
import Derived.KernelRfl
namespace Go.Proofs.YtbaclgnohnmdgaaDoor
/- THE CELL 'sum', in the pinned program and in every row, IS THE sha256 OF THE DUMP (.gsa) THAT YtbaclgnohnmdgaaDoorProg.lean LOADS. Nothing in Lean hashes anything: it is a label: what it is worth is what the hold of that sum in a sandbox is worth. -/
noncomputable def Tryd.pinned : Pinned := { name := "ytbaclgnohnmdgaadoor", sum := "640ed7e11c5b755bc6d02a6938525466210bd3352d58f2917c543b4975b04fc8", checked := Tryd.checked }
namespace Rows
def none {H : Type} : Left H := { results := [], args := [] }

/- WHAT THE LISTED PACKAGE-LEVEL VARIABLES READ AS WHEN THE CALL BEGINS. Each datum BY PROGRAM (the guide's laid-datum.mjs) off the statement by which the dump's own 'gosem.cut.vars' lays the variable. In a bare row this is a premise. The card (YtbaclgnohnmdgaaDoorCards.lean) ties it to the program's text. -/
def laid_unicode_utf8_acceptRanges {H : Type} : DataW H := .agg [.agg [.lit (.int .u8 128), .lit (.int .u8 191)], .agg [.lit (.int .u8 160), .lit (.int .u8 191)], .agg [.lit (.int .u8 128), .lit (.int .u8 159)], .agg [.lit (.int .u8 144), .lit (.int .u8 191)], .agg [.lit (.int .u8 128), .lit (.int .u8 143)], .agg [.lit (.int .u8 0), .lit (.int .u8 0)], .agg [.lit (.int .u8 0), .lit (.int .u8 0)], .agg [.lit (.int .u8 0), .lit (.int .u8 0)], .agg [.lit (.int .u8 0), .lit (.int .u8 0)], .agg [.lit (.int .u8 0), .lit (.int .u8 0)], .agg [.lit (.int .u8 0), .lit (.int .u8 0)], .agg [.lit (.int .u8 0), .lit (.int .u8 0)], .agg [.lit (.int .u8 0), .lit (.int .u8 0)], .agg [.lit (.int .u8 0), .lit (.int .u8 0)], .agg [.lit (.int .u8 0), .lit (.int .u8 0)], .agg [.lit (.int .u8 0), .lit (.int .u8 0)]]
def laid_drayman_errs_messages {H : Type} : DataW H := .agg [.lit (.string [83, 117, 99, 99, 101, 115, 115]), .lit (.string [78, 111, 32, 115, 117, 99, 104, 32, 102, 105, 108, 101, 32, 111, 114, 32, 100, 105, 114, 101, 99, 116, 111, 114, 121]), .lit (.string [70, 105, 108, 101, 32, 101, 120, 105, 115, 116, 115]), .lit (.string [78, 111, 116, 32, 97, 32, 100, 105, 114, 101, 99, 116, 111, 114, 121]), .lit (.string [73, 115, 32, 97, 32, 100, 105, 114, 101, 99, 116, 111, 114, 121]), .lit (.string [68, 105, 114, 101, 99, 116, 111, 114, 121, 32, 110, 111, 116, 32, 101, 109, 112, 116, 121]), .lit (.string [84, 111, 111, 32, 109, 97, 110, 121, 32, 108, 101, 118, 101, 108, 115, 32, 111, 102, 32, 115, 121, 109, 98, 111, 108, 105, 99, 32, 108, 105, 110, 107, 115]), .lit (.string [70, 105, 108, 101, 32, 110, 97, 109, 101, 32, 116, 111, 111, 32, 108, 111, 110, 103]), .lit (.string [78, 111, 32, 115, 112, 97, 99, 101, 32, 108, 101, 102, 116, 32, 111, 110, 32, 100, 101, 118, 105, 99, 101]), .lit (.string [73, 110, 118, 97, 108, 105, 100, 32, 97, 114, 103, 117, 109, 101, 110, 116]), .lit (.string [68, 101, 118, 105, 99, 101, 32, 111, 114, 32, 114, 101, 115, 111, 117, 114, 99, 101, 32, 98, 117, 115, 121]), .lit (.string [79, 112, 101, 114, 97, 116, 105, 111, 110, 32, 110, 111, 116, 32, 112, 101, 114, 109, 105, 116, 116, 101, 100]), .lit (.string [77, 97, 108, 102, 111, 114, 109, 101, 100, 32, 116, 101, 120, 116]), .lit (.string [78, 111, 116, 32, 105, 110, 32, 116, 104, 101, 32, 115, 116, 97, 115, 104])]
def laid_drayman_args_commands {H : Type} : DataW H := .agg [.agg [.lit (.string []), .lit (.string []), .lit (.bool false), .lit (.int .i64 0)], .agg [.lit (.string [109, 107, 100, 105, 114]), .lit (.string [112]), .lit (.bool false), .lit (.int .i64 1)], .agg [.lit (.string [114, 109]), .lit (.string [82, 100, 102, 114]), .lit (.bool false), .lit (.int .i64 1)], .agg [.lit (.string [108, 110]), .lit (.string [84, 102, 110, 115]), .lit (.bool false), .lit (.int .i64 1)], .agg [.lit (.string [109, 118]), .lit (.string [84, 102, 110]), .lit (.bool true), .lit (.int .i64 2)], .agg [.lit (.string [99, 112]), .lit (.string [80, 82, 84, 102, 110, 114]), .lit (.bool true), .lit (.int .i64 2)]]
/-- One of Go's own tables, pinned by name: the form's constant. -/
def laid_unicode_utf8_first : DataW Unit := Go.Pinned.utf8First

/-- 'draymanlaw18.DiagTells': WHATEVER THE INPUT: true; the input reads as it did. -/
def diagTellsSpec : ChangeSpec := { name := "diagTells", fn := fun _ => fun
  | [d1, d2, d3, d4, d5] => { results := [.lit (.bool true)], args := [d1, d2, d3, d4, d5] }
  | _ => none }
def diagTellsRow : OpenClaim := { program := "ytbaclgnohnmdgaadoor", sum := "640ed7e11c5b755bc6d02a6938525466210bd3352d58f2917c543b4975b04fc8", func := "drayman/draymanlaw18.DiagTells", spec := "diagTells", inPlace := ["internal/bytealg.CountString", "internal/bytealg.IndexByteString", "internal/bytealg.IndexString", "internal/abi.NoEscape"], named := ["drayman/args.commands", "unicode/utf8.first", "unicode/utf8.acceptRanges", "internal/bytealg.MaxLen", "drayman/errs.messages"], apart := false, laid := [("unicode/utf8.acceptRanges", laid_unicode_utf8_acceptRanges), ("drayman/errs.messages", laid_drayman_errs_messages), ("drayman/args.commands", laid_drayman_args_commands), ("unicode/utf8.first", laid_unicode_utf8_first)] }
def DiagTellsSaid : Prop := diagTellsRow.holds Tryd.pinned (OpenSpec.ofChange diagTellsSpec)

/-- ITS FALSE NEIGHBOUR: 'it returns false'. Refute it at one input. -/
def diagTellsWrong : ChangeSpec := { name := "diagTells", fn := fun _ => fun
  | [d1, d2, d3, d4, d5] => { results := [.lit (.bool false)], args := [d1, d2, d3, d4, d5] }
  | _ => none }
def DiagTellsWrongFalsely : Prop := diagTellsRow.holds Tryd.pinned (OpenSpec.ofChange diagTellsWrong)

/-- 'draymanlaw18.DiagSigns': WHATEVER THE INPUT: true; the input reads as it did. -/
def diagSignsSpec : ChangeSpec := { name := "diagSigns", fn := fun _ => fun
  | [d1, d2, d3, d4, d5] => { results := [.lit (.bool true)], args := [d1, d2, d3, d4, d5] }
  | _ => none }
def diagSignsRow : OpenClaim := { program := "ytbaclgnohnmdgaadoor", sum := "640ed7e11c5b755bc6d02a6938525466210bd3352d58f2917c543b4975b04fc8", func := "drayman/draymanlaw18.DiagSigns", spec := "diagSigns", inPlace := ["internal/bytealg.CountString", "internal/bytealg.IndexByteString", "internal/bytealg.IndexString", "internal/abi.NoEscape"], named := ["drayman/args.commands", "unicode/utf8.first", "unicode/utf8.acceptRanges", "internal/bytealg.MaxLen", "drayman/errs.messages"], apart := false, laid := [("unicode/utf8.acceptRanges", laid_unicode_utf8_acceptRanges), ("drayman/errs.messages", laid_drayman_errs_messages), ("drayman/args.commands", laid_drayman_args_commands), ("unicode/utf8.first", laid_unicode_utf8_first)] }
def DiagSignsSaid : Prop := diagSignsRow.holds Tryd.pinned (OpenSpec.ofChange diagSignsSpec)

/-- ITS FALSE NEIGHBOUR: 'it returns false'. Refute it at one input. -/
def diagSignsWrong : ChangeSpec := { name := "diagSigns", fn := fun _ => fun
  | [d1, d2, d3, d4, d5] => { results := [.lit (.bool false)], args := [d1, d2, d3, d4, d5] }
  | _ => none }
def DiagSignsWrongFalsely : Prop := diagSignsRow.holds Tryd.pinned (OpenSpec.ofChange diagSignsWrong)

/-- 'draymanlaw18.DiagWhole': WHATEVER THE INPUT: true; the input reads as it did. -/
def diagWholeSpec : ChangeSpec := { name := "diagWhole", fn := fun _ => fun
  | [d1, d2, d3, d4, d5] => { results := [.lit (.bool true)], args := [d1, d2, d3, d4, d5] }
  | _ => none }
def diagWholeRow : OpenClaim := { program := "ytbaclgnohnmdgaadoor", sum := "640ed7e11c5b755bc6d02a6938525466210bd3352d58f2917c543b4975b04fc8", func := "drayman/draymanlaw18.DiagWhole", spec := "diagWhole", inPlace := ["internal/bytealg.CountString", "internal/bytealg.IndexByteString", "internal/bytealg.IndexString", "internal/abi.NoEscape"], named := ["drayman/args.commands", "unicode/utf8.first", "unicode/utf8.acceptRanges", "internal/bytealg.MaxLen", "drayman/errs.messages"], apart := false, laid := [("unicode/utf8.acceptRanges", laid_unicode_utf8_acceptRanges), ("drayman/errs.messages", laid_drayman_errs_messages), ("drayman/args.commands", laid_drayman_args_commands), ("unicode/utf8.first", laid_unicode_utf8_first)] }
def DiagWholeSaid : Prop := diagWholeRow.holds Tryd.pinned (OpenSpec.ofChange diagWholeSpec)

/-- ITS FALSE NEIGHBOUR: 'it returns false'. Refute it at one input. -/
def diagWholeWrong : ChangeSpec := { name := "diagWhole", fn := fun _ => fun
  | [d1, d2, d3, d4, d5] => { results := [.lit (.bool false)], args := [d1, d2, d3, d4, d5] }
  | _ => none }
def DiagWholeWrongFalsely : Prop := diagWholeRow.holds Tryd.pinned (OpenSpec.ofChange diagWholeWrong)

/- THE SECOND FORM. 'bulk': how many values and letters a reading holds, each counted each time it is reached (what is shared counts as often as it is met; a slice's spare places count too). A statement '..UptoSaid' is the law's where the arguments, and the package variables that the reading takes, are together of bulk at most 1048576: NARROWER than '..Said'. Prove '..Said' where nothing that the law and all that it calls make is longer than what came in: it says more and counts as full. Else prove '..UptoSaid'. A law counts once. -/
mutual
def uptoBulk {H : Type} : DataW H → Nat
  | .lit (.string bytes) => bytes.length + 1
  | .lit _ => 1
  | .nil => 1
  | .ptr d => uptoBulk d + 1
  | .slice elems spare => uptoBulkAll elems + uptoBulkAll spare + 1
  | .agg parts => uptoBulkAll parts + 1
  | .iface _ d => uptoBulk d + 1
  | .map entries => uptoBulkEntries entries + 1
  | .held _ => 1
def uptoBulkAll {H : Type} : List (DataW H) → Nat
  | [] => 0
  | d :: r => uptoBulk d + uptoBulkAll r
def uptoBulkEntries {H : Type} : List (Lit × DataW H) → Nat
  | [] => 0
  | x :: r => uptoBulkEntry x + uptoBulkEntries r
def uptoBulkEntry {H : Type} : Lit × DataW H → Nat
  | (.string bytes, d) => bytes.length + uptoBulk d + 1
  | (_, d) => uptoBulk d + 1
 end
def uptoSmall : (H : Type) → List (DataW H) → Bool := fun _ ds => decide (uptoBulkAll ds ≤ 1048576)
def OpenSpec.upto (s : _root_.Go.ChangeSpec) : _root_.Go.OpenSpec := { _root_.Go.OpenSpec.ofChange s with cond := some uptoSmall }

/-- 'draymanlaw18.DiagTells', WHERE WHAT IT READS IS OF BULK AT MOST 1048576: true; the input reads as it did. -/
def diagTellsUptoRow : OpenClaim := { program := "ytbaclgnohnmdgaadoor", sum := "640ed7e11c5b755bc6d02a6938525466210bd3352d58f2917c543b4975b04fc8", func := "drayman/draymanlaw18.DiagTells", spec := "diagTells", inPlace := ["internal/bytealg.CountString", "internal/bytealg.IndexByteString", "internal/bytealg.IndexString", "internal/abi.NoEscape"], named := ["drayman/args.commands", "unicode/utf8.first", "unicode/utf8.acceptRanges", "internal/bytealg.MaxLen", "drayman/errs.messages"], apart := false, laid := [("unicode/utf8.acceptRanges", laid_unicode_utf8_acceptRanges), ("drayman/errs.messages", laid_drayman_errs_messages), ("drayman/args.commands", laid_drayman_args_commands), ("unicode/utf8.first", laid_unicode_utf8_first)], narrowed := true }
def DiagTellsUptoSaid : Prop := diagTellsUptoRow.holds Tryd.pinned (OpenSpec.upto diagTellsSpec)

/-- 'draymanlaw18.DiagSigns', WHERE WHAT IT READS IS OF BULK AT MOST 1048576: true; the input reads as it did. -/
def diagSignsUptoRow : OpenClaim := { program := "ytbaclgnohnmdgaadoor", sum := "640ed7e11c5b755bc6d02a6938525466210bd3352d58f2917c543b4975b04fc8", func := "drayman/draymanlaw18.DiagSigns", spec := "diagSigns", inPlace := ["internal/bytealg.CountString", "internal/bytealg.IndexByteString", "internal/bytealg.IndexString", "internal/abi.NoEscape"], named := ["drayman/args.commands", "unicode/utf8.first", "unicode/utf8.acceptRanges", "internal/bytealg.MaxLen", "drayman/errs.messages"], apart := false, laid := [("unicode/utf8.acceptRanges", laid_unicode_utf8_acceptRanges), ("drayman/errs.messages", laid_drayman_errs_messages), ("drayman/args.commands", laid_drayman_args_commands), ("unicode/utf8.first", laid_unicode_utf8_first)], narrowed := true }
def DiagSignsUptoSaid : Prop := diagSignsUptoRow.holds Tryd.pinned (OpenSpec.upto diagSignsSpec)

/-- 'draymanlaw18.DiagWhole', WHERE WHAT IT READS IS OF BULK AT MOST 1048576: true; the input reads as it did. -/
def diagWholeUptoRow : OpenClaim := { program := "ytbaclgnohnmdgaadoor", sum := "640ed7e11c5b755bc6d02a6938525466210bd3352d58f2917c543b4975b04fc8", func := "drayman/draymanlaw18.DiagWhole", spec := "diagWhole", inPlace := ["internal/bytealg.CountString", "internal/bytealg.IndexByteString", "internal/bytealg.IndexString", "internal/abi.NoEscape"], named := ["drayman/args.commands", "unicode/utf8.first", "unicode/utf8.acceptRanges", "internal/bytealg.MaxLen", "drayman/errs.messages"], apart := false, laid := [("unicode/utf8.acceptRanges", laid_unicode_utf8_acceptRanges), ("drayman/errs.messages", laid_drayman_errs_messages), ("drayman/args.commands", laid_drayman_args_commands), ("unicode/utf8.first", laid_unicode_utf8_first)], narrowed := true }
def DiagWholeUptoSaid : Prop := diagWholeUptoRow.holds Tryd.pinned (OpenSpec.upto diagWholeSpec)

end Rows
end Go.Proofs.YtbaclgnohnmdgaaDoor
