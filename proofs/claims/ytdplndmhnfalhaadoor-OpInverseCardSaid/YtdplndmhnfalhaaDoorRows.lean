/-
  NARROWER THAN 'FOR EVERY INPUT', by the rows' own cells (each row's printed sentence says how): OpMay: laid · OpPlans: laid · OpSames: laid · OpInverse: laid.
  DERIVED. THE GIVEN ROWS OF THIS SEAT. 4 by the template 'for every input the law returns true; each argument reads behind the call as it read before'; 0 by the template 'total and deterministic' (their statements: YtdplndmhnfalhaaDoorTotals.lean).
  GIVEN WITH THE SEED: the statements are not yours to turn. If you find one false, say at which input.
  Laid BY PROGRAM, IN A SANDBOX (cutbox-rows.mjs): the forced cells as the released guide's own fill.sh prints them over the translation dd3715a757bdf414… (all of the seat's roots in one cut). By AI agents, Wed Nov 11 2026. No macro, syntax, notation, axiom, sorry.
-/
import Derived.Test.YtdplndmhnfalhaaDoorChecked
import GoSem.Claim
import GoSem.ClaimJoined
import GoSem.ClaimMapViews
import Derived.JoinedTies
import Derived.KernelRfl
namespace Go.Proofs.YtdplndmhnfalhaaDoor
/- THE CELL 'sum', in the pinned program and in every row, IS THE sha256 OF THE DUMP (.gsa) THAT YtdplndmhnfalhaaDoorProg.lean LOADS. Nothing in Lean hashes anything: it is a label: what it is worth is what the hold of that sum in a sandbox is worth. -/
noncomputable def Tryd.pinned : Pinned := { name := "ytdplndmhnfalhaadoor", sum := "dd3715a757bdf4146738962ca07042713f7af70d331a33745267323201f301d7", checked := Tryd.checked }
namespace Rows
def none {H : Type} : Left H := { results := [], args := [] }

/- WHAT THE LISTED PACKAGE-LEVEL VARIABLES READ AS WHEN THE CALL BEGINS. Each datum BY PROGRAM (the guide's laid-datum.mjs) off the statement by which the dump's own 'gosem.cut.vars' lays the variable. In a bare row this is a premise. The card (YtdplndmhnfalhaaDoorCards.lean) ties it to the program's text. -/
def laid_drayman_op_kinds {H : Type} : DataW H := .agg [.agg [.lit (.bool false), .lit (.bool false), .lit (.bool false), .lit (.bool false), .lit (.bool false), .lit (.bool false), .lit (.bool false)], .agg [.lit (.bool false), .lit (.bool false), .lit (.bool true), .lit (.bool false), .lit (.bool false), .lit (.bool true), .lit (.bool false)], .agg [.lit (.bool false), .lit (.bool false), .lit (.bool true), .lit (.bool true), .lit (.bool false), .lit (.bool true), .lit (.bool false)], .agg [.lit (.bool true), .lit (.bool false), .lit (.bool true), .lit (.bool true), .lit (.bool false), .lit (.bool true), .lit (.bool false)], .agg [.lit (.bool false), .lit (.bool true), .lit (.bool true), .lit (.bool false), .lit (.bool false), .lit (.bool true), .lit (.bool false)], .agg [.lit (.bool false), .lit (.bool false), .lit (.bool true), .lit (.bool true), .lit (.bool false), .lit (.bool true), .lit (.bool false)], .agg [.lit (.bool false), .lit (.bool false), .lit (.bool true), .lit (.bool true), .lit (.bool true), .lit (.bool true), .lit (.bool true)], .agg [.lit (.bool true), .lit (.bool false), .lit (.bool true), .lit (.bool false), .lit (.bool false), .lit (.bool true), .lit (.bool false)], .agg [.lit (.bool false), .lit (.bool false), .lit (.bool true), .lit (.bool false), .lit (.bool false), .lit (.bool false), .lit (.bool true)], .agg [.lit (.bool true), .lit (.bool false), .lit (.bool true), .lit (.bool false), .lit (.bool false), .lit (.bool false), .lit (.bool true)], .agg [.lit (.bool true), .lit (.bool false), .lit (.bool true), .lit (.bool false), .lit (.bool false), .lit (.bool false), .lit (.bool true)]]

/-- 'draymanlaw19.OpMay': WHATEVER THE INPUT: true; the input reads as it did. -/
def opMaySpec : ChangeSpec := { name := "opMay", fn := fun _ => fun
  | [d] => { results := [.lit (.bool true)], args := [d] }
  | _ => none }
def opMayRow : OpenClaim := { program := "ytdplndmhnfalhaadoor", sum := "dd3715a757bdf4146738962ca07042713f7af70d331a33745267323201f301d7", func := "drayman/draymanlaw19.OpMay", spec := "opMay", inPlace := ["internal/bytealg.IndexByteString", "internal/bytealg.IndexString", "internal/abi.NoEscape"], unfollowed := true, recurses := true, named := ["drayman/op.kinds", "internal/bytealg.MaxLen"], apart := false, laid := [("drayman/op.kinds", laid_drayman_op_kinds)] }
def OpMaySaid : Prop := opMayRow.holds Tryd.pinned (OpenSpec.ofChange opMaySpec)

/-- ITS FALSE NEIGHBOUR: 'it returns false'. Refute it at one input. -/
def opMayWrong : ChangeSpec := { name := "opMay", fn := fun _ => fun
  | [d] => { results := [.lit (.bool false)], args := [d] }
  | _ => none }
def OpMayWrongFalsely : Prop := opMayRow.holds Tryd.pinned (OpenSpec.ofChange opMayWrong)

/-- 'draymanlaw19.OpPlans': WHATEVER THE INPUT: true; the input reads as it did. -/
def opPlansSpec : ChangeSpec := { name := "opPlans", fn := fun _ => fun
  | [d] => { results := [.lit (.bool true)], args := [d] }
  | _ => none }
def opPlansRow : OpenClaim := { program := "ytdplndmhnfalhaadoor", sum := "dd3715a757bdf4146738962ca07042713f7af70d331a33745267323201f301d7", func := "drayman/draymanlaw19.OpPlans", spec := "opPlans", inPlace := ["internal/bytealg.IndexByteString", "internal/bytealg.IndexString", "internal/abi.NoEscape"], unfollowed := true, recurses := true, named := ["drayman/op.kinds", "internal/bytealg.MaxLen"], apart := false, laid := [("drayman/op.kinds", laid_drayman_op_kinds)] }
def OpPlansSaid : Prop := opPlansRow.holds Tryd.pinned (OpenSpec.ofChange opPlansSpec)

/-- ITS FALSE NEIGHBOUR: 'it returns false'. Refute it at one input. -/
def opPlansWrong : ChangeSpec := { name := "opPlans", fn := fun _ => fun
  | [d] => { results := [.lit (.bool false)], args := [d] }
  | _ => none }
def OpPlansWrongFalsely : Prop := opPlansRow.holds Tryd.pinned (OpenSpec.ofChange opPlansWrong)

/-- 'draymanlaw19.OpSames': WHATEVER THE INPUT: true; the input reads as it did. -/
def opSamesSpec : ChangeSpec := { name := "opSames", fn := fun _ => fun
  | [d1, d2] => { results := [.lit (.bool true)], args := [d1, d2] }
  | _ => none }
def opSamesRow : OpenClaim := { program := "ytdplndmhnfalhaadoor", sum := "dd3715a757bdf4146738962ca07042713f7af70d331a33745267323201f301d7", func := "drayman/draymanlaw19.OpSames", spec := "opSames", inPlace := ["internal/bytealg.IndexByteString", "internal/bytealg.IndexString", "internal/abi.NoEscape"], unfollowed := true, recurses := true, named := ["drayman/op.kinds", "internal/bytealg.MaxLen"], apart := false, laid := [("drayman/op.kinds", laid_drayman_op_kinds)] }
def OpSamesSaid : Prop := opSamesRow.holds Tryd.pinned (OpenSpec.ofChange opSamesSpec)

/-- ITS FALSE NEIGHBOUR: 'it returns false'. Refute it at one input. -/
def opSamesWrong : ChangeSpec := { name := "opSames", fn := fun _ => fun
  | [d1, d2] => { results := [.lit (.bool false)], args := [d1, d2] }
  | _ => none }
def OpSamesWrongFalsely : Prop := opSamesRow.holds Tryd.pinned (OpenSpec.ofChange opSamesWrong)

/-- 'draymanlaw19.OpInverse': WHATEVER THE INPUT: true; the input reads as it did. -/
def opInverseSpec : ChangeSpec := { name := "opInverse", fn := fun _ => fun
  | [d1, d2] => { results := [.lit (.bool true)], args := [d1, d2] }
  | _ => none }
def opInverseRow : OpenClaim := { program := "ytdplndmhnfalhaadoor", sum := "dd3715a757bdf4146738962ca07042713f7af70d331a33745267323201f301d7", func := "drayman/draymanlaw19.OpInverse", spec := "opInverse", inPlace := ["internal/bytealg.IndexByteString", "internal/bytealg.IndexString", "internal/abi.NoEscape"], unfollowed := true, recurses := true, named := ["drayman/op.kinds", "internal/bytealg.MaxLen"], apart := false, laid := [("drayman/op.kinds", laid_drayman_op_kinds)] }
def OpInverseSaid : Prop := opInverseRow.holds Tryd.pinned (OpenSpec.ofChange opInverseSpec)

/-- ITS FALSE NEIGHBOUR: 'it returns false'. Refute it at one input. -/
def opInverseWrong : ChangeSpec := { name := "opInverse", fn := fun _ => fun
  | [d1, d2] => { results := [.lit (.bool false)], args := [d1, d2] }
  | _ => none }
def OpInverseWrongFalsely : Prop := opInverseRow.holds Tryd.pinned (OpenSpec.ofChange opInverseWrong)

/- THE SECOND FORM. 'bulk': how many values and letters a reading holds, each counted each time it is reached (what is shared counts as often as it is met; a slice's spare places count too). A statement '..UptoSaid' is the law's where the arguments, and the package variables that the reading takes, are together of bulk at most 1048576: NARROWER than '..Said'. Prove '..Said' where nothing that the law and all that it calls make is longer than what came in: it says more and counts as full. Else prove '..UptoSaid'. A law counts once. -/
mutual
def uptoBulk {H : Type} : DataW H → Nat
  | .lit (.string bytes) => bytes.length + 1
  | .lit _ => 1
  | .nil => 1
  | .ptr d => uptoBulk d + 1
  | .slice elems spare => uptoBulkAll elems + uptoBulkAll spare + 1
  | .agg parts => uptoBulkAll parts + 1
  | .iface _ d => uptoBulk d + 1
  | .map entries => uptoBulkEntries entries + 1
  | .held _ => 1
def uptoBulkAll {H : Type} : List (DataW H) → Nat
  | [] => 0
  | d :: r => uptoBulk d + uptoBulkAll r
def uptoBulkEntries {H : Type} : List (Lit × DataW H) → Nat
  | [] => 0
  | x :: r => uptoBulkEntry x + uptoBulkEntries r
def uptoBulkEntry {H : Type} : Lit × DataW H → Nat
  | (.string bytes, d) => bytes.length + uptoBulk d + 1
  | (_, d) => uptoBulk d + 1
 end
def uptoSmall : (H : Type) → List (DataW H) → Bool := fun _ ds => decide (uptoBulkAll ds ≤ 1048576)
def OpenSpec.upto (s : _root_.Go.ChangeSpec) : _root_.Go.OpenSpec := { _root_.Go.OpenSpec.ofChange s with cond := some uptoSmall }

/-- 'draymanlaw19.OpMay', WHERE WHAT IT READS IS OF BULK AT MOST 1048576: true; the input reads as it did. -/
def opMayUptoRow : OpenClaim := { program := "ytdplndmhnfalhaadoor", sum := "dd3715a757bdf4146738962ca07042713f7af70d331a33745267323201f301d7", func := "drayman/draymanlaw19.OpMay", spec := "opMay", inPlace := ["internal/bytealg.IndexByteString", "internal/bytealg.IndexString", "internal/abi.NoEscape"], unfollowed := true, recurses := true, named := ["drayman/op.kinds", "internal/bytealg.MaxLen"], apart := false, laid := [("drayman/op.kinds", laid_drayman_op_kinds)], narrowed := true }
def OpMayUptoSaid : Prop := opMayUptoRow.holds Tryd.pinned (OpenSpec.upto opMaySpec)

/-- 'draymanlaw19.OpPlans', WHERE WHAT IT READS IS OF BULK AT MOST 1048576: true; the input reads as it did. -/
def opPlansUptoRow : OpenClaim := { program := "ytdplndmhnfalhaadoor", sum := "dd3715a757bdf4146738962ca07042713f7af70d331a33745267323201f301d7", func := "drayman/draymanlaw19.OpPlans", spec := "opPlans", inPlace := ["internal/bytealg.IndexByteString", "internal/bytealg.IndexString", "internal/abi.NoEscape"], unfollowed := true, recurses := true, named := ["drayman/op.kinds", "internal/bytealg.MaxLen"], apart := false, laid := [("drayman/op.kinds", laid_drayman_op_kinds)], narrowed := true }
def OpPlansUptoSaid : Prop := opPlansUptoRow.holds Tryd.pinned (OpenSpec.upto opPlansSpec)

/-- 'draymanlaw19.OpSames', WHERE WHAT IT READS IS OF BULK AT MOST 1048576: true; the input reads as it did. -/
def opSamesUptoRow : OpenClaim := { program := "ytdplndmhnfalhaadoor", sum := "dd3715a757bdf4146738962ca07042713f7af70d331a33745267323201f301d7", func := "drayman/draymanlaw19.OpSames", spec := "opSames", inPlace := ["internal/bytealg.IndexByteString", "internal/bytealg.IndexString", "internal/abi.NoEscape"], unfollowed := true, recurses := true, named := ["drayman/op.kinds", "internal/bytealg.MaxLen"], apart := false, laid := [("drayman/op.kinds", laid_drayman_op_kinds)], narrowed := true }
def OpSamesUptoSaid : Prop := opSamesUptoRow.holds Tryd.pinned (OpenSpec.upto opSamesSpec)

/-- 'draymanlaw19.OpInverse', WHERE WHAT IT READS IS OF BULK AT MOST 1048576: true; the input reads as it did. -/
def opInverseUptoRow : OpenClaim := { program := "ytdplndmhnfalhaadoor", sum := "dd3715a757bdf4146738962ca07042713f7af70d331a33745267323201f301d7", func := "drayman/draymanlaw19.OpInverse", spec := "opInverse", inPlace := ["internal/bytealg.IndexByteString", "internal/bytealg.IndexString", "internal/abi.NoEscape"], unfollowed := true, recurses := true, named := ["drayman/op.kinds", "internal/bytealg.MaxLen"], apart := false, laid := [("drayman/op.kinds", laid_drayman_op_kinds)], narrowed := true }
def OpInverseUptoSaid : Prop := opInverseUptoRow.holds Tryd.pinned (OpenSpec.upto opInverseSpec)

end Rows
end Go.Proofs.YtdplndmhnfalhaaDoor
