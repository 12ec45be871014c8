/-
  DERIVED. GIVEN WITH THE SEED: THE CARDS: each row of YtbaclgnohnmdgaaDoorRows.lean that lists a variable, with what it lists TIED to the program's text (the seventh form; the later family's looks); each row that meets fmt, with fmt's text TOLD by the authors' own Lean function (tested against real Go, not proved from fmt's source: count such statements apart). THE CARD IS WHAT COUNTS. Prove the row's statement (the work); the ties are given (YtbaclgnohnmdgaaDoorTie.lean); close each card by the builder's one call (the guide's Derived/Test/ToyasCard.lean, 'card_holds'). Laid BY PROGRAM, IN A SANDBOX (cutbox-door.mjs). By AI agents, Wed Nov 11 2026. No macro, syntax, notation, axiom, sorry.
-/
import Derived.Test.YtbaclgnohnmdgaaDoorRows
import GoSem.ClaimSeven
namespace Go.Proofs.YtbaclgnohnmdgaaDoor
namespace Rows

/-- THE TIED CARD OF 'draymanlaw18.DiagTells'. -/
def diagTellsCard : Claim7 := { stood := { row := diagTellsRow, standIns := [], harness := (true, "aaa6b6cec50707f83fe37b7a85f6a27e3f077fa3e8b431ad66387759559845bb"), looks := false }, kinds := [], alts := [], laidByText := true, laidKinds := [.data, .data, .data, .pinned], laidTests := true, laidLooks := .later }
def DiagTellsCardSaid : Prop := Claim7.holds Tryd.pinned (.plain (OpenSpec.ofChange diagTellsSpec)) diagTellsCard

/-- THE TIED CARD OF 'draymanlaw18.DiagSigns'. -/
def diagSignsCard : Claim7 := { stood := { row := diagSignsRow, standIns := [], harness := (true, "aaa6b6cec50707f83fe37b7a85f6a27e3f077fa3e8b431ad66387759559845bb"), looks := false }, kinds := [], alts := [], laidByText := true, laidKinds := [.data, .data, .data, .pinned], laidTests := true, laidLooks := .later }
def DiagSignsCardSaid : Prop := Claim7.holds Tryd.pinned (.plain (OpenSpec.ofChange diagSignsSpec)) diagSignsCard

/-- THE TIED CARD OF 'draymanlaw18.DiagWhole'. -/
def diagWholeCard : Claim7 := { stood := { row := diagWholeRow, standIns := [], harness := (true, "aaa6b6cec50707f83fe37b7a85f6a27e3f077fa3e8b431ad66387759559845bb"), looks := false }, kinds := [], alts := [], laidByText := true, laidKinds := [.data, .data, .data, .pinned], laidTests := true, laidLooks := .later }
def DiagWholeCardSaid : Prop := Claim7.holds Tryd.pinned (.plain (OpenSpec.ofChange diagWholeSpec)) diagWholeCard

/-- THE SECOND FORM's CARD OF 'draymanlaw18.DiagTells'. -/
def diagTellsUptoCard : Claim7 := { stood := { row := diagTellsUptoRow, standIns := [], harness := (true, "aaa6b6cec50707f83fe37b7a85f6a27e3f077fa3e8b431ad66387759559845bb"), looks := false }, kinds := [], alts := [], laidByText := true, laidKinds := [.data, .data, .data, .pinned], laidTests := true, laidLooks := .later }
def DiagTellsUptoCardSaid : Prop := Claim7.holds Tryd.pinned (.plain (OpenSpec.upto diagTellsSpec)) diagTellsUptoCard

/-- THE SECOND FORM's CARD OF 'draymanlaw18.DiagSigns'. -/
def diagSignsUptoCard : Claim7 := { stood := { row := diagSignsUptoRow, standIns := [], harness := (true, "aaa6b6cec50707f83fe37b7a85f6a27e3f077fa3e8b431ad66387759559845bb"), looks := false }, kinds := [], alts := [], laidByText := true, laidKinds := [.data, .data, .data, .pinned], laidTests := true, laidLooks := .later }
def DiagSignsUptoCardSaid : Prop := Claim7.holds Tryd.pinned (.plain (OpenSpec.upto diagSignsSpec)) diagSignsUptoCard

/-- THE SECOND FORM's CARD OF 'draymanlaw18.DiagWhole'. -/
def diagWholeUptoCard : Claim7 := { stood := { row := diagWholeUptoRow, standIns := [], harness := (true, "aaa6b6cec50707f83fe37b7a85f6a27e3f077fa3e8b431ad66387759559845bb"), looks := false }, kinds := [], alts := [], laidByText := true, laidKinds := [.data, .data, .data, .pinned], laidTests := true, laidLooks := .later }
def DiagWholeUptoCardSaid : Prop := Claim7.holds Tryd.pinned (.plain (OpenSpec.upto diagWholeSpec)) diagWholeUptoCard
end Rows
end Go.Proofs.YtbaclgnohnmdgaaDoor
