/-
  DERIVED. GIVEN WITH THE SEED: THE CARDS: each row of YtolbhjjcabiabaaGreatDoorRows.lean that lists a variable, with what it lists TIED to the program's text (the seventh form; the later family's looks); each row that meets fmt, with fmt's text TOLD by the authors' own Lean function (tested against real Go, not proved from fmt's source: count such statements apart). THE CARD IS WHAT COUNTS. Prove the row's statement (the work); the ties are given (YtolbhjjcabiabaaGreatDoorTie.lean); close each card by the builder's one call (the guide's Derived/Test/ToyasCard.lean, 'card_holds'). Laid BY PROGRAM, IN A SANDBOX (cutbox-door.mjs). By AI agents, Wed Nov 11 2026. No macro, syntax, notation, axiom, sorry.
-/
import Derived.Test.YtolbhjjcabiabaaGreatDoorRows
import GoSem.ClaimSeven
namespace Go.Proofs.YtolbhjjcabiabaaGreatDoor
namespace Rows

/-- THE TIED CARD OF 'draymanlaw20.LangLines'. -/
def langLinesCard : Claim7 := { stood := { row := langLinesRow, standIns := [], harness := (true, "922865edc11e8e986b2c2510c191109180c3cd318323384c91eeecdd6f6c06c0"), looks := true }, kinds := [], alts := [], laidByText := true, laidKinds := [.data, .data, .data, .sentinel, .sentinel, .data, .data], laidTests := true, laidLooks := .later }
def LangLinesCardSaid : Prop := Claim7.holds Tryz.pinned (.plain (OpenSpec.ofChange langLinesSpec)) langLinesCard

/-- THE TIED CARD OF 'draymanlaw20.LangPuts'. -/
def langPutsCard : Claim7 := { stood := { row := langPutsRow, standIns := [], harness := (true, "922865edc11e8e986b2c2510c191109180c3cd318323384c91eeecdd6f6c06c0"), looks := true }, kinds := [], alts := [], laidByText := true, laidKinds := [.data, .data, .data, .sentinel, .sentinel, .data, .data], laidTests := true, laidLooks := .later }
def LangPutsCardSaid : Prop := Claim7.holds Tryz.pinned (.plain (OpenSpec.ofChange langPutsSpec)) langPutsCard

/-- THE TIED CARD OF 'draymanlaw20.LangGets'. -/
def langGetsCard : Claim7 := { stood := { row := langGetsRow, standIns := [], harness := (true, "922865edc11e8e986b2c2510c191109180c3cd318323384c91eeecdd6f6c06c0"), looks := true }, kinds := [], alts := [], laidByText := true, laidKinds := [.data, .data, .data, .sentinel, .sentinel, .data, .data], laidTests := true, laidLooks := .later }
def LangGetsCardSaid : Prop := Claim7.holds Tryz.pinned (.plain (OpenSpec.ofChange langGetsSpec)) langGetsCard

/-- THE TIED CARD OF 'draymanlaw20.LangBack'. -/
def langBackCard : Claim7 := { stood := { row := langBackRow, standIns := [], harness := (true, "922865edc11e8e986b2c2510c191109180c3cd318323384c91eeecdd6f6c06c0"), looks := true }, kinds := [], alts := [], laidByText := true, laidKinds := [.data, .data, .data, .sentinel, .sentinel, .data, .data], laidTests := true, laidLooks := .later }
def LangBackCardSaid : Prop := Claim7.holds Tryz.pinned (.plain (OpenSpec.ofChange langBackSpec)) langBackCard

/-- THE TIED CARD OF 'draymanlaw20.LangCuts'. -/
def langCutsCard : Claim7 := { stood := { row := langCutsRow, standIns := [], harness := (true, "922865edc11e8e986b2c2510c191109180c3cd318323384c91eeecdd6f6c06c0"), looks := true }, kinds := [], alts := [], laidByText := true, laidKinds := [.data, .data, .data, .sentinel, .sentinel, .data, .data], laidTests := true, laidLooks := .later }
def LangCutsCardSaid : Prop := Claim7.holds Tryz.pinned (.plain (OpenSpec.ofChange langCutsSpec)) langCutsCard

/-- THE SECOND FORM's CARD OF 'draymanlaw20.LangLines'. -/
def langLinesUptoCard : Claim7 := { stood := { row := langLinesUptoRow, standIns := [], harness := (true, "922865edc11e8e986b2c2510c191109180c3cd318323384c91eeecdd6f6c06c0"), looks := true }, kinds := [], alts := [], laidByText := true, laidKinds := [.data, .data, .data, .sentinel, .sentinel, .data, .data], laidTests := true, laidLooks := .later }
def LangLinesUptoCardSaid : Prop := Claim7.holds Tryz.pinned (.plain (OpenSpec.upto langLinesSpec)) langLinesUptoCard

/-- THE SECOND FORM's CARD OF 'draymanlaw20.LangPuts'. -/
def langPutsUptoCard : Claim7 := { stood := { row := langPutsUptoRow, standIns := [], harness := (true, "922865edc11e8e986b2c2510c191109180c3cd318323384c91eeecdd6f6c06c0"), looks := true }, kinds := [], alts := [], laidByText := true, laidKinds := [.data, .data, .data, .sentinel, .sentinel, .data, .data], laidTests := true, laidLooks := .later }
def LangPutsUptoCardSaid : Prop := Claim7.holds Tryz.pinned (.plain (OpenSpec.upto langPutsSpec)) langPutsUptoCard

/-- THE SECOND FORM's CARD OF 'draymanlaw20.LangGets'. -/
def langGetsUptoCard : Claim7 := { stood := { row := langGetsUptoRow, standIns := [], harness := (true, "922865edc11e8e986b2c2510c191109180c3cd318323384c91eeecdd6f6c06c0"), looks := true }, kinds := [], alts := [], laidByText := true, laidKinds := [.data, .data, .data, .sentinel, .sentinel, .data, .data], laidTests := true, laidLooks := .later }
def LangGetsUptoCardSaid : Prop := Claim7.holds Tryz.pinned (.plain (OpenSpec.upto langGetsSpec)) langGetsUptoCard

/-- THE SECOND FORM's CARD OF 'draymanlaw20.LangBack'. -/
def langBackUptoCard : Claim7 := { stood := { row := langBackUptoRow, standIns := [], harness := (true, "922865edc11e8e986b2c2510c191109180c3cd318323384c91eeecdd6f6c06c0"), looks := true }, kinds := [], alts := [], laidByText := true, laidKinds := [.data, .data, .data, .sentinel, .sentinel, .data, .data], laidTests := true, laidLooks := .later }
def LangBackUptoCardSaid : Prop := Claim7.holds Tryz.pinned (.plain (OpenSpec.upto langBackSpec)) langBackUptoCard

/-- THE SECOND FORM's CARD OF 'draymanlaw20.LangCuts'. -/
def langCutsUptoCard : Claim7 := { stood := { row := langCutsUptoRow, standIns := [], harness := (true, "922865edc11e8e986b2c2510c191109180c3cd318323384c91eeecdd6f6c06c0"), looks := true }, kinds := [], alts := [], laidByText := true, laidKinds := [.data, .data, .data, .sentinel, .sentinel, .data, .data], laidTests := true, laidLooks := .later }
def LangCutsUptoCardSaid : Prop := Claim7.holds Tryz.pinned (.plain (OpenSpec.upto langCutsSpec)) langCutsUptoCard
end Rows
end Go.Proofs.YtolbhjjcabiabaaGreatDoor
