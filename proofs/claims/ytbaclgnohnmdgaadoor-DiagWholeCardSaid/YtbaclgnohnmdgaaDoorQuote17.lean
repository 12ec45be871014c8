/- The document's Quote, alone (WalkF01 asks for Unquote's walks). -/
import Derived.Test.YtbaclgnohnmdgaaDoorPure01b
import Derived.Test.YtbaclgnohnmdgaaDoorWalkB01
import Derived.Deep.LoopGhost
set_option linter.unusedVariables false
set_option linter.unusedSimpArgs false
namespace Go.Proofs.YtbaclgnohnmdgaaDoor
open Go.RowKit

attribute [go_sem] ByteArray.mk_append_mk

theorem refQuoteK_any (l : List UInt8) (w : World) (hl : l.length ≤ 1000000) :
    Calls Tryd.prog 16 #[.string ⟨l.toArray⟩] w fun e w' => e = .returned (.string ⟨(quoteB l).toArray⟩) ∧ Below w.heap.size w w' := by
  go_enter Tryd.func16, Tryd.ntmps16
  go_wp2
  go_loopw [3, 4] (fun s i wr => ∃ k : Nat, k ≤ l.length ∧ i = .int .i64 k ∧ s = .string ⟨(34 :: formsB (l.take k)).toArray⟩ ∧ Below w.heap.size w wr) (fun _ i _ => l.length - (intOf i).toNat)
  case atStart => exact ⟨0, Nat.zero_le _, rfl, rfl, Below.refl _ _⟩
  case round =>
    obtain ⟨k, hk, rfl, rfl, hb⟩ := hrel
    have hfl := formsB_take_len l k
    by_cases hlt : k < l.length
    · have hsn := Lib.hid (formsB_snoc l k hlt)
      have h4 := formB_len l[k]
      go_wp2_with fail
      refine (Byte_any _ _).mono ?_
      rintro e w2 ⟨rfl, hB⟩
      go_wp2
      go_roundw
      case rel => exact ⟨k + 1, by omega, by go_num, by rw [hsn.out], hb.trans (hB.mono hb.size)⟩
      case measure => simp [intOf]; omega
    · obtain rfl : k = l.length := by omega
      rw [List.take_length] at hfl ⊢
      go_wp2
      go_ret
      exact ⟨rfl, hb⟩
end Go.Proofs.YtbaclgnohnmdgaaDoor
