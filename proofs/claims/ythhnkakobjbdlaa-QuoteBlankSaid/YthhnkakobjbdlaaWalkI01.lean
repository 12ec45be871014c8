/- Walks: awake, the answers that the document fixes for layer 1. -/
import Derived.Test.YthhnkakobjbdlaaWalkH01
set_option linter.unusedVariables false
set_option linter.unusedSimpArgs false
namespace Go.Proofs.Ythhnkakobjbdlaa
open Go.RowKit

theorem aw_unq (l x : List UInt8) (w : World) (hl : l.length ≤ 1000000) (h : unquoteB l = some x) : Calls Try.prog 14 #[.string ⟨l.toArray⟩] w fun e w' => e = .returned (.tuple #[.string ⟨x.toArray⟩, .bool true]) ∧ Below w.heap.size w w' := by
  have := Unquote_any l w hl
  rw [unqV_some h] at this; exact this
theorem aw_unq_no (l : List UInt8) (w : World) (hl : l.length ≤ 1000000) (h : unquoteB l = none) : Calls Try.prog 14 #[.string ⟨l.toArray⟩] w fun e w' => e = .returned (.tuple #[.string ⟨#[]⟩, .bool false]) ∧ Below w.heap.size w w' := by
  have := Unquote_any l w hl
  rw [unqV_none h] at this; exact this
theorem aw_split (l : List UInt8) (ws : List (List UInt8)) (w : World) (hl : l.length ≤ 1000000) (h : splitB l = some ws) : Calls Try.prog 16 #[.string ⟨l.toArray⟩] w fun e w' => ∃ v, e = .returned (.tuple #[v, .bool true]) ∧ Strs w' v ws ∧ Below w.heap.size w w' := by
  refine (Split_any l w hl).mono ?_
  rintro e w' ⟨v, rfl, hown, hB⟩
  rw [h] at hown ⊢
  exact ⟨v, rfl, own_strs hown, hB⟩
theorem aw_split_no (l : List UInt8) (w : World) (hl : l.length ≤ 1000000) (h : splitB l = none) : Calls Try.prog 16 #[.string ⟨l.toArray⟩] w fun e w' => ∃ v, e = .returned (.tuple #[v, .bool false]) ∧ Strs w' v [] ∧ Below w.heap.size w w' := by
  refine (Split_any l w hl).mono ?_
  rintro e w' ⟨v, rfl, hown, hB⟩
  rw [h] at hown ⊢
  exact ⟨v, rfl, own_strs (l := []) hown, hB⟩
theorem aw_plain (l : List UInt8) (b : Bool) (w : World) (hl : l.length ≤ 1000000) (h : plainB l = b) : Calls Try.prog 12 #[.string ⟨l.toArray⟩] w fun e w' => e = .returned (.bool b) ∧ w = w' := by
  have := Plain_any l w hl
  rw [h] at this; exact this
theorem aw_quote (l x : List UInt8) (w : World) (hl : l.length ≤ 1000000) (h : quoteB l = x) : Calls Try.prog 10 #[.string ⟨l.toArray⟩] w fun e w' => e = .returned (.string ⟨x.toArray⟩) ∧ Below w.heap.size w w' := by
  have := Quote_any l w hl
  rw [h] at this; exact this

set_option maxHeartbeats 2000000 in
theorem awake_any (w : World) : Calls Try.prog 9 #[] w fun e w' => e = .returned (.bool true) ∧ Below w.heap.size w w' := by
  go_enter Try.func9, Try.ntmps9
  go_wp2_with fail
  refine (aw_unq [34, 97, 32, 98, 92, 120, 48, 97, 34] [97, 32, 98, 10] _ (by decide) (by decide +kernel)).mono ?_
  rintro e w1 ⟨rfl, h1⟩
  go_wp2_with fail
  refine (aw_unq_no [34, 92, 120, 52, 49, 34] _ (by decide) (by decide +kernel)).mono ?_
  rintro e w2 ⟨rfl, h2⟩
  replace h2 := h1.trans (h2.mono h1.size)
  clear h1
  go_wp2_with fail
  refine (aw_unq_no [97] _ (by decide) (by decide +kernel)).mono ?_
  rintro e w3 ⟨rfl, h3⟩
  replace h3 := h2.trans (h3.mono h2.size)
  clear h2
  go_wp2_with fail
  refine (aw_split [109, 107, 100, 105, 114, 32, 34, 47, 97, 32, 98, 34] [[109, 107, 100, 105, 114], [34, 47, 97, 32, 98, 34]] _ (by decide) (by decide +kernel)).mono ?_
  rintro e w4 ⟨v, rfl, s4, h4⟩
  replace h4 := h3.trans (h4.mono h3.size)
  clear h3
  go_wp2_with fail
  refine (aw_split_no [97, 32, 32, 98] _ (by decide) (by decide +kernel)).mono ?_
  rintro e w5 ⟨v5, rfl, _, h5⟩
  replace s4 := s4.below h5
  replace h5 := h4.trans (h5.mono h4.size)
  clear h4
  go_wp2_with fail
  refine (aw_split [] [] _ (by decide) (by decide +kernel)).mono ?_
  rintro e w6 ⟨v6, rfl, s6, h6⟩
  replace s4 := s4.below h6
  replace h6 := h5.trans (h6.mono h5.size)
  clear h5
  obtain ⟨a6, c6, rfl, _, _⟩ := s6
  go_wp2_with fail
  refine (aw_quote [97, 32, 98, 10] [34, 97, 32, 98, 92, 120, 48, 97, 34] _ (by decide) (by decide +kernel)).mono ?_
  rintro e w7 ⟨rfl, h7⟩
  replace s4 := s4.below h7
  replace h7 := h6.trans (h7.mono h6.size)
  clear h6
  have S4 := Lib.hid s4
  obtain ⟨a4, c4, rfl, _, hc⟩ := s4
  obtain ⟨b, off, rfl, hb, hc⟩ := hc (by decide)
  have e0 : w7.cell? ⟨b, off, none⟩ = some (.string ⟨#[109, 107, 100, 105, 114]⟩) := hc 0 (by decide)
  have e1 : w7.cell? ⟨b, off + 1, none⟩ = some (.string ⟨#[34, 47, 97, 32, 98, 34]⟩) := hc 1 (by decide)
  clear hc
  go_wp2_with fail
  refine (Join_any [[109, 107, 100, 105, 114], [34, 47, 97, 32, 98, 34]] _ _ S4.out (by decide) (by decide)).mono ?_
  rintro e w8 ⟨rfl, h8⟩
  replace h8 := h7.trans (h8.mono h7.size)
  rw [show joinB [[109, 107, 100, 105, 114], [34, 47, 97, 32, 98, 34]] = [109, 107, 100, 105, 114, 32, 34, 47, 97, 32, 98, 34] from by decide]
  clear e0 e1 h7
  go_wp2_with fail
  refine (aw_plain [97, 92] true _ (by decide) (by decide +kernel)).mono ?_
  rintro e w' ⟨rfl, rfl⟩
  go_wp2_with fail
  refine (aw_plain [] false _ (by decide) (by decide +kernel)).mono ?_
  rintro e w' ⟨rfl, rfl⟩
  go_wp2_with fail
  refine (aw_plain [97, 32, 98] false _ (by decide) (by decide +kernel)).mono ?_
  rintro e w' ⟨rfl, rfl⟩
  go_wp2
  go_ret
  exact ⟨rfl, h8⟩
end Go.Proofs.Ythhnkakobjbdlaa
