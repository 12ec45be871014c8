/- Walks: awake, the answers that the document fixes for layer 18. -/
import Derived.Test.YtbaclgnohnmdgaaDoorWalkP18
set_option linter.unusedVariables false
set_option linter.unusedSimpArgs false
namespace Go.Proofs.YtbaclgnohnmdgaaDoor
open Go.RowKit

theorem aw_tell (kind what : Int) (a b : List UInt8) (e : Int) (x : List UInt8) (w : World) (hL : LaidD w) (ha : a.length ≤ 1000) (hb : b.length ≤ 1000) (h : tellL kind what a b (msgOf e) = x) :
    Calls Tryd.prog 7 #[.int .i64 kind, .int .i64 what, .string ⟨a.toArray⟩, .string ⟨b.toArray⟩, .int .i64 e] w fun r w' => r = .returned (.string ⟨x.toArray⟩) ∧ Below w.heap.size w w' := by
  have := Tell_any kind what a b e w hL ha hb
  rw [h] at this; exact this
theorem aw_phrase (what : Int) (x : List UInt8) (w : World) (hL : LaidD w) (h : phraseL what = x) : Calls Tryd.prog 9 #[.int .i64 what] w fun r w' => r = .returned (.string ⟨x.toArray⟩) ∧ Below w.heap.size w w' := by
  have := Phrase_any what w hL
  rw [h] at this; exact this

set_option maxHeartbeats 2000000 in
theorem awake18 (w : World) (hL : LaidD w) : Calls Tryd.prog 6 #[] w fun e w' => e = .returned (.bool true) ∧ Below w.heap.size w w' := by
  have HL := Lib.hid hL
  clear hL
  go_enter Tryd.func6, Tryd.ntmps6
  go_wp2_with fail
  refine (aw_tell 2 2 [97, 32, 98] [] 1 [114, 109, 58, 32, 99, 97, 110, 110, 111, 116, 32, 114, 101, 109, 111, 118, 101, 32, 34, 97, 32, 98, 34, 58, 32, 78, 111, 32, 115, 117, 99, 104, 32, 102, 105, 108, 101, 32, 111, 114, 32, 100, 105, 114, 101, 99, 116, 111, 114, 121] _ HL.out (by decide) (by decide) (by decide +kernel)).mono ?_
  rintro e w1 ⟨rfl, h1⟩
  go_wp2_with fail
  refine (aw_tell 5 19 [97] [98] 0 [99, 112, 58, 32, 99, 97, 110, 110, 111, 116, 32, 99, 111, 112, 121, 32, 97, 32, 100, 105, 114, 101, 99, 116, 111, 114, 121, 44, 32, 34, 97, 34, 44, 32, 105, 110, 116, 111, 32, 105, 116, 115, 101, 108, 102, 44, 32, 34, 98, 34] _ (HL.out.next h1) (by decide) (by decide) (by decide +kernel)).mono ?_
  rintro e w2 ⟨rfl, h2⟩
  replace h2 := h1.trans (h2.mono h1.size)
  clear h1
  go_wp2_with fail
  refine (aw_phrase 9 [65, 32, 97, 110, 100, 32, 66, 32, 97, 114, 101, 32, 116, 104, 101, 32, 115, 97, 109, 101, 32, 102, 105, 108, 101] _ (HL.out.next h2) (by decide +kernel)).mono ?_
  rintro e w3 ⟨rfl, h3⟩
  replace h3 := h2.trans (h3.mono h2.size)
  clear h2
  go_wp2_with fail
  refine (aw_tell 0 1 [] [] 0 [] _ (HL.out.next h3) (by decide) (by decide) (by decide +kernel)).mono ?_
  rintro e w4 ⟨rfl, h4⟩
  replace h4 := h3.trans (h4.mono h3.size)
  clear h3
  go_wp2_with fail
  refine (aw_phrase 23 [] _ (HL.out.next h4) (by decide +kernel)).mono ?_
  rintro e w5 ⟨rfl, h5⟩
  replace h5 := h4.trans (h5.mono h4.size)
  clear h4
  go_wp2
  go_ret
  exact ⟨rfl, h5⟩
end Go.Proofs.YtbaclgnohnmdgaaDoor
