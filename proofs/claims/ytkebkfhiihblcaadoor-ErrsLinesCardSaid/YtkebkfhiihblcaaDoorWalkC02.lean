/- Walks: awake, the answers that the document fixes for layer 2. -/
import Derived.Test.YtkebkfhiihblcaaDoorWalkB02
namespace Go.Proofs.YtkebkfhiihblcaaDoor
open Go.RowKit

theorem aw_find (s : List UInt8) (k : Nat) (w : World) (hL : Laid w) (h : findM s = some k) : Calls Tryd.prog 10 #[.string ⟨s.toArray⟩] w fun r w' => r = .returned (.tuple #[.int .i64 k, .bool true]) ∧ w = w' := by
  have := Find_any s w hL
  rw [h] at this; exact this
theorem aw_find_no (s : List UInt8) (w : World) (hL : Laid w) (h : findM s = none) : Calls Tryd.prog 10 #[.string ⟨s.toArray⟩] w fun r w' => r = .returned (.tuple #[.int .i64 0, .bool false]) ∧ w = w' := by
  have := Find_any s w hL
  rw [h] at this; exact this
theorem aw_message (e : Int) (x : List UInt8) (w : World) (hL : Laid w) (h : msgOf e = x) : Calls Tryd.prog 8 #[.int .i64 e] w fun r w' => r = .returned (.string ⟨x.toArray⟩) ∧ Below w.heap.size w w' := by
  have := Message_any e w hL
  rw [h] at this; exact this
theorem aw_line (l : List (List UInt8)) (x : List UInt8) (v : Value) (w : World) (hv : Strs w v l) (hl : l.length ≤ 1000001) (h : lineB l = x) (hx : x.length ≤ 1000000) : Calls Tryd.prog 12 #[v] w fun r w' => r = .returned (.string ⟨x.toArray⟩) ∧ Below w.heap.size w w' := by
  have := Line_any l v w hv hl (by rw [h]; exact hx)
  rw [h] at this; exact this

set_option maxHeartbeats 2000000 in
theorem awake_any (w : World) (hL : Laid w) : Calls Tryd.prog 7 #[] w fun e w' => e = .returned (.bool true) ∧ Below w.heap.size w w' := by
  have HL := Lib.hid hL
  clear hL
  go_enter Tryd.func7, Tryd.ntmps7
  go_wp2_with fail
  refine (aw_find [70, 105, 108, 101, 32, 101, 120, 105, 115, 116, 115] 2 _ HL.out (by decide +kernel)).mono ?_
  rintro e w' ⟨rfl, rfl⟩
  go_wp2_with fail
  refine (aw_find_no [102, 105, 108, 101, 32, 101, 120, 105, 115, 116, 115] _ HL.out (by decide +kernel)).mono ?_
  rintro e w' ⟨rfl, rfl⟩
  go_wp2_with fail
  refine (aw_message 1 [78, 111, 32, 115, 117, 99, 104, 32, 102, 105, 108, 101, 32, 111, 114, 32, 100, 105, 114, 101, 99, 116, 111, 114, 121] _ HL.out (by decide +kernel)).mono ?_
  rintro e w1 ⟨rfl, h1⟩
  go_wp2_with fail
  refine (aw_message 99 [85, 110, 107, 110, 111, 119, 110, 32, 101, 114, 114, 111, 114] _ (HL.out.next h1) (by decide +kernel)).mono ?_
  rintro e w2 ⟨rfl, h2⟩
  replace h2 := h1.trans (h2.mono h1.size)
  clear h1
  go_wp2_with fail
  refine (aw_line [[99, 112], [97], [98]] [99, 112, 58, 32, 97, 58, 32, 98] _ _ (new_strs _ _ _ [[99, 112], [97], [98]] _ _ rfl rfl (by decide)) (by decide) (by decide +kernel) (by decide)).mono ?_
  rintro e w3 ⟨rfl, h3⟩
  replace h3 := (h2.alloc h2.size _).trans (h3.mono (h2.alloc h2.size _).size)
  clear h2
  go_wp2_with fail
  refine (aw_line [] [] _ _ (Strs.nil_ _) (by decide) rfl (by decide)).mono ?_
  rintro e w4 ⟨rfl, h4⟩
  replace h4 := h3.trans (h4.mono h3.size)
  clear h3
  go_wp2
  go_ret
  exact ⟨rfl, h4⟩
end Go.Proofs.YtkebkfhiihblcaaDoor
