/- Walks: the document's In, Name, last. -/
import Derived.Test.YtbaclgnohnmdgaaDoorPure17
import Derived.Test.YtbaclgnohnmdgaaDoorAid
import Derived.Test.YtbaclgnohnmdgaaDoorChecked
import Derived.Deep.LoopGhost
set_option linter.unusedVariables false
set_option linter.unusedSimpArgs false
namespace Go.Proofs.YtbaclgnohnmdgaaDoor
open Go.RowKit

/-- Is a byte among others? -/
def inB (s : List UInt8) (c : UInt8) : Bool := s.contains c
theorem below_new (w : World) (o : Obj) : Below w.heap.size w (w.alloc o) := (Below.refl _ w).alloc (Nat.le_refl _) _
theorem contains_yes {s : List UInt8} {c : UInt8} {k : Nat} (h : k < s.length) (e : s[k] = c) : inB s c = true := by
  unfold inB
  rw [List.contains_iff_mem, ← e]; exact List.getElem_mem h
theorem contains_no {s : List UInt8} {c : UInt8} (h : ∀ j (hj : j < s.length), j < s.length → s[j] ≠ c) : inB s c = false := by
  unfold inB
  rw [Bool.eq_false_iff]
  intro hc
  obtain ⟨j, hj, e⟩ := List.getElem_of_mem (List.contains_iff_mem.1 hc)
  exact h j hj hj e

theorem refName_no (k : Int) (w : World) (h : ¬ (1 ≤ k ∧ k ≤ 5)) :
    Calls Tryd.prog 14 #[.int .i64 k] w fun e w' => e = .returned (.string ⟨#[]⟩) ∧ Below w.heap.size w w' := by
  by_cases h1 : k < 1
  · go_enter Tryd.func14, Tryd.ntmps14
    go_wp2
    go_ret
    exact ⟨rfl, Below.refl _ _⟩
  · have h2 : 5 < k := by omega
    go_enter Tryd.func14, Tryd.ntmps14
    go_wp2
    go_ret
    exact ⟨rfl, Below.refl _ _⟩
theorem refName_any (k : Int) (w : World) :
    Calls Tryd.prog 14 #[.int .i64 k] w fun e w' => e = .returned (.string ⟨(nameK k).toArray⟩) ∧ Below w.heap.size w w' := by
  by_cases h : 1 ≤ k ∧ k ≤ 5
  · obtain rfl | rfl | rfl | rfl | rfl : k = 1 ∨ k = 2 ∨ k = 3 ∨ k = 4 ∨ k = 5 := by omega
    all_goals clear h
    all_goals go_enter Tryd.func14, Tryd.ntmps14
    all_goals go_wp2
    all_goals go_ret
    all_goals exact ⟨rfl, below_new _ _⟩
  · have := refName_no k w h
    have e : nameK k = [] := by
      unfold nameK
      rw [if_neg (by omega), if_neg (by omega), if_neg (by omega), if_neg (by omega), if_neg (by omega)]
    rw [e]
    exact this

theorem lastF_len (pair : List UInt8) (s : List UInt8) (k : Nat) (h : k < s.length) : lastF pair (s.take (k + 1)) = if inB pair s[k] = true then s[k] else lastF pair (s.take k) := by
  rw [List.take_succ_eq_append_getElem h, last_snoc]; rfl
end Go.Proofs.YtbaclgnohnmdgaaDoor
