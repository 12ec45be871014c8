/- Walks: strings.Split at a blank, by the library's genSplit. -/
import Derived.Test.YtbaclgnohnmdgaaDoorPure18c
import Derived.Test.YtbaclgnohnmdgaaDoorAid
import Derived.Test.YtbaclgnohnmdgaaDoorChecked
import Derived.Test.YtbaclgnohnmdgaaDoorShelf
import Derived.Shelf.RegionOpenPlain
import Derived.Shelf.Strings.SplitCore
import Derived.Shelf.Strings.Search3
import Derived.Shelf.Strings.Count
set_option linter.unusedVariables false
set_option linter.unusedSimpArgs false
namespace Go.Proofs.YtbaclgnohnmdgaaDoor
open Go.RowKit

theorem cutP_len (l : List UInt8) : (cutP l).length = Lib.countB ⟨l.toArray⟩ ⟨#[32]⟩ + 1 := Lib.splitB_all ⟨#[32]⟩ (by decide) 0 _ ⟨l.toArray⟩ rfl
theorem genSplit18_any (l : List UInt8) (w : World) (hl : l.length ≤ 1000000) :
    Calls Tryd.prog 25 #[.string ⟨l.toArray⟩, .string ⟨#[32]⟩, .int .i64 0, .int .i64 (-1)] w fun e w' => e = .returned (.slice (some ⟨w.heap.size, 0, none⟩) (cutP l).length (cutP l).length) ∧ w' = w.alloc (.cells ((cutP l).map Value.string).toArray 9) := by
  have hs : (ByteArray.mk l.toArray).size < 4294967281 := by simp [ByteArray.size]; omega
  have hle := Lib.countB_le ⟨#[32]⟩ (by decide) _ (ByteArray.mk l.toArray) (Nat.le_refl _)
  have hI : ∀ (x : ByteArray) (c : Array Value), x.size ≤ (ByteArray.mk l.toArray).size → Calls Tryd.prog (Tryd.lays221_ren.f 143) #[.string x, .string ⟨#[32]⟩] (w.alloc (.cells c (Tryd.lays221_ren.t 9))) fun e w' => e = .returned (.int .i64 (Lib.indexB x ⟨#[32]⟩)) ∧ w' = w.alloc (.cells c (Tryd.lays221_ren.t 9)) := fun x c _ => by
    have h := Tryd.strings_Index_one x 32 (w.alloc (.cells c (Tryd.lays221_ren.t 9)))
    rw [← Lib.index_one] at h
    exact h
  have hC : Calls Tryd.prog (Tryd.lays221_ren.f 138) #[.string ⟨l.toArray⟩, .string ⟨#[32]⟩] w fun e w' => e = .returned (.int .i64 (Lib.countB ⟨l.toArray⟩ ⟨#[32]⟩)) ∧ w' = w := by
    have h := Tryd.strings_Count_one ⟨l.toArray⟩ 32 w
    rw [show Lib.countByte (ByteArray.mk l.toArray).data.toList 32 = Lib.countB ⟨l.toArray⟩ ⟨#[32]⟩ from (Lib.count_one 32 _).symm] at h
    exact h
  have c := Any.strings_genSplit_core Tryd.lays221 (by kernel_rfl) ⟨l.toArray⟩ ⟨#[32]⟩ 0 (-1) (Lib.countB ⟨l.toArray⟩ ⟨#[32]⟩ + 1) w hs (by decide) (Nat.zero_le _) hI hC (by decide) (by decide) (by rw [if_pos (by decide)]; omega)
  rw [Nat.add_sub_cancel] at c
  have hL := cutP_len l
  have e2 : Lib.cellsOf (cutP l) (Lib.countB ⟨l.toArray⟩ ⟨#[32]⟩ + 1) = ((cutP l).map Value.string).toArray := by rw [← hL]; exact Lib.cellsOf_full _
  rw [show Lib.splitB ⟨#[32]⟩ 0 (Lib.countB ⟨l.toArray⟩ ⟨#[32]⟩) ⟨l.toArray⟩ = cutP l from rfl, e2, ← hL] at c
  exact c

theorem Split18_any (l : List UInt8) (w : World) (hl : l.length ≤ 1000000) :
    Calls Tryd.prog 19 #[.string ⟨l.toArray⟩, .string ⟨#[32]⟩] w fun e w' => e = .returned (.slice (some ⟨w.heap.size, 0, none⟩) (cutP l).length (cutP l).length) ∧ w' = w.alloc (.cells ((cutP l).map Value.string).toArray 9) := by
  have c := genSplit18_any l w hl
  generalize hV : ((cutP l).map Value.string).toArray = V at *
  generalize (cutP l).length = n at *
  go_enter Tryd.func19, Tryd.ntmps19
  go_wp2_with fail
  refine c.mono ?_
  rintro e w' ⟨rfl, rfl⟩
  go_wp2
  go_ret
  exact ⟨rfl, rfl⟩
end Go.Proofs.YtbaclgnohnmdgaaDoor
