/- Walks: the table in memory; errs.Message, errs.Find. -/
import Derived.Test.YtbaclgnohnmdgaaDoorPure02
import Derived.Test.YtbaclgnohnmdgaaDoorClone
import Derived.Deep.LoopGhost
set_option linter.unusedVariables false
set_option linter.unusedSimpArgs false
namespace Go.Proofs.YtbaclgnohnmdgaaDoor
open Go.RowKit

/-- The table of the messages lies in memory. -/
def Laid (w : World) : Prop := 1 < w.heap.size ∧ ∀ i, i < 14 → w.cell? ⟨1, i, none⟩ = some (.string ⟨(msgAt i).toArray⟩)
theorem Laid.below {w w' : World} {n : Nat} (h : Laid w) (hb : Below n w w') (hn : 1 < n) : Laid w' :=
  ⟨Nat.lt_of_lt_of_le h.1 hb.size, fun i hi => (hb.cell (p := ⟨1, i, none⟩) hn).trans (h.2 i hi)⟩
theorem Laid.next {w w' : World} (h : Laid w) (hb : Below w.heap.size w w') : Laid w' := h.below hb h.1

theorem Message_any (e : Int) (w : World) (hL : Laid w) :
    Calls Tryd.prog 21 #[.int .i64 e] w fun r w' => r = .returned (.string ⟨(msgOf e).toArray⟩) ∧ Below w.heap.size w w' := by
  by_cases h0 : e < 0
  · rw [msgOf_no (Or.inl h0)]
    clear hL
    go_enter Tryd.func21, Tryd.ntmps21
    go_wp2_with fail
    refine (Clone_any unknownM _ (by decide)).mono ?_
    rintro e w' ⟨rfl, hB⟩
    go_wp2
    go_ret
    exact ⟨rfl, hB⟩
  · by_cases h1 : 13 < e
    · rw [msgOf_no (Or.inr h1)]
      clear hL
      go_enter Tryd.func21, Tryd.ntmps21
      go_wp2_with fail
      refine (Clone_any unknownM _ (by decide)).mono ?_
      rintro e w' ⟨rfl, hB⟩
      go_wp2
      go_ret
      exact ⟨rfl, hB⟩
    · obtain ⟨k, rfl⟩ : ∃ k : Nat, e = k := ⟨e.toNat, by omega⟩
      have hk : k < 14 := by omega
      have c := hL.2 k hk
      have hs := msgAt_small k hk
      rw [msgOf_nat k hk]
      clear hL
      go_enter Tryd.func21, Tryd.ntmps21
      go_wp2_with fail
      refine (Clone_any _ _ (by omega)).mono ?_
      rintro e w' ⟨rfl, hB⟩
      go_wp2
      go_ret
      exact ⟨rfl, hB⟩

/-- The table as one value. -/
def tabV : Value := .agg #[.string ⟨(msgAt 0).toArray⟩, .string ⟨(msgAt 1).toArray⟩, .string ⟨(msgAt 2).toArray⟩, .string ⟨(msgAt 3).toArray⟩, .string ⟨(msgAt 4).toArray⟩, .string ⟨(msgAt 5).toArray⟩, .string ⟨(msgAt 6).toArray⟩, .string ⟨(msgAt 7).toArray⟩, .string ⟨(msgAt 8).toArray⟩, .string ⟨(msgAt 9).toArray⟩, .string ⟨(msgAt 10).toArray⟩, .string ⟨(msgAt 11).toArray⟩, .string ⟨(msgAt 12).toArray⟩, .string ⟨(msgAt 13).toArray⟩]

end Go.Proofs.YtbaclgnohnmdgaaDoor
