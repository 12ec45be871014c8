/- What every statement's proof over this translation shares. -/
import Derived.Test.YthhnkakobjbdlaaWalkI01
import Derived.ProofKit
import Derived.OpenShut
import Derived.ShutString
import Derived.ChangeOld
import Derived.SliceStrings
set_option linter.unusedVariables false
set_option linter.unusedSimpArgs false
namespace Go.Proofs.Ythhnkakobjbdlaa
open Go.ChangeShapes Go.WideShapes Go.ChangeAt Go.RowKit

theorem laidOut : laidOutB Try.prog = true := by kernel_rfl

/-- A slice of texts that came in. -/
theorem strs_of_trod {H : Type} {enc : TypeId × Value → H} {W : World} {base : Nat} {v : Value} {d : DataW H} {p : List MemPlace}
    (ok : Value.okWide Try.prog W .any base 27 v) (k : DataW.Trod enc Try.prog W 0 (fun _ => true) true 27 v d p) : ∃ l, Strs W v l := by
  obtain ⟨a0, len, cap, rfl⟩ := okWide_slice Try.underlying27 ok
  obtain ⟨fuel, hf⟩ := k
  rcases open_strings Try.underlying27 Try.underlying9 (by kernel_rfl) hf with ⟨hcs, _⟩ | ⟨a, len', cap', ss, hcs, _, hl, hm, hz, hx, hcell, hsz⟩
  · simp [Value.cells] at hcs
    obtain ⟨rfl, rfl, rfl⟩ := hcs
    exact ⟨[], none, 0, rfl, Nat.zero_le _, fun h => absurd h (by simp)⟩
  · simp [Value.cells] at hcs
    obtain ⟨rfl, rfl, rfl⟩ := hcs
    simp at hz
    refine ⟨(ss.take len).map (·.data.toList), some a, cap, by simp; omega, by simp; omega, fun h => ?_⟩
    have hn : (List.map (·.data.toList) (ss.take len)).length = len := by simp; omega
    rw [hn] at h
    have c0 := hcell 0 (by omega)
    obtain ⟨b, off, spot⟩ := a
    have hspot : spot = none := by simpa [Addr.add] using World.cell?_spot c0
    subst hspot
    refine ⟨b, off, rfl, ?_, fun i hi => ?_⟩
    · rw [Addr.add_lit] at c0; exact World.block_lt_of_cell? W _ c0
    · have ci := hcell i (by rw [hn] at hi; omega)
      rw [Addr.add_lit] at ci
      rw [ci]
      have hi2 : i < ss.length := by rw [hn] at hi; omega
      simp [List.getD, List.getElem?_eq_getElem hi2]
end Go.Proofs.Ythhnkakobjbdlaa
