/- What every statement's proof over this translation shares. -/
import Derived.Test.YtgonjgbdggpedaaWalkK03
import Derived.Test.YtgonjgbdggpedaaRows
import Derived.ProofKit
import Derived.OpenShut
import Derived.ShutString
import Derived.ChangeOld
import Derived.SliceStrings
import Derived.Lib.SmallJoins
namespace Go.Proofs.Ytgonjgbdggpedaa
open Go.ChangeShapes Go.WideShapes Go.ChangeAt Go.RowKit

theorem laidOut : laidOutB Try.prog = true := by kernel_rfl

/-- A slice of texts that came in, as its cell reads. -/
theorem strs_of_cell {H : Type} {enc : TypeId × Value → H} {W : World} {fuel : Nat} {a0 : Option Addr} {len cap : Nat} {y : DataW H × List MemPlace}
    (hf : DataW.trod enc Try.prog W 0 (fun _ => true) true fuel 24 [.slice a0 len cap] = some y) : ∃ l, Strs W (.slice a0 len cap) l := by
  rcases open_strings Try.underlying24 Try.underlying9 (by kernel_rfl) hf with ⟨hcs, _⟩ | ⟨a, len', cap', ss, hcs, _, hl, hm, hz, hx, hcell, hsz⟩
  · simp at hcs
    obtain ⟨rfl, rfl, rfl⟩ := hcs
    exact ⟨[], none, 0, rfl, Nat.zero_le _, fun h => absurd h (by simp)⟩
  · simp at hcs
    obtain ⟨rfl, rfl, rfl⟩ := hcs
    simp at hz
    refine ⟨(ss.take len).map (·.data.toList), some a, cap, by simp; omega, by simp; omega, fun h => ?_⟩
    have hn : (List.map (·.data.toList) (ss.take len)).length = len := by simp; omega
    rw [hn] at h
    have c0 := hcell 0 (by omega)
    obtain ⟨b, off, spot⟩ := a
    have hspot : spot = none := by simpa [Addr.add] using World.cell?_spot c0
    subst hspot
    refine ⟨b, off, rfl, ?_, fun i hi => ?_⟩
    · rw [Addr.add_lit] at c0; exact World.block_lt_of_cell? W _ c0
    · have ci := hcell i (by rw [hn] at hi; omega)
      rw [Addr.add_lit] at ci
      rw [ci]
      have hi2 : i < ss.length := by rw [hn] at hi; omega
      simp [List.getD, List.getElem?_eq_getElem hi2]

theorem strs_of_trod {H : Type} {enc : TypeId × Value → H} {W : World} {base : Nat} {v : Value} {d : DataW H} {p : List MemPlace}
    (ok : Value.okWide Try.prog W .any base 24 v) (k : DataW.Trod enc Try.prog W 0 (fun _ => true) true 24 v d p) : ∃ l, Strs W v l := by
  obtain ⟨a0, len, cap, rfl⟩ := okWide_slice Try.underlying24 ok
  obtain ⟨fuel, hf⟩ := k
  exact strs_of_cell (by simpa [Value.cells] using hf)

theorem bool_form {H : Type} {enc : TypeId × Value → H} {W : World} {fuel : Nat} {t : TypeId} {v : Value} {y : DataW H × List MemPlace} (ht : Try.prog.underlying t = some .bool)
    (hf : DataW.trod enc Try.prog W 0 (fun _ => true) true fuel t [v] = some y) : ∃ b, v = .bool b := by
  cases fuel with
  | zero => simp [DataW.trod] at hf
  | succ n =>
    unfold DataW.trod at hf
    rw [ht] at hf
    cases v <;> simp at hf
    exact ⟨_, rfl⟩

/-- A path's parts that came in. -/
theorem path_of_trod {H : Type} {enc : TypeId × Value → H} {W : World} {base : Nat} {v : Value} {d : DataW H} {p : List MemPlace}
    (ok : Value.okWide Try.prog W .any base 26 v) (k : DataW.Trod enc Try.prog W 0 (fun _ => true) true 26 v d p) : ∃ a x s l, v = .agg (pathV a x s) ∧ Strs W x l := by
  obtain ⟨v0, v1, v2, y0, y1, y2, n, rfl, rfl, rfl, h0, h1, h2⟩ := Joins.open_agg3 Try.underlying26 (by kernel_rfl) (by kernel_rfl) ok k
  obtain ⟨a, rfl⟩ := bool_form Try.underlying4 h0
  obtain ⟨s, rfl⟩ := bool_form Try.underlying4 h2
  obtain ⟨ad, len, cap, e⟩ := Joins.slice_form Try.underlying24 h1
  obtain rfl : v1 = .slice ad len cap := by simpa using e
  obtain ⟨l, hl⟩ := strs_of_cell h1
  exact ⟨a, _, s, l, rfl, hl⟩
end Go.Proofs.Ytgonjgbdggpedaa
