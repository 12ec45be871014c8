/- What every statement's proof over this translation shares. -/
import Derived.Test.YtfoablopfpmalaaWalkI04
import Derived.Test.YtfoablopfpmalaaRows
import Derived.ProofKit
import Derived.OpenShut
import Derived.ShutString
import Derived.ChangeOld
import Derived.Deep.SlicePairs
namespace Go.Proofs.Ytfoablopfpmalaa
open Go.ChangeShapes Go.WideShapes Go.ChangeAt Go.RowKit

theorem laidOut : laidOutB Try.prog = true := by kernel_rfl

def textOf : Value → List UInt8
  | .string s => s.data.toList
  | _ => []
def numOf : Value → Int
  | .int _ n => n
  | _ => 0

/-- A slice of entries that came in. -/
theorem ents_of_trod {H : Type} {enc : TypeId × Value → H} {W : World} {base : Nat} {v : Value} {d : DataW H} {p : List MemPlace}
    (ok : Value.okWide Try.prog W .any base 22 v) (k : DataW.Trod enc Try.prog W 0 (fun _ => true) true 22 v d p) : ∃ l, Ents W v l := by
  obtain ⟨a0, len, cap, rfl⟩ := okWide_slice Try.underlying22 ok
  obtain ⟨fuel, hf⟩ := k
  rcases Deep.open_slice_pairs Try.underlying22 Try.underlying30 (by kernel_rfl) rfl rfl (by kernel_rfl) (by kernel_rfl) hf with ⟨hcs, _⟩ | ⟨a, len', cap', m, n, V0, V1, D0, D1, P0, P1, hcs, _, hl, hm, hz, hx, hcell⟩
  · simp [Value.cells] at hcs
    obtain ⟨rfl, rfl, rfl⟩ := hcs
    exact ⟨[], Ents.nil_ W⟩
  · simp [Value.cells] at hcs
    obtain ⟨rfl, rfl, rfl⟩ := hcs
    simp at hz
    subst hz
    refine ⟨(List.range len).map fun i => (textOf (V0 i), numOf (V1 i)), some a, _, by simp, by simpa using hl, hm, fun h => ?_⟩
    have hn : ((List.range len).map fun i => (textOf (V0 i), numOf (V1 i))).length = len := by simp
    rw [hn] at h
    have c0 := (hcell 0 (by omega)).1
    obtain ⟨b, off, spot⟩ := a
    have hspot : spot = none := by simpa [Addr.add] using World.cell?_spot c0
    subst hspot
    refine ⟨b, off, rfl, ?_, fun i hi => ?_⟩
    · rw [Addr.add_lit] at c0; exact World.block_lt_of_cell? W _ c0
    · rw [hn] at hi
      obtain ⟨e0, e1, t0, t1⟩ := hcell i (by omega)
      obtain ⟨s, hs, _, _⟩ := DataW.trod_string Try.underlying9 t0
      obtain ⟨z, hz, _, _⟩ := DataW.trod_int Try.underlying3 t1
      simp only [List.cons.injEq, and_true] at hs hz
      rw [Addr.add_lit] at e0 e1
      rw [hs] at e0
      rw [hz] at e1
      simp only [List.getElem_map, List.getElem_range, hs, hz, textOf, numOf]
      exact ⟨by rw [e0], by rw [← e1, Nat.add_assoc]⟩

/-- A slice of bytes that came in: its length, and each of its bytes. -/
def Byts (w : World) (v : Value) (l : List Nat) : Prop :=
  ∃ a cap, v = .slice a l.length cap ∧ l.length ≤ maxLen ∧ (∀ x ∈ l, x < 256) ∧ (0 < l.length → ∃ b off, a = some ⟨b, off, none⟩ ∧ b < w.heap.size ∧ ∀ i (h : i < l.length), w.cell? ⟨b, off + i, none⟩ = some (.int .u8 ((l[i] : Nat) : Int)))
theorem Byts.below {w w' : World} {v : Value} {l : List Nat} (h : Byts w v l) (hb : Below w.heap.size w w') : Byts w' v l := by
  obtain ⟨a, cap, rfl, hm, hx, h1⟩ := h
  refine ⟨a, cap, rfl, hm, hx, fun hl => ?_⟩
  obtain ⟨b, off, rfl, hlt, hc⟩ := h1 hl
  exact ⟨b, off, rfl, Nat.lt_of_lt_of_le hlt hb.size, fun i hi => (hb.cell (p := ⟨b, off + i, none⟩) hlt).trans (hc i hi)⟩
theorem byts_of_trod {H : Type} {enc : TypeId × Value → H} {W : World} {base : Nat} {v : Value} {d : DataW H} {p : List MemPlace}
    (ok : Value.okWide Try.prog W .any base 37 v) (k : DataW.Trod enc Try.prog W 0 (fun _ => true) true 37 v d p) : ∃ l, Byts W v l := by
  obtain ⟨a0, len, cap, rfl⟩ := okWide_slice Try.underlying37 ok
  obtain ⟨fuel, hf⟩ := k
  rcases Deep.open_slice1 Try.underlying37 (by kernel_rfl) hf with ⟨hcs, _⟩ | ⟨a, len', cap', m, n, V, D, Pl, hcs, _, hl, hm, hz, hx, hcell⟩
  · simp [Value.cells] at hcs
    obtain ⟨rfl, rfl, rfl⟩ := hcs
    exact ⟨[], none, 0, rfl, Nat.zero_le _, by simp, fun h => absurd h (by simp)⟩
  · simp [Value.cells] at hcs
    obtain ⟨rfl, rfl, rfl⟩ := hcs
    simp at hz
    subst hz
    have each : ∀ i, i < len → ∃ z : Nat, V i = .int .u8 (z : Int) ∧ z < 256 := by
      intro i hi
      obtain ⟨z, hz, _, hw⟩ := DataW.trod_int Try.underlying5 (hcell i (by omega)).2
      simp only [List.cons.injEq, and_true] at hz
      have hb := bounds_u8 hw
      exact ⟨z.toNat, by rw [hz]; congr 1; omega, by omega⟩
    have hn : ((List.range len).map fun i => (numOf (V i)).toNat).length = len := by simp
    refine ⟨(List.range len).map fun i => (numOf (V i)).toNat, some a, m, by simp, by rw [hn]; omega, ?_, fun h => ?_⟩
    · intro x hx
      obtain ⟨i, hi, rfl⟩ := List.mem_map.1 hx
      obtain ⟨z, hz, h256⟩ := each i (by simpa using hi)
      rw [hz]; simpa [numOf] using h256
    · rw [hn] at h
      have c0 := (hcell 0 (by omega)).1
      obtain ⟨b, off, spot⟩ := a
      have hspot : spot = none := by simpa [Addr.add] using World.cell?_spot c0
      subst hspot
      refine ⟨b, off, rfl, ?_, fun i hi => ?_⟩
      · rw [Addr.add_lit] at c0; exact World.block_lt_of_cell? W _ c0
      · rw [hn] at hi
        have ci := (hcell i (by omega)).1
        rw [Addr.add_lit] at ci
        obtain ⟨z, hz, _⟩ := each i hi
        rw [ci]
        simp only [List.getElem_map, List.getElem_range, hz, numOf, Int.toNat_natCast]
end Go.Proofs.Ytfoablopfpmalaa
