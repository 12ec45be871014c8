/- Texts put together: LawBase17, Byts17. -/
import Derived.Test.YtboceckeebhfoaaDoorQAwake17
import Derived.Test.YtboceckeebhfoaaDoorQMMore
import Derived.Test.YtboceckeebhfoaaDoorTie
import Derived.Test.YtboceckeebhfoaaDoorCards
import Derived.ProofKit
import Derived.OpenShut
import Derived.ShutString
import Derived.ChangeOld
import Derived.SliceStrings
import Derived.Lay
import Derived.LaidMore
import Derived.Lib.LaidTab
import Derived.Lib.SmallJoins
import Derived.SevenTiedAt
import Derived.Deep.SlicePairs
set_option linter.unusedVariables false
set_option linter.unusedSimpArgs false
/- What stage 17's laws share. -/
set_option linter.unusedVariables false
set_option linter.unusedSimpArgs false
namespace Go.Proofs.YtboceckeebhfoaaDoor
open Go.ChangeShapes Go.WideShapes Go.ChangeAt Go.RowKit

theorem laidOut : laidOutB Tryd.prog = true := by kernel_rfl
theorem cell_of_cut {cs : List Value} {a j : Nat} {v : Value} (hj : j < 4) (h : (((cs.drop a).take 4).drop j).take 1 = [v]) : cs[a + j]? = some v := by
  have h2 := congrArg (·[0]?) h
  simpa [List.getElem?_take, List.getElem?_drop, hj] using h2
theorem struct_cells17 {H : Type} {enc : TypeId × Value → H} {w : World} {base : Nat} {sp : Nat → Bool} {held : Bool} {fuel a : Nat} {cs : List Value} {s t : List UInt8} {b : Bool} {z : Int} {x : DataW H × List MemPlace}
    (h : DataW.trod enc Tryd.prog w base sp held fuel 44 ((cs.drop a).take 4) = some x) (hx : x.1 = .agg [.lit (.string s), .lit (.string t), .lit (.bool b), .lit (.int .i64 z)]) :
    cs[a]? = some (.string ⟨s.toArray⟩) ∧ cs[a + 1]? = some (.string ⟨t.toArray⟩) ∧ cs[a + 2]? = some (.bool b) ∧ cs[a + 3]? = some (.int .i64 z) := by
  obtain ⟨y0, y1, y2, y3, n, rfl, _, h0, h1, h2, h3⟩ := Joins.trod_struct4 Tryd.underlying44 h
  obtain ⟨s0, e0, rfl, _⟩ := DataW.trod_string Tryd.underlying9 h0
  obtain ⟨s1, e1, rfl, _⟩ := DataW.trod_string Tryd.underlying9 h1
  obtain ⟨s2, e2, rfl⟩ := DataW.trod_bool Tryd.underlying4 h2
  obtain ⟨s3, e3, rfl, _⟩ := DataW.trod_int Tryd.underlying3 h3
  simp at hx
  obtain ⟨rfl, rfl, rfl, rfl⟩ := hx
  exact ⟨cell_of_cut (j := 0) (by omega) e0, cell_of_cut (j := 1) (by omega) e1, cell_of_cut (j := 2) (by omega) e2, cell_of_cut (j := 3) (by omega) e3⟩

theorem of_laid {W : World} (h : laidMetH Tryd.prog [("drayman/args.commands", Rows.laid_drayman_args_commands)] W) : Laid17 W := by
  rw [MakeChecks.laidMetH_plain _ _ _ (by kernel_rfl)] at h
  obtain ⟨ps, ⟨g, t, cs, fuel, p, q, hg, ht, hvar, hd, _, _⟩, _⟩ := h
  obtain rfl := Option.some.inj ((show Tryd.prog.globalNamed "drayman/args.commands" = some 0 by kernel_rfl).symm.trans hg)
  obtain rfl := Option.some.inj ((show (Tryd.prog.globals[0]?).map (·.type) = some 45 by kernel_rfl).symm.trans ht)
  obtain ⟨xs, m, rfl, hx, hlen, hxl, hel⟩ := DataW.trod_array Tryd.underlying45 hd
  rw [show Tryd.prog.cellsOf 44 = 4 by kernel_rfl] at hel
  have hm := (congrArg Prod.fst hx).symm
  unfold Rows.laid_drayman_args_commands at hm
  simp only [DataW.agg.injEq] at hm
  have hall : ∀ (i : Nat) (hi : i < 6), cs.toList[i * 4]? = some (.string ⟨(nameK (i : Int)).toArray⟩) ∧ cs.toList[i * 4 + 1]? = some (.string ⟨(letK (i : Int)).toArray⟩) ∧ cs.toList[i * 4 + 2]? = some (.bool (decide (4 ≤ (i : Int)))) ∧ cs.toList[i * 4 + 3]? = some (.int .i64 (needK (i : Int))) := by
    intro i hi
    have hi2 : i < xs.length := by omega
    have h1 := hel i hi
    rw [List.getElem?_eq_getElem hi2] at h1
    have h2 := congrArg (·[i]?) hm
    simp only [List.getElem?_map, List.getElem?_eq_getElem hi2, Option.map_some] at h2
    refine struct_cells17 h1 (Option.some.inj (h2.trans ?_))
    have hc : i = 0 ∨ i = 1 ∨ i = 2 ∨ i = 3 ∨ i = 4 ∨ i = 5 := by omega
    rcases hc with rfl | rfl | rfl | rfl | rfl | rfl <;> rfl
  have hcell : ∀ j v, cs.toList[j]? = some v → W.cell? ⟨0, j, none⟩ = some v := by
    intro j v hj
    rw [World.var?_cell hg hvar j, ← Array.getElem?_toList]
    exact hj
  have hall2 : ∀ i : Nat, i < 6 → W.cell? ⟨0, i * 4, none⟩ = some (.string ⟨(nameK (i : Int)).toArray⟩) ∧ W.cell? ⟨0, i * 4 + 1, none⟩ = some (.string ⟨(letK (i : Int)).toArray⟩) ∧ W.cell? ⟨0, i * 4 + 2, none⟩ = some (.bool (decide (4 ≤ (i : Int)))) ∧ W.cell? ⟨0, i * 4 + 3, none⟩ = some (.int .i64 (needK (i : Int))) := fun i hi =>
    ⟨hcell _ _ (hall i hi).1, hcell _ _ (hall i hi).2.1, hcell _ _ (hall i hi).2.2.1, hcell _ _ (hall i hi).2.2.2⟩
  exact ⟨Nat.lt_of_le_of_lt (Nat.zero_le _) (World.block_lt_of_cell? W _ (hall2 0 (by decide)).1), hall2⟩

/-- A slice of texts that came in. -/
theorem strsC_of_trod {H : Type} {enc : TypeId × Value → H} {W : World} {base : Nat} {v : Value} {d : DataW H} {p : List MemPlace}
    (ok : Value.okWide Tryd.prog W .any base 22 v) (k : DataW.Trod enc Tryd.prog W 0 (fun _ => true) true 22 v d p) : ∃ l, StrsC W v l := by
  obtain ⟨a0, len, cap, rfl⟩ := okWide_slice Tryd.underlying22 ok
  obtain ⟨fuel, hf⟩ := k
  rcases open_strings Tryd.underlying22 Tryd.underlying9 (by kernel_rfl) hf with ⟨hcs, _⟩ | ⟨a, len', cap', ss, hcs, _, hl, hm, hz, hx, hcell, hsz⟩
  · simp [Value.cells] at hcs
    obtain ⟨rfl, rfl, rfl⟩ := hcs
    exact ⟨[], StrsC.nil_ W⟩
  · simp [Value.cells] at hcs
    obtain ⟨rfl, rfl, rfl⟩ := hcs
    simp at hz
    have hn : (List.map (·.data.toList) (ss.take len)).length = len := by simp; omega
    refine ⟨(ss.take len).map (·.data.toList), ⟨some a, cap, by rw [hn], by rw [hn]; omega, fun h => ?_⟩, fun a' n c h => by cases h; exact ⟨by omega, fun h => by cases h⟩⟩
    rw [hn] at h
    have c0 := hcell 0 (by omega)
    obtain ⟨b, off, spot⟩ := a
    have hspot : spot = none := by simpa [Addr.add] using World.cell?_spot c0
    subst hspot
    refine ⟨b, off, rfl, ?_, fun i hi => ?_⟩
    · rw [Addr.add_lit] at c0; exact World.block_lt_of_cell? W _ c0
    · have ci := hcell i (by rw [hn] at hi; omega)
      rw [Addr.add_lit] at ci
      rw [ci]
      have hi2 : i < ss.length := by rw [hn] at hi; omega
      simp [List.getD, List.getElem?_eq_getElem hi2]
end Go.Proofs.YtboceckeebhfoaaDoor

/- Slices of bytes that came in. -/
set_option linter.unusedVariables false
set_option linter.unusedSimpArgs false
namespace Go.Proofs.YtboceckeebhfoaaDoor
open Go.ChangeShapes Go.WideShapes Go.ChangeAt Go.RowKit

def numOf : Value → Int
  | .int _ n => n
  | _ => 0
/-- A slice of bytes that came in: its length, and each of its bytes. -/
def Byts (w : World) (v : Value) (l : List Nat) : Prop :=
  ∃ a cap, v = .slice a l.length cap ∧ l.length ≤ maxLen ∧ (∀ x ∈ l, x < 256) ∧ (0 < l.length → ∃ b off, a = some ⟨b, off, none⟩ ∧ b < w.heap.size ∧ ∀ i (h : i < l.length), w.cell? ⟨b, off + i, none⟩ = some (.int .u8 ((l[i] : Nat) : Int)))
theorem Byts.below {w w' : World} {v : Value} {l : List Nat} (h : Byts w v l) (hb : Below w.heap.size w w') : Byts w' v l := by
  obtain ⟨a, cap, rfl, hm, hx, h1⟩ := h
  refine ⟨a, cap, rfl, hm, hx, fun hl => ?_⟩
  obtain ⟨b, off, rfl, hlt, hc⟩ := h1 hl
  exact ⟨b, off, rfl, Nat.lt_of_lt_of_le hlt hb.size, fun i hi => (hb.cell (p := ⟨b, off + i, none⟩) hlt).trans (hc i hi)⟩
theorem byts_of_trod {H : Type} {enc : TypeId × Value → H} {W : World} {base : Nat} {v : Value} {d : DataW H} {p : List MemPlace}
    (ok : Value.okWide Tryd.prog W .any base 34 v) (k : DataW.Trod enc Tryd.prog W 0 (fun _ => true) true 34 v d p) : ∃ l, Byts W v l := by
  obtain ⟨a0, len, cap, rfl⟩ := okWide_slice Tryd.underlying34 ok
  obtain ⟨fuel, hf⟩ := k
  rcases Deep.open_slice1 Tryd.underlying34 (by kernel_rfl) hf with ⟨hcs, _⟩ | ⟨a, len', cap', m, n, V, D, Pl, hcs, _, hl, hm, hz, hx, hcell⟩
  · simp [Value.cells] at hcs
    obtain ⟨rfl, rfl, rfl⟩ := hcs
    exact ⟨[], none, 0, rfl, Nat.zero_le _, by simp, fun h => absurd h (by simp)⟩
  · simp [Value.cells] at hcs
    obtain ⟨rfl, rfl, rfl⟩ := hcs
    simp at hz
    subst hz
    have each : ∀ i, i < len → ∃ z : Nat, V i = .int .u8 (z : Int) ∧ z < 256 := by
      intro i hi
      obtain ⟨z, hz, _, hw⟩ := DataW.trod_int Tryd.underlying5 (hcell i (by omega)).2
      simp only [List.cons.injEq, and_true] at hz
      have hb := bounds_u8 hw
      exact ⟨z.toNat, by rw [hz]; congr 1; omega, by omega⟩
    have hn : ((List.range len).map fun i => (numOf (V i)).toNat).length = len := by simp
    refine ⟨(List.range len).map fun i => (numOf (V i)).toNat, some a, m, by simp, by rw [hn]; omega, ?_, fun h => ?_⟩
    · intro x hx
      obtain ⟨i, hi, rfl⟩ := List.mem_map.1 hx
      obtain ⟨z, hz, h256⟩ := each i (by simpa using hi)
      rw [hz]; simpa [numOf] using h256
    · rw [hn] at h
      have c0 := (hcell 0 (by omega)).1
      obtain ⟨b, off, spot⟩ := a
      have hspot : spot = none := by simpa [Addr.add] using World.cell?_spot c0
      subst hspot
      refine ⟨b, off, rfl, ?_, fun i hi => ?_⟩
      · rw [Addr.add_lit] at c0; exact World.block_lt_of_cell? W _ c0
      · rw [hn] at hi
        have ci := (hcell i (by omega)).1
        rw [Addr.add_lit] at ci
        obtain ⟨z, hz, _⟩ := each i hi
        rw [ci]
        simp only [List.getElem_map, List.getElem_range, hz, numOf, Int.toNat_natCast]
end Go.Proofs.YtboceckeebhfoaaDoor
