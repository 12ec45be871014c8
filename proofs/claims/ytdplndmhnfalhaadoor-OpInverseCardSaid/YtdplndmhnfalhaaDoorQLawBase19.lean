import Derived.Test.YtdplndmhnfalhaaDoorQAwake19
import Derived.Test.YtdplndmhnfalhaaDoorQMOpIn19
import Derived.Test.YtdplndmhnfalhaaDoorTie
import Derived.Test.YtdplndmhnfalhaaDoorCards
import Derived.ProofKit
import Derived.OpenShut
import Derived.ChangeOld
import Derived.Lay
import Derived.LaidMore
import Derived.Lib.LaidTab
import Derived.Lib.SmallJoins
import Derived.SevenTiedAt
set_option linter.unusedVariables false
set_option linter.unusedSimpArgs false
/- What stage 19's laws share: where the program's table of kinds lies. -/
set_option linter.unusedVariables false
set_option linter.unusedSimpArgs false
namespace Go.Proofs.YtdplndmhnfalhaaDoor
open Go.ChangeShapes Go.WideShapes Go.ChangeAt Go.RowKit
set_option maxRecDepth 100000

theorem laidOut : laidOutB Tryd.prog = true := by kernel_rfl
theorem size_bool19 : Tryd.prog.cellsOf 4 = 1 := by kernel_rfl
theorem size_kind19 : Tryd.prog.cellsOf 34 = 7 := by kernel_rfl
theorem list7 {α : Type} {cs : List α} (h : cs.length = 7) : ∃ c0 c1 c2 c3 c4 c5 c6, cs = [c0, c1, c2, c3, c4, c5, c6] := by
  match cs, h with
  | [c0, c1, c2, c3, c4, c5, c6], _ => exact ⟨c0, c1, c2, c3, c4, c5, c6, rfl⟩
/-- Seven truths, as a struct's cells read. -/
theorem kind_cells19 {H : Type} {enc : TypeId × Value → H} {w : World} {base : Nat} {sp : Nat → Bool} {held : Bool} {fuel : Nat} {cs : List Value} {b0 b1 b2 b3 b4 b5 b6 : Bool} {x : DataW H × List MemPlace}
    (h : DataW.trod enc Tryd.prog w base sp held fuel 34 cs = some x) (hx : x.1 = .agg [.lit (.bool b0), .lit (.bool b1), .lit (.bool b2), .lit (.bool b3), .lit (.bool b4), .lit (.bool b5), .lit (.bool b6)]) :
    cs = [.bool b0, .bool b1, .bool b2, .bool b3, .bool b4, .bool b5, .bool b6] := by
  obtain ⟨xs, n, _, rfl, hl, hlen, hel⟩ := DataW.trod_struct Tryd.underlying34 h
  obtain ⟨c0, c1, c2, c3, c4, c5, c6, rfl⟩ := list7 (hl.trans size_kind19)
  obtain ⟨y0, y1, y2, y3, y4, y5, y6, rfl⟩ := list7 hlen
  have g0 := hel 0 _ rfl
  have g1 := hel 1 _ rfl
  have g2 := hel 2 _ rfl
  have g3 := hel 3 _ rfl
  have g4 := hel 4 _ rfl
  have g5 := hel 5 _ rfl
  have g6 := hel 6 _ rfl
  simp [size_bool19] at g0 g1 g2 g3 g4 g5 g6
  obtain ⟨z0, e0, rfl⟩ := DataW.trod_bool Tryd.underlying4 g0
  obtain ⟨z1, e1, rfl⟩ := DataW.trod_bool Tryd.underlying4 g1
  obtain ⟨z2, e2, rfl⟩ := DataW.trod_bool Tryd.underlying4 g2
  obtain ⟨z3, e3, rfl⟩ := DataW.trod_bool Tryd.underlying4 g3
  obtain ⟨z4, e4, rfl⟩ := DataW.trod_bool Tryd.underlying4 g4
  obtain ⟨z5, e5, rfl⟩ := DataW.trod_bool Tryd.underlying4 g5
  obtain ⟨z6, e6, rfl⟩ := DataW.trod_bool Tryd.underlying4 g6
  simp at hx e0 e1 e2 e3 e4 e5 e6
  obtain ⟨rfl, rfl, rfl, rfl, rfl, rfl, rfl⟩ := hx
  subst e0 e1 e2 e3 e4 e5 e6
  rfl
theorem cell_of_cut19 {cs : List Value} {a j : Nat} {L : List Value} {v : Value} (hL : L.length = 7) (h : (cs.drop a).take 7 = L) (hv : L[j]? = some v) : cs[a + j]? = some v := by
  have hj : j < 7 := by rw [← hL]; exact (List.getElem?_eq_some_iff.1 hv).1
  rw [← h, List.getElem?_take, if_pos hj, List.getElem?_drop] at hv
  exact hv
theorem of_laid {W : World} (h : laidMetH Tryd.prog [("drayman/op.kinds", Rows.laid_drayman_op_kinds)] W) : Laid19 W := by
  rw [MakeChecks.laidMetH_plain _ _ _ (by kernel_rfl)] at h
  obtain ⟨ps, ⟨g, t, cs, fuel, p, q, hg, ht, hvar, hd, _, _⟩, _⟩ := h
  obtain rfl := Option.some.inj ((show Tryd.prog.globalNamed "drayman/op.kinds" = some 0 by kernel_rfl).symm.trans hg)
  obtain rfl := Option.some.inj ((show (Tryd.prog.globals[0]?).map (·.type) = some 44 by kernel_rfl).symm.trans ht)
  obtain ⟨xs, m, rfl, hx, hlen, hxl, hel⟩ := DataW.trod_array Tryd.underlying44 hd
  rw [size_kind19] at hel
  have hm := (congrArg Prod.fst hx).symm
  unfold Rows.laid_drayman_op_kinds at hm
  simp only [DataW.agg.injEq] at hm
  have hall : ∀ (i : Nat) (hi : i < 11), (cs.toList.drop (i * 7)).take 7 = (kC (i : Int)).toList := by
    intro i hi
    have hi2 : i < xs.length := by omega
    have h1 := hel i hi
    rw [List.getElem?_eq_getElem hi2] at h1
    have h2 := congrArg (·[i]?) hm
    simp only [List.getElem?_map, List.getElem?_eq_getElem hi2, Option.map_some] at h2
    refine kind_cells19 h1 (Option.some.inj (h2.trans ?_))
    have hc : i = 0 ∨ i = 1 ∨ i = 2 ∨ i = 3 ∨ i = 4 ∨ i = 5 ∨ i = 6 ∨ i = 7 ∨ i = 8 ∨ i = 9 ∨ i = 10 := by omega
    rcases hc with rfl | rfl | rfl | rfl | rfl | rfl | rfl | rfl | rfl | rfl | rfl <;> rfl
  have hcell : ∀ j v, cs.toList[j]? = some v → W.cell? ⟨0, j, none⟩ = some v := by
    intro j v hj
    rw [World.var?_cell hg hvar j, ← Array.getElem?_toList]
    exact hj
  have hall2 : ∀ (i : Nat), i < 11 → ∀ j v, (kC (i : Int)).toList[j]? = some v → W.cell? ⟨0, i * 7 + j, none⟩ = some v := fun i hi j v hv =>
    hcell _ _ (cell_of_cut19 (by rfl) (hall i hi) hv)
  exact ⟨World.block_lt_of_cell? W _ (hall2 0 (by decide) 0 _ rfl), fun i hi => ⟨hall2 i hi 0 _ rfl, hall2 i hi 1 _ rfl, hall2 i hi 2 _ rfl, hall2 i hi 3 _ rfl, hall2 i hi 4 _ rfl, hall2 i hi 5 _ rfl, hall2 i hi 6 _ rfl⟩⟩
end Go.Proofs.YtdplndmhnfalhaaDoor
