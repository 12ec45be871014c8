/- What stage 18's laws share: the tables of errs and args, as the row lists them, lie in memory. -/
import Derived.Test.YtbaclgnohnmdgaaDoorAwake18
import Derived.Test.YtbaclgnohnmdgaaDoorTie
import Derived.Test.YtbaclgnohnmdgaaDoorCards
import Derived.ProofKit
import Derived.OpenShut
import Derived.ShutString
import Derived.ChangeOld
import Derived.SliceStrings
import Derived.Lay
import Derived.LaidMore
import Derived.Lib.LaidTab
import Derived.Lib.SmallJoins
import Derived.SevenTiedAt
set_option linter.unusedVariables false
set_option linter.unusedSimpArgs false
namespace Go.Proofs.YtbaclgnohnmdgaaDoor
open Go.ChangeShapes Go.WideShapes Go.ChangeAt Go.RowKit

theorem laidOut : laidOutB Tryd.prog = true := by kernel_rfl

/-- An array of texts that reads as these has them, cell for cell. -/
theorem strTab_cells {H : Type} {enc : TypeId × Value → H} {P : Program} {w : World} {base : Nat} {sp : Nat → Bool} {held : Bool} {fuel : Nat} {t e : TypeId} {n : Nat} {cs : List Value} {ls : List (List UInt8)} {p : List MemPlace}
    (ht : P.underlying t = some (.array n e)) (he : P.underlying e = some .string) (hce : P.cellsOf e = 1)
    (h : DataW.trod enc P w base sp held fuel t cs = some (.agg (ls.map fun l => .lit (.string l)), p)) : ∀ i, i < n → cs[i]? = some (.string ⟨(ls.getD i []).toArray⟩) := by
  obtain ⟨xs, m, rfl, hx, hlen, hxl, hel⟩ := DataW.trod_array ht h
  have hm : xs.map (·.1) = ls.map fun l => (DataW.lit (.string l) : DataW H) := by
    have := congrArg Prod.fst hx
    simpa using this.symm
  intro i hi
  have hi2 : i < xs.length := by omega
  have hi3 : i < ls.length := by
    have := congrArg List.length hm
    simp at this; omega
  have h1 := hel i hi
  rw [List.getElem?_eq_getElem hi2] at h1
  obtain ⟨s, hc, hs, _⟩ := DataW.trod_string he h1
  have h2 : (xs.map (·.1))[i]? = (ls.map fun l => (DataW.lit (.string l) : DataW H))[i]? := by rw [hm]
  rw [List.getElem?_map, List.getElem?_map, List.getElem?_eq_getElem hi2, List.getElem?_eq_getElem hi3, hs] at h2
  simp at h2
  rw [hce] at hc
  have h3 : cs[i]? = some (.string s) := by
    have := congrArg (·[0]?) hc
    simpa [List.getElem?_take, List.getElem?_drop] using this
  rw [h3, List.getD, List.getElem?_eq_getElem hi3, Option.getD_some, ← h2]

theorem cell_of_cut {cs : List Value} {a j : Nat} {v : Value} (hj : j < 4) (h : (((cs.drop a).take 4).drop j).take 1 = [v]) : cs[a + j]? = some v := by
  have h2 := congrArg (·[0]?) h
  simpa [List.getElem?_take, List.getElem?_drop, hj] using h2
theorem struct_cells18 {H : Type} {enc : TypeId × Value → H} {w : World} {base : Nat} {sp : Nat → Bool} {held : Bool} {fuel a : Nat} {cs : List Value} {s t : List UInt8} {b : Bool} {z : Int} {x : DataW H × List MemPlace}
    (h : DataW.trod enc Tryd.prog w base sp held fuel 35 ((cs.drop a).take 4) = some x) (hx : x.1 = .agg [.lit (.string s), .lit (.string t), .lit (.bool b), .lit (.int .i64 z)]) :
    cs[a]? = some (.string ⟨s.toArray⟩) ∧ cs[a + 1]? = some (.string ⟨t.toArray⟩) ∧ cs[a + 2]? = some (.bool b) ∧ cs[a + 3]? = some (.int .i64 z) := by
  obtain ⟨y0, y1, y2, y3, n, rfl, _, h0, h1, h2, h3⟩ := Joins.trod_struct4 Tryd.underlying35 h
  obtain ⟨s0, e0, rfl, _⟩ := DataW.trod_string Tryd.underlying9 h0
  obtain ⟨s1, e1, rfl, _⟩ := DataW.trod_string Tryd.underlying9 h1
  obtain ⟨s2, e2, rfl⟩ := DataW.trod_bool Tryd.underlying4 h2
  obtain ⟨s3, e3, rfl, _⟩ := DataW.trod_int Tryd.underlying3 h3
  simp at hx
  obtain ⟨rfl, rfl, rfl, rfl⟩ := hx
  exact ⟨cell_of_cut (j := 0) (by omega) e0, cell_of_cut (j := 1) (by omega) e1, cell_of_cut (j := 2) (by omega) e2, cell_of_cut (j := 3) (by omega) e3⟩


theorem of_laid {W : World} (h : laidMetH Tryd.prog [("unicode/utf8.acceptRanges", Rows.laid_unicode_utf8_acceptRanges), ("drayman/errs.messages", Rows.laid_drayman_errs_messages), ("drayman/args.commands", Rows.laid_drayman_args_commands), ("unicode/utf8.first", Rows.laid_unicode_utf8_first)] W) : LaidD W := by
  rw [MakeChecks.laidMetH_plain _ _ _ (by kernel_rfl)] at h
  obtain ⟨ps, ⟨g0, t0, cs0, fuel0, p0, q0, hg0, ht0, hvar0, hd0, ⟨g1, t1, cs1, fuel1, p1, q1, hg1, ht1, hvar1, hd1, ⟨g2, t2, cs2, fuel2, p2, q2, hg2, ht2, hvar2, hd2, _, _⟩, _⟩, _⟩, _⟩ := h
  constructor
  · clear hg0 ht0 hvar0 hd0 hg2 ht2 hvar2 hd2
    obtain rfl := Option.some.inj ((show Tryd.prog.globalNamed "drayman/errs.messages" = some 1 by kernel_rfl).symm.trans hg1)
    obtain rfl := Option.some.inj ((show (Tryd.prog.globals[1]?).map (·.type) = some 46 by kernel_rfl).symm.trans ht1)
    have hc := strTab_cells (ls := msgs) Tryd.underlying46 Tryd.underlying9 (by kernel_rfl) hd1
    have hall : ∀ i, i < 14 → W.cell? ⟨1, i, none⟩ = some (.string ⟨(msgAt i).toArray⟩) := by
      intro i hi
      have := World.var?_cell hg1 hvar1 i
      rw [this, ← Array.getElem?_toList, hc i hi]
      rfl
    exact ⟨World.block_lt_of_cell? W _ (hall 0 (by decide)), hall⟩
  · clear hg0 ht0 hvar0 hd0 hg1 ht1 hvar1 hd1
    obtain rfl := Option.some.inj ((show Tryd.prog.globalNamed "drayman/args.commands" = some 0 by kernel_rfl).symm.trans hg2)
    obtain rfl := Option.some.inj ((show (Tryd.prog.globals[0]?).map (·.type) = some 36 by kernel_rfl).symm.trans ht2)
    obtain ⟨xs, m, rfl, hx, hlen, hxl, hel⟩ := DataW.trod_array Tryd.underlying36 hd2
    rw [show Tryd.prog.cellsOf 35 = 4 by kernel_rfl] at hel
    have hm := (congrArg Prod.fst hx).symm
    unfold Rows.laid_drayman_args_commands at hm
    simp only [DataW.agg.injEq] at hm
    have hall : ∀ (i : Nat) (hi : i < 6), cs2.toList[i * 4]? = some (.string ⟨(nameK (i : Int)).toArray⟩) := by
      intro i hi
      have hi2 : i < xs.length := by omega
      have h1 := hel i hi
      rw [List.getElem?_eq_getElem hi2] at h1
      have h2 := congrArg (·[i]?) hm
      simp only [List.getElem?_map, List.getElem?_eq_getElem hi2, Option.map_some] at h2
      have hc : i = 0 ∨ i = 1 ∨ i = 2 ∨ i = 3 ∨ i = 4 ∨ i = 5 := by omega
      rcases hc with rfl | rfl | rfl | rfl | rfl | rfl <;> exact (struct_cells18 h1 (Option.some.inj (h2.trans rfl))).1
    have hall2 : ∀ i : Nat, i < 6 → W.cell? ⟨0, i * 4, none⟩ = some (.string ⟨(nameK (i : Int)).toArray⟩) := fun i hi => by
      rw [World.var?_cell hg2 hvar2 (i * 4), ← Array.getElem?_toList]
      exact hall i hi
    exact ⟨World.block_lt_of_cell? W _ (hall2 0 (by decide)), hall2⟩
end Go.Proofs.YtbaclgnohnmdgaaDoor
