/- What every statement's proof over this translation shares: the table of the messages, as the row lists it, lies in memory. -/
import Derived.Test.YtkebkfhiihblcaaDoorWalkC02
import Derived.Test.YtkebkfhiihblcaaDoorTie
import Derived.Test.YtkebkfhiihblcaaDoorCards
import Derived.ProofKit
import Derived.OpenShut
import Derived.ShutString
import Derived.ChangeOld
import Derived.SliceStrings
import Derived.Lay
import Derived.LaidMore
import Derived.Lib.LaidTab
import Derived.SevenTiedAt
namespace Go.Proofs.YtkebkfhiihblcaaDoor
open Go.ChangeShapes Go.WideShapes Go.ChangeAt Go.RowKit

theorem laidOut : laidOutB Tryd.prog = true := by kernel_rfl

/-- An array of texts that reads as these has them, cell for cell. -/
theorem strTab_cells {H : Type} {enc : TypeId × Value → H} {P : Program} {w : World} {base : Nat} {sp : Nat → Bool} {held : Bool} {fuel : Nat} {t e : TypeId} {n : Nat} {cs : List Value} {ls : List (List UInt8)} {p : List MemPlace}
    (ht : P.underlying t = some (.array n e)) (he : P.underlying e = some .string) (hce : P.cellsOf e = 1)
    (h : DataW.trod enc P w base sp held fuel t cs = some (.agg (ls.map fun l => .lit (.string l)), p)) : ∀ i, i < n → cs[i]? = some (.string ⟨(ls.getD i []).toArray⟩) := by
  obtain ⟨xs, m, rfl, hx, hlen, hxl, hel⟩ := DataW.trod_array ht h
  have hm : xs.map (·.1) = ls.map fun l => (DataW.lit (.string l) : DataW H) := by
    have := congrArg Prod.fst hx
    simpa using this.symm
  intro i hi
  have hi2 : i < xs.length := by omega
  have hi3 : i < ls.length := by
    have := congrArg List.length hm
    simp at this; omega
  have h1 := hel i hi
  rw [List.getElem?_eq_getElem hi2] at h1
  obtain ⟨s, hc, hs, _⟩ := DataW.trod_string he h1
  have h2 : (xs.map (·.1))[i]? = (ls.map fun l => (DataW.lit (.string l) : DataW H))[i]? := by rw [hm]
  rw [List.getElem?_map, List.getElem?_map, List.getElem?_eq_getElem hi2, List.getElem?_eq_getElem hi3, hs] at h2
  simp at h2
  rw [hce] at hc
  have h3 : cs[i]? = some (.string s) := by
    have := congrArg (·[0]?) hc
    simpa [List.getElem?_take, List.getElem?_drop] using this
  rw [h3, List.getD, List.getElem?_eq_getElem hi3, Option.getD_some, ← h2]

theorem of_laid {W : World} (h : laidMetH Tryd.prog [("drayman/errs.messages", Rows.laid_drayman_errs_messages)] W) : Laid W := by
  rw [MakeChecks.laidMetH_plain _ _ _ (by kernel_rfl)] at h
  obtain ⟨ps, ⟨g, t, cs, fuel, p, q, hg, ht, hvar, hd, _, _⟩, _⟩ := h
  obtain rfl := Option.some.inj ((show Tryd.prog.globalNamed "drayman/errs.messages" = some 0 by kernel_rfl).symm.trans hg)
  obtain rfl := Option.some.inj ((show (Tryd.prog.globals[0]?).map (·.type) = some 36 by kernel_rfl).symm.trans ht)
  have hc := strTab_cells (ls := msgs) Tryd.underlying36 Tryd.underlying9 (by kernel_rfl) hd
  have hall : ∀ i, i < 14 → W.cell? ⟨0, i, none⟩ = some (.string ⟨(msgAt i).toArray⟩) := by
    intro i hi
    have := World.var?_cell hg hvar i
    rw [this, ← Array.getElem?_toList, hc i hi]
    rfl
  have h0 := hall 0 (by decide)
  exact ⟨Nat.lt_of_le_of_lt (Nat.zero_le _) (World.block_lt_of_cell? W _ h0), hall⟩

/-- A slice of texts that came in. -/
theorem strs_of_trod {H : Type} {enc : TypeId × Value → H} {W : World} {base : Nat} {v : Value} {d : DataW H} {p : List MemPlace}
    (ok : Value.okWide Tryd.prog W .any base 31 v) (k : DataW.Trod enc Tryd.prog W 0 (fun _ => true) true 31 v d p) : ∃ l, Strs W v l := by
  obtain ⟨a0, len, cap, rfl⟩ := okWide_slice Tryd.underlying31 ok
  obtain ⟨fuel, hf⟩ := k
  rcases open_strings Tryd.underlying31 Tryd.underlying9 (by kernel_rfl) hf with ⟨hcs, _⟩ | ⟨a, len', cap', ss, hcs, _, hl, hm, hz, hx, hcell, hsz⟩
  · simp [Value.cells] at hcs
    obtain ⟨rfl, rfl, rfl⟩ := hcs
    exact ⟨[], none, 0, rfl, Nat.zero_le _, fun h => absurd h (by simp)⟩
  · simp [Value.cells] at hcs
    obtain ⟨rfl, rfl, rfl⟩ := hcs
    simp at hz
    refine ⟨(ss.take len).map (·.data.toList), some a, cap, by simp; omega, by simp; omega, fun h => ?_⟩
    have hn : (List.map (·.data.toList) (ss.take len)).length = len := by simp; omega
    rw [hn] at h
    have c0 := hcell 0 (by omega)
    obtain ⟨b, off, spot⟩ := a
    have hspot : spot = none := by simpa [Addr.add] using World.cell?_spot c0
    subst hspot
    refine ⟨b, off, rfl, ?_, fun i hi => ?_⟩
    · rw [Addr.add_lit] at c0; exact World.block_lt_of_cell? W _ c0
    · have ci := hcell i (by rw [hn] at hi; omega)
      rw [Addr.add_lit] at ci
      rw [ci]
      have hi2 : i < ss.length := by rw [hn] at hi; omega
      simp [List.getD, List.getElem?_eq_getElem hi2]
end Go.Proofs.YtkebkfhiihblcaaDoor
