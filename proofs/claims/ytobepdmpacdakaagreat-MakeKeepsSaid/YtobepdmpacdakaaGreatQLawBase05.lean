/- What every statement's proof over this translation shares. -/
import Derived.Test.YtobepdmpacdakaaGreatQWalkD05
import Derived.Test.YtobepdmpacdakaaGreatRows
import Derived.ProofKit
import Derived.OpenShut
import Derived.ShutString
import Derived.ChangeOld
import Derived.SizedLaws
import Derived.Deep.SlicePairs
import Derived.Lib.SmallJoins
set_option linter.unusedVariables false
set_option linter.unusedSimpArgs false
namespace Go.Proofs.YtobepdmpacdakaaGreat
open Go.ChangeShapes Go.WideShapes Go.ChangeAt Go.RowKit

set_option maxRecDepth 100000
theorem laidOut : laidOutB Tryz.prog = true := by kernel_rfl

def textOf5 : Value → List UInt8
  | .string s => s.data.toList
  | _ => []
def numOf5 : Value → Int
  | .int _ n => n
  | _ => 0

/-- A slice of entries, as its cell reads. -/
theorem ents_of_cell {H : Type} {enc : TypeId × Value → H} {W : World} {fuel : Nat} {cs : List Value} {y : DataW H × List MemPlace}
    (hf : DataW.trod enc Tryz.prog W 0 (fun _ => true) true fuel 43 cs = some y) : ∃ v l, cs = [v] ∧ Ents W v l := by
  rcases Deep.open_slice_pairs Tryz.underlying43 Tryz.underlying90 (by kernel_rfl) rfl rfl (by kernel_rfl) (by kernel_rfl) hf with ⟨hcs, _⟩ | ⟨a, len, cap, m, n, V0, V1, D0, D1, P0, P1, hcs, _, hl, hm, hz, hx, hcell⟩
  · exact ⟨_, [], hcs, Ents.nil_ W⟩
  · simp at hz
    subst hz
    refine ⟨_, (List.range len).map fun i => (textOf5 (V0 i), numOf5 (V1 i)), hcs, some a, m, by simp, by simpa using hl, hm, fun h => ?_⟩
    have hn : ((List.range len).map fun i => (textOf5 (V0 i), numOf5 (V1 i))).length = len := by simp
    rw [hn] at h
    have c0 := (hcell 0 (by omega)).1
    obtain ⟨b, off, spot⟩ := a
    have hspot : spot = none := by simpa [Addr.add] using World.cell?_spot c0
    subst hspot
    refine ⟨b, off, rfl, ?_, fun i hi => ?_⟩
    · rw [Addr.add_lit] at c0; exact World.block_lt_of_cell? W _ c0
    · rw [hn] at hi
      obtain ⟨e0, e1, t0, t1⟩ := hcell i (by omega)
      obtain ⟨s, hs, _, _⟩ := DataW.trod_string Tryz.underlying9 t0
      obtain ⟨z, hz, _, _⟩ := DataW.trod_int Tryz.underlying3 t1
      simp only [List.cons.injEq, and_true] at hs hz
      rw [Addr.add_lit] at e0 e1
      rw [hs] at e0
      rw [hz] at e1
      simp only [List.getElem_map, List.getElem_range, hs, hz, textOf5, numOf5]
      exact ⟨by rw [e0], by rw [← e1, Nat.add_assoc]⟩

theorem list6 {α : Type} {cs : List α} (h : cs.length = 6) : ∃ c0 c1 c2 c3 c4 c5, cs = [c0, c1, c2, c3, c4, c5] := by
  match cs, h with
  | [c0, c1, c2, c3, c4, c5], _ => exact ⟨c0, c1, c2, c3, c4, c5, rfl⟩
theorem size_int : Tryz.prog.cellsOf 3 = 1 := by kernel_rfl
theorem size_str : Tryz.prog.cellsOf 9 = 1 := by kernel_rfl
theorem size_ents : Tryz.prog.cellsOf 43 = 1 := by kernel_rfl
theorem size_nds : Tryz.prog.cellsOf 22 = 1 := by kernel_rfl
theorem size_nd : Tryz.prog.cellsOf 45 = 6 := by kernel_rfl
theorem size_fs : Tryz.prog.cellsOf 24 = 4 := by kernel_rfl

/-- An inode, as its six cells read; its content's length is one of the reading's weights. -/
theorem nd_of_cells {H : Type} {enc : TypeId × Value → H} {W : World} {fuel : Nat} {cs : List Value} {y : DataW H × List MemPlace}
    (hf : DataW.trod enc Tryz.prog W 0 (fun _ => true) true fuel 45 cs = some y) : ∃ x : Nd, cs = (ndC x).toList ∧ Ents W x.ev x.ents ∧ x.data.length ≤ maxLen ∧ x.data.length ∈ y.1.weights Tryz.prog 45 := by
  obtain ⟨xs, n, _, rfl, hl, hlen, hx⟩ := DataW.trod_struct Tryz.underlying45 hf
  obtain ⟨c0, c1, c2, c3, c4, c5, rfl⟩ := list6 (hl.trans size_nd)
  obtain ⟨y0, y1, y2, y3, y4, y5, rfl⟩ := list6 hlen
  have g0 := hx 0 _ rfl
  have g1 := hx 1 _ rfl
  have g2 := hx 2 _ rfl
  have g3 := hx 3 _ rfl
  have g4 := hx 4 _ rfl
  have g5 := hx 5 _ rfl
  simp [size_int, size_str, size_ents] at g0 g1 g2 g3 g4 g5
  obtain ⟨z0, e0, _, _⟩ := DataW.trod_int Tryz.underlying3 g0
  obtain ⟨z1, e1, _, _⟩ := DataW.trod_int Tryz.underlying3 g1
  obtain ⟨z2, e2, _, _⟩ := DataW.trod_int Tryz.underlying3 g2
  obtain ⟨s, e3, w3, m3⟩ := DataW.trod_string Tryz.underlying9 g3
  obtain ⟨z4, e4, _, _⟩ := DataW.trod_int Tryz.underlying3 g4
  obtain ⟨v, l, e5, h5⟩ := ents_of_cell g5
  simp only [List.cons.injEq, and_true] at e0 e1 e2 e3 e4 e5
  subst e0 e1 e2 e3 e4 e5
  refine ⟨⟨z0, z1, z2, s.data.toList, z4, c5, l⟩, by simp [ndC], h5, by simpa using m3, ?_⟩
  have hw := DataW.weights_mem_each (P := Tryz.prog) (ts := [3, 3, 3, 9, 3, 43]) (ds := [y0.1, y1.1, y2.1, y3.1, y4.1, y5.1]) (j := 3) rfl rfl s.data.toList.length (by rw [w3]; simp [DataW.weights])
  simp only [DataW.weights, Tryz.underlying45]
  exact hw
theorem weightsAll_mem {H : Type} {P : Program} {e : TypeId} {l : List (DataW H)} {d : DataW H} (h : d ∈ l) {n : Nat} (hn : n ∈ d.weights P e) : n ∈ DataW.weightsAll P e l := by
  induction l with
  | nil => cases h
  | cons x r ih =>
    simp only [DataW.weightsAll, List.mem_append]
    rcases List.mem_cons.1 h with rfl | h
    · exact .inl hn
    · exact .inr (ih h)

instance : Inhabited Nd := ⟨zeroN⟩
/-- A slice of inodes, as its cell reads. -/
theorem nds_of_cell {H : Type} {enc : TypeId × Value → H} {W : World} {fuel : Nat} {cs : List Value} {y : DataW H × List MemPlace}
    (hf : DataW.trod enc Tryz.prog W 0 (fun _ => true) true fuel 22 cs = some y) : ∃ v l, cs = [v] ∧ Nds W v l ∧ (∀ x ∈ l, x.data.length ≤ maxLen ∧ x.data.length ∈ y.1.weights Tryz.prog 22) := by
  rcases Deep.open_slice Tryz.underlying22 hf with ⟨hcs, _⟩ | ⟨a, len, cap, m, n, D, Pl, hcs, _, hl, hm, hmm, rfl, hcell⟩
  · exact ⟨_, [], hcs, Nds.nil_ W, fun x hx => absurd hx (by simp)⟩
  · simp at hmm
    subst hmm
    rw [size_nd] at hcell
    obtain ⟨X, hX⟩ := Deep.choose_lt (p := fun i (x : Nd) => (∀ j, j < 6 → W.cell? ((a.add (i * 6)).add j) = (ndC x).toList[j]?) ∧ Ents W x.ev x.ents ∧ x.data.length ≤ maxLen ∧ x.data.length ∈ (D i).weights Tryz.prog 45) (fun i (hi : i < m) => by
      obtain ⟨cs', h1, h2⟩ := hcell i hi
      obtain ⟨_, _, h3⟩ := World.cells?_some h1
      obtain ⟨x, rfl, hx⟩ := nd_of_cells h2
      exact ⟨x, h3, hx⟩)
    have hn : ((List.range len).map X).length = len := by simp
    refine ⟨_, (List.range len).map X, hcs, ⟨some a, m, by simp, by simpa using hl, hm, ?_, (fun h => by cases h), fun h => ?_⟩, ?_⟩
    · intro x hx
      obtain ⟨i, hi, rfl⟩ := List.mem_map.1 hx
      exact (hX i (by have := List.mem_range.1 hi; omega)).2.1
    · rw [hn] at h
      have c0 := (hX 0 (by omega)).1 0 (by omega)
      obtain ⟨b, off, spot⟩ := a
      have hspot : spot = none := by
        have := World.cell?_spot (c0.trans (rfl : _ = some (Value.int .i64 (X 0).ino)))
        simpa [Addr.add] using this
      subst hspot
      refine ⟨b, off, rfl, ?_, fun i hi => ?_⟩
      · have := World.block_lt_of_cell? W _ (c0.trans (rfl : _ = some (Value.int .i64 (X 0).ino)))
        simpa [Addr.add] using this
      · rw [hn] at hi
        have hc := (hX i (by omega)).1
        simp only [Addr.add_lit] at hc
        simp only [List.getElem_map, List.getElem_range]
        exact ⟨(hc 0 (by omega)).trans rfl, (hc 1 (by omega)).trans rfl, (hc 2 (by omega)).trans rfl, (hc 3 (by omega)).trans rfl, (hc 4 (by omega)).trans rfl, (hc 5 (by omega)).trans rfl⟩
    · intro x hx
      obtain ⟨i, hi, rfl⟩ := List.mem_map.1 hx
      have hi2 := List.mem_range.1 hi
      have h3 := (hX i (by omega)).2.2
      refine ⟨h3.1, ?_⟩
      simp only [DataW.weights, Tryz.underlying22, List.mem_cons, List.mem_append]
      exact .inr (.inl (weightsAll_mem (List.mem_map.2 ⟨i, hi, rfl⟩) h3.2))

theorem nds_of_trod {H : Type} {enc : TypeId × Value → H} {W : World} {v : Value} {d : DataW H} {p : List MemPlace}
    (k : DataW.Trod enc Tryz.prog W 0 (fun _ => true) true 22 v d p) (ok : ∃ base, Value.okWide Tryz.prog W .any base 22 v) : ∃ l, Nds W v l ∧ ∀ x ∈ l, x.data.length ≤ maxLen ∧ x.data.length ∈ d.weights Tryz.prog 22 := by
  obtain ⟨base, ok⟩ := ok
  obtain ⟨a0, len, cap, rfl⟩ := okWide_slice Tryz.underlying22 ok
  obtain ⟨fuel, hf⟩ := k
  obtain ⟨v, l, e, h1, h2⟩ := nds_of_cell hf
  simp [Value.cells] at e
  subst e
  exact ⟨l, h1, h2⟩
/-- An inode that came in. -/
theorem nd_of_trod {H : Type} {enc : TypeId × Value → H} {W : World} {v : Value} {d : DataW H} {p : List MemPlace}
    (k : DataW.Trod enc Tryz.prog W 0 (fun _ => true) true 45 v d p) (ok : ∃ base, Value.okWide Tryz.prog W .any base 45 v) : ∃ x : Nd, v = .agg (ndC x) ∧ Ents W x.ev x.ents ∧ x.data.length ≤ maxLen ∧ x.data.length ∈ d.weights Tryz.prog 45 := by
  obtain ⟨base, ok⟩ := ok
  obtain ⟨cs, rfl, hsz⟩ := okWide_struct Tryz.underlying45 ok
  obtain ⟨fuel, hf⟩ := k
  obtain ⟨x, e, h1, h2⟩ := nd_of_cells hf
  refine ⟨x, ?_, h1, h2⟩
  have : cs.toList = (ndC x).toList := by simpa [Value.cells] using e
  rw [show cs = ndC x from Array.ext' this]
/-- A table that came in. -/
theorem fs_of_trod {H : Type} {enc : TypeId × Value → H} {W : World} {base : Nat} {v : Value} {d : DataW H} {p : List MemPlace}
    (k : DataW.Trod enc Tryz.prog W 0 (fun _ => true) true 24 v d p) (ok : Value.okWide Tryz.prog W .any base 24 v) : ∃ mi mb nx x l, v = .agg (fsC mi mb nx x) ∧ Nds W x l := by
  obtain ⟨v0, v1, v2, v3, y0, y1, y2, y3, n, rfl, rfl, rfl, h0, h1, h2, h3⟩ := Joins.open_agg4 Tryz.underlying24 (by kernel_rfl) (by kernel_rfl) ok k
  obtain ⟨z0, e0, _, _⟩ := DataW.trod_int Tryz.underlying3 h0
  obtain ⟨z1, e1, _, _⟩ := DataW.trod_int Tryz.underlying3 h1
  obtain ⟨z2, e2, _, _⟩ := DataW.trod_int Tryz.underlying3 h2
  obtain ⟨v, l, e3, h, _⟩ := nds_of_cell h3
  simp only [List.cons.injEq, and_true] at e0 e1 e2 e3
  subst e0 e1 e2 e3
  exact ⟨_, _, _, _, l, rfl, h⟩
end Go.Proofs.YtobepdmpacdakaaGreat
