/- Texts put together: Laid20, Map20, Tab19, Tab20. -/
import Derived.Test.YtolbhjjcabiabaaGreatDoorQWalkN19
import Derived.Test.YtolbhjjcabiabaaGreatDoorQMWalkB20
import Derived.Lib.LaidTab
import Derived.Lib.ItoaMem
import Derived.Lib.SmallJoins
import Derived.Maps.OwnSet
import Derived.Test.YtolbhjjcabiabaaGreatDoorQMWalkB03
import Derived.Test.YtolbhjjcabiabaaGreatDoorChecked
import Derived.WalkKit
import Derived.Deep.LoopGhost
import Derived.Test.YtolbhjjcabiabaaGreatDoorRows
import Derived.ProofKit
import Derived.OpenShut
import Derived.ChangeOld
import Derived.Lay
import Derived.LaidMore
import Derived.LaidLaws
set_option linter.unusedVariables false
set_option linter.unusedSimpArgs false
/- Where the tables lie that the program's lang reads: op's, its own, and the library's of numbers. -/
set_option linter.unusedVariables false
set_option linter.unusedSimpArgs false
namespace Go.Proofs.YtolbhjjcabiabaaGreatDoor
open Go.RowKit

/-- The patterns of the lines lie in memory. -/
def LaidP20 (w : World) : Prop := 0 < w.heap.size ∧ ∀ i : Nat, i < 11 → w.cell? ⟨0, i * 2, none⟩ = some (.string ⟨(wordK (i : Int)).toArray⟩) ∧ w.cell? ⟨0, i * 2 + 1, none⟩ = some (.string ⟨(tellsK (i : Int)).toArray⟩)
theorem LaidP20.next {w w' : World} (h : LaidP20 w) (hb : Below w.heap.size w w') : LaidP20 w' :=
  ⟨Nat.lt_of_lt_of_le h.1 hb.size, fun i hi => ⟨(hb.cell (p := ⟨0, i * 2, none⟩) h.1).trans (h.2 i hi).1, (hb.cell (p := ⟨0, i * 2 + 1, none⟩) h.1).trans (h.2 i hi).2⟩⟩
/-- What the library reads for numbers. -/
structure LaidZ20 (w : World) : Prop where
  pow : Lib.TabIs Tryz.prog w "internal/strconv.uint64pow10" .u64 Lib.pow10Tab
  stx : ∃ tp p, w.cell? ⟨4, 0, none⟩ = some (.iface tp p)
  rng : ∃ tp p, w.cell? ⟨5, 0, none⟩ = some (.iface tp p)
theorem LaidZ20.next {w w' : World} (h : LaidZ20 w) (hb : Below w.heap.size w w') : LaidZ20 w' := by
  refine ⟨Joins.tab_stays (g := 3) (by kernel_rfl) h.pow hb (Nat.le_refl _), ?_, ?_⟩
  · obtain ⟨tp, p, h1⟩ := h.stx
    exact ⟨tp, p, (hb.cell (p := ⟨4, 0, none⟩) (World.block_lt_of_cell? w _ h1)).trans h1⟩
  · obtain ⟨tp, p, h1⟩ := h.rng
    exact ⟨tp, p, (hb.cell (p := ⟨5, 0, none⟩) (World.block_lt_of_cell? w _ h1)).trans h1⟩
def Laid20 (w : World) : Prop := Laid19 w ∧ LaidP20 w ∧ LaidZ20 w
theorem Laid20.next {w w' : World} (h : Laid20 w) (hb : Below w.heap.size w w') : Laid20 w' := ⟨h.1.next hb, h.2.1.next hb, h.2.2.next hb⟩
end Go.Proofs.YtolbhjjcabiabaaGreatDoor

/- The map of the kinds by their words: as a walk asks it, and kindsByWord. -/
set_option linter.unusedVariables false
set_option linter.unusedSimpArgs false
namespace Go.Proofs.YtolbhjjcabiabaaGreatDoor
open Go.RowKit

theorem key20 : Go.Maps.Keyed Tryz.prog 9 := Go.Maps.string_keyed Tryz.underlying9
theorem zero20 (w : World) : (zeroValue 3).run Tryz.prog w = .ok (.int .i64 0) w := by kernel_rfl
theorem skey20 {x : List UInt8} (h : x.length ≤ 1000000) : keyOf Tryz.prog 9 (.string ⟨x.toArray⟩) = some (.string x) :=
  WideMaps.keyOf_string_mk (P := Tryz.prog) Tryz.underlying9 (s := ⟨x.toArray⟩) (by simp [ByteArray.size, maxLen]; omega)
/-- Block b is a map of the words of the kinds 1 to K to their kinds. -/
def KindsM (w : World) (b : Nat) (K : Nat) : Prop :=
  ∃ n, ∃ D : DataW Value, w.ownsMap Tryz.prog 9 (plainElem Tryz.prog 3) b n D ∧ n ≤ K ∧ ∀ x : List UInt8, x.length ≤ 1000000 → Go.Maps.has D (.string x) = decide (kindW x ≠ 0 ∧ kindW x ≤ K) ∧ ((kindW x ≠ 0 ∧ kindW x ≤ K) → ∀ z, D.atKey (.string x) z = .lit (.int .i64 (kindW x)))
theorem KindsM.made (w : World) : KindsM (w.alloc (.map #[] 0)) w.heap.size 0 :=
  ⟨0, .map [], World.ownsMap_made _ _ _ _, Nat.le_refl _, fun x _ => by
    have h := kindW_bounds x
    have hn : ¬ (kindW x ≠ 0 ∧ kindW x ≤ ((0 : Nat) : Int)) := fun c => c.1 (by omega)
    exact ⟨by rw [decide_eq_false hn]; simp [Go.Maps.has], fun c => absurd c hn⟩⟩
theorem KindsM.lt {w : World} {b K : Nat} (h : KindsM w b K) : b < w.heap.size := by
  obtain ⟨n, D, ho, _⟩ := h
  exact ho.lt
theorem KindsM.block {w W : World} {b K : Nat} (h : KindsM w b K) (hB : W.heap[b]? = w.heap[b]?) : KindsM W b K := by
  obtain ⟨n, D, ⟨es, clock, hb, F, hs, hD⟩, h1, h2⟩ := h
  exact ⟨n, D, ⟨es, clock, hB.trans hb, F, hs, hD⟩, h1, h2⟩
theorem KindsM.below {w W : World} {b K n : Nat} (h : KindsM w b K) (hB : Below n w W) (hn : b < n) : KindsM W b K := h.block (hB.block b hn)
theorem KindsM.next {w W : World} {b K : Nat} (h : KindsM w b K) (hB : Below w.heap.size w W) : KindsM W b K := h.block (hB.block b h.lt)
theorem KindsM.kept {w w' : World} {b K : Nat} {row : Option Nat} (h : KindsM w b K) (hg : w.grownBy w' row) (hne : some b ≠ row) : KindsM w' b K := by
  obtain ⟨n, D, ho, h1, h2⟩ := h
  exact ⟨n, D, ho.kept hg hne, h1, h2⟩
theorem KindsM.look {w : World} {b : Nat} (h : KindsM w b 10) {x : List UInt8} (hx : x.length ≤ 1000000) :
    (Instr.lookup 47 (.map (some b)) (.string ⟨x.toArray⟩) true).run Tryz.prog w = .ok (.tuple #[.int .i64 (kindW x), .bool (decide (kindW x ≠ 0))]) w := by
  obtain ⟨n, D, ho, _, hD⟩ := h
  obtain ⟨v, ps, hrun, hv⟩ := ho.look_ok key20 Tryz.underlying47 (zero20 w) (zd := .lit (.int .i64 0)) (zp := []) (plainElem_int Tryz.underlying3 (by decide)) (skey20 hx)
  obtain ⟨c, rfl, hc, _⟩ := plainElem_int_inv Tryz.underlying3 hv
  obtain ⟨h1, h2⟩ := hD x hx
  have hb := kindW_bounds x
  rw [hrun, h1]
  by_cases hS : kindW x ≠ 0
  · rw [h2 ⟨hS, by omega⟩] at hc
    simp only [Prod.mk.injEq, DataW.lit.injEq, Lit.int.injEq, true_and, and_true] at hc
    rw [← hc.1, decide_eq_true ⟨hS, by omega⟩, decide_eq_true hS]
  · have hn : ¬ (kindW x ≠ 0 ∧ kindW x ≤ ((10 : Nat) : Int)) := fun c => hS c.1
    rw [Go.Maps.atKey_of_not_has (by rw [h1]; exact decide_eq_false hn)] at hc
    simp only [Prod.mk.injEq, DataW.lit.injEq, Lit.int.injEq, true_and, and_true] at hc
    have h0 : kindW x = 0 := by simpa using hS
    rw [h0, ← hc.1, decide_eq_false (by omega), decide_eq_false (fun c => c rfl)]
theorem KindsM.put {w : World} {b K : Nat} (h : KindsM w b K) (hK : K < 10) :
    ∃ w', (Instr.mapUpdate 47 (.map (some b)) (.string ⟨(wordK ((K : Int) + 1)).toArray⟩) (.int .i64 ((K : Int) + 1))).run Tryz.prog w = .ok () w' ∧ KindsM w' b (K + 1) ∧ w.grownBy w' (some b) := by
  obtain ⟨n, D, ho, hle, hD⟩ := h
  have hm := ho.isMap
  have hk : kindW (wordK ((K : Int) + 1)) = ((K : Int) + 1) := kindW_of (by omega) (by omega)
  have hkl : (wordK ((K : Int) + 1)).length ≤ 1000000 := by
    rcases word_cases (show (1 : Int) ≤ ((K : Int) + 1) by omega) (by omega) with e | e | e | e | e | e | e | e | e | e <;> rw [e] <;> decide
  have hw : (Lit.int .i64 ((K : Int) + 1)).wf = true := by
    have h2 : IntKind.i64.min = -9223372036854775808 := by decide
    simp only [Lit.wf, Bool.and_eq_true, decide_eq_true_eq]
    simp [h2]
    omega
  obtain ⟨w', hrun, r1, r2⟩ := ho.update key20 Tryz.underlying47 (by unfold maxLen; omega) (skey20 hkl) (val := .int .i64 ((K : Int) + 1)) (d := .lit (.int .i64 ((K : Int) + 1))) (ps := []) (plainElem_int Tryz.underlying3 hw)
  refine ⟨w', hrun, ⟨n + 1, _, r1, by omega, fun x hx => ?_⟩, r2⟩
  rw [show (((K + 1 : Nat)) : Int) = (K : Int) + 1 by omega]
  obtain ⟨h1, h2⟩ := hD x hx
  by_cases e : x = wordK ((K : Int) + 1)
  · subst e
    rw [hk]
    refine ⟨?_, fun _ y => ?_⟩
    · rw [Go.Maps.has_put_same hm (by trivial), decide_eq_true (by omega)]
    · rw [Go.Maps.atKey_put_same hm (by trivial)]
  · have hne : Lit.string x ≠ Lit.string (wordK ((K : Int) + 1)) := fun c => e (by simpa using c)
    have hne2 : kindW x ≠ ((K : Int) + 1) := fun c => by
      obtain ⟨_, _, h5⟩ := kindW_some (x := x) (by omega)
      rw [c] at h5
      exact e h5.symm
    have hi : (kindW x ≠ 0 ∧ kindW x ≤ ((K : Int) + 1)) ↔ (kindW x ≠ 0 ∧ kindW x ≤ (K : Int)) := by omega
    refine ⟨?_, fun hS y => ?_⟩
    · rw [Go.Maps.has_put_other hne, h1]
      exact decide_eq_decide.2 hi.symm
    · rw [Go.Maps.atKey_put_other hne, h2 (hi.1 hS)]
set_option maxHeartbeats 2000000 in
set_option maxRecDepth 100000 in
theorem kindsByWord_any (w : World) (hL : LaidP20 w) :
    Calls Tryz.prog 23 #[] w fun e w' => e = .returned (.map (some w.heap.size)) ∧ KindsM w' w.heap.size 10 ∧ Below w.heap.size w w' := by
  have hmm := @run_makeMap Tryz.prog
  have o0 := KindsM.made w
  have hB : Below w.heap.size w (w.alloc (.map #[] 0)) := (Below.refl _ w).alloc (Nat.le_refl _) _
  go_enter Tryz.func23, Tryz.ntmps23
  go_wp2
  go_loopw [2] (fun s2 wr => ∃ k : Nat, k ≤ 10 ∧ s2 = .int .i64 ((k : Int) + 1) ∧ KindsM wr w.heap.size k ∧ Below w.heap.size w wr) (fun s2 _ => 11 - (intOf s2).toNat)
  case atStart => exact ⟨0, Nat.zero_le _, rfl, o0, hB⟩
  case round =>
    obtain ⟨k, hk, rfl, hM, hb⟩ := hrel
    by_cases hlt : k < 10
    · have hc := ((hL.next hb).2 (k + 1) (by omega)).1
      obtain ⟨w', hrun, hM2, hg⟩ := hM.put hlt
      have hb2 := hb.grown hg hb.size (fun j e => by cases e; exact Nat.le_refl _)
      rw [show (((k + 1 : Nat)) : Int) = (k : Int) + 1 by omega] at hc
      generalize wordK ((k : Int) + 1) = wk at *
      have k1 : (k : Int) + 1 ≤ 10 := by omega
      have HMM := Lib.hid hM2
      clear hL hM hM2 o0
      go_wp2
      go_roundw
      case rel => exact ⟨k + 1, by omega, by go_num, HMM.out, hb2⟩
      case measure => simp [intOf]; omega
    · obtain rfl : k = 10 := by omega
      clear o0
      go_wp2
      go_ret
      exact ⟨rfl, hM, hb⟩
end Go.Proofs.YtolbhjjcabiabaaGreatDoor

/- Where the program's table of kinds lies, of a row that lists it. -/
set_option linter.unusedVariables false
set_option linter.unusedSimpArgs false
namespace Go.Proofs.YtolbhjjcabiabaaGreatDoor
open Go.ChangeShapes Go.WideShapes Go.ChangeAt Go.RowKit
set_option maxRecDepth 100000

theorem size_bool19 : Tryz.prog.cellsOf 4 = 1 := by kernel_rfl
theorem size_kind19 : Tryz.prog.cellsOf 82 = 7 := by kernel_rfl
theorem list7 {α : Type} {cs : List α} (h : cs.length = 7) : ∃ c0 c1 c2 c3 c4 c5 c6, cs = [c0, c1, c2, c3, c4, c5, c6] := by
  match cs, h with
  | [c0, c1, c2, c3, c4, c5, c6], _ => exact ⟨c0, c1, c2, c3, c4, c5, c6, rfl⟩
/-- Seven truths, as a struct's cells read. -/
theorem kind_cells19 {H : Type} {enc : TypeId × Value → H} {w : World} {base : Nat} {sp : Nat → Bool} {held : Bool} {fuel : Nat} {cs : List Value} {b0 b1 b2 b3 b4 b5 b6 : Bool} {x : DataW H × List MemPlace}
    (h : DataW.trod enc Tryz.prog w base sp held fuel 82 cs = some x) (hx : x.1 = .agg [.lit (.bool b0), .lit (.bool b1), .lit (.bool b2), .lit (.bool b3), .lit (.bool b4), .lit (.bool b5), .lit (.bool b6)]) :
    cs = [.bool b0, .bool b1, .bool b2, .bool b3, .bool b4, .bool b5, .bool b6] := by
  obtain ⟨xs, n, _, rfl, hl, hlen, hel⟩ := DataW.trod_struct Tryz.underlying82 h
  obtain ⟨c0, c1, c2, c3, c4, c5, c6, rfl⟩ := list7 (hl.trans size_kind19)
  obtain ⟨y0, y1, y2, y3, y4, y5, y6, rfl⟩ := list7 hlen
  have g0 := hel 0 _ rfl
  have g1 := hel 1 _ rfl
  have g2 := hel 2 _ rfl
  have g3 := hel 3 _ rfl
  have g4 := hel 4 _ rfl
  have g5 := hel 5 _ rfl
  have g6 := hel 6 _ rfl
  simp [size_bool19] at g0 g1 g2 g3 g4 g5 g6
  obtain ⟨z0, e0, rfl⟩ := DataW.trod_bool Tryz.underlying4 g0
  obtain ⟨z1, e1, rfl⟩ := DataW.trod_bool Tryz.underlying4 g1
  obtain ⟨z2, e2, rfl⟩ := DataW.trod_bool Tryz.underlying4 g2
  obtain ⟨z3, e3, rfl⟩ := DataW.trod_bool Tryz.underlying4 g3
  obtain ⟨z4, e4, rfl⟩ := DataW.trod_bool Tryz.underlying4 g4
  obtain ⟨z5, e5, rfl⟩ := DataW.trod_bool Tryz.underlying4 g5
  obtain ⟨z6, e6, rfl⟩ := DataW.trod_bool Tryz.underlying4 g6
  simp at hx e0 e1 e2 e3 e4 e5 e6
  obtain ⟨rfl, rfl, rfl, rfl, rfl, rfl, rfl⟩ := hx
  subst e0 e1 e2 e3 e4 e5 e6
  rfl
theorem cell_of_cut19 {cs : List Value} {a j : Nat} {L : List Value} {v : Value} (hL : L.length = 7) (h : (cs.drop a).take 7 = L) (hv : L[j]? = some v) : cs[a + j]? = some v := by
  have hj : j < 7 := by rw [← hL]; exact (List.getElem?_eq_some_iff.1 hv).1
  rw [← h, List.getElem?_take, if_pos hj, List.getElem?_drop] at hv
  exact hv
/-- The listed variable of the kinds, wherever it stands in a row's list: where it lies. -/
theorem laid19_of {W : World} {q : List MemPlace} {rest : List (String × DataW Unit)} (h : DataW.LaidVars Tryz.prog W (("drayman/op.kinds", Rows.laid_drayman_op_kinds) :: rest) q) : Laid19 W ∧ ∃ r, DataW.LaidVars Tryz.prog W rest r := by
  obtain ⟨g, t, cs, fuel, p, q, hg, ht, hvar, hd, hrest, _⟩ := h
  refine ⟨?_, q, hrest⟩
  obtain rfl := Option.some.inj ((show Tryz.prog.globalNamed "drayman/op.kinds" = some 1 by kernel_rfl).symm.trans hg)
  obtain rfl := Option.some.inj ((show (Tryz.prog.globals[1]?).map (·.type) = some 103 by kernel_rfl).symm.trans ht)
  obtain ⟨xs, m, rfl, hx, hlen, hxl, hel⟩ := DataW.trod_array Tryz.underlying103 hd
  rw [size_kind19] at hel
  have hm := (congrArg Prod.fst hx).symm
  unfold Rows.laid_drayman_op_kinds at hm
  simp only [DataW.agg.injEq] at hm
  have hall : ∀ (i : Nat) (hi : i < 11), (cs.toList.drop (i * 7)).take 7 = (kC (i : Int)).toList := by
    intro i hi
    have hi2 : i < xs.length := by omega
    have h1 := hel i hi
    rw [List.getElem?_eq_getElem hi2] at h1
    have h2 := congrArg (·[i]?) hm
    simp only [List.getElem?_map, List.getElem?_eq_getElem hi2, Option.map_some] at h2
    refine kind_cells19 h1 (Option.some.inj (h2.trans ?_))
    have hc : i = 0 ∨ i = 1 ∨ i = 2 ∨ i = 3 ∨ i = 4 ∨ i = 5 ∨ i = 6 ∨ i = 7 ∨ i = 8 ∨ i = 9 ∨ i = 10 := by omega
    rcases hc with rfl | rfl | rfl | rfl | rfl | rfl | rfl | rfl | rfl | rfl | rfl <;> rfl
  have hcell : ∀ j v, cs.toList[j]? = some v → W.cell? ⟨1, j, none⟩ = some v := by
    intro j v hj
    rw [World.var?_cell hg hvar j, ← Array.getElem?_toList]
    exact hj
  have hall2 : ∀ (i : Nat), i < 11 → ∀ j v, (kC (i : Int)).toList[j]? = some v → W.cell? ⟨1, i * 7 + j, none⟩ = some v := fun i hi j v hv =>
    hcell _ _ (cell_of_cut19 (by rfl) (hall i hi) hv)
  exact ⟨World.block_lt_of_cell? W _ (hall2 0 (by decide) 0 _ rfl), fun i hi => ⟨hall2 i hi 0 _ rfl, hall2 i hi 1 _ rfl, hall2 i hi 2 _ rfl, hall2 i hi 3 _ rfl, hall2 i hi 4 _ rfl, hall2 i hi 5 _ rfl, hall2 i hi 6 _ rfl⟩⟩
end Go.Proofs.YtolbhjjcabiabaaGreatDoor

/- Where the tables lie that the program's lang reads, of a row that lists them. -/
set_option linter.unusedVariables false
set_option linter.unusedSimpArgs false
namespace Go.Proofs.YtolbhjjcabiabaaGreatDoor
open Go.ChangeShapes Go.WideShapes Go.ChangeAt Go.RowKit
set_option maxRecDepth 100000

theorem size_pat20 : Tryz.prog.cellsOf 76 = 2 := by kernel_rfl
theorem size_str20 : Tryz.prog.cellsOf 9 = 1 := by kernel_rfl
theorem list2 {α : Type} {cs : List α} (h : cs.length = 2) : ∃ c0 c1, cs = [c0, c1] := by
  match cs, h with
  | [c0, c1], _ => exact ⟨c0, c1, rfl⟩
theorem pat_cells20 {H : Type} {enc : TypeId × Value → H} {w : World} {base : Nat} {sp : Nat → Bool} {held : Bool} {fuel : Nat} {cs : List Value} {s t : List UInt8} {x : DataW H × List MemPlace}
    (h : DataW.trod enc Tryz.prog w base sp held fuel 76 cs = some x) (hx : x.1 = .agg [.lit (.string s), .lit (.string t)]) : cs = [.string ⟨s.toArray⟩, .string ⟨t.toArray⟩] := by
  obtain ⟨xs, n, _, rfl, hl, hlen, hel⟩ := DataW.trod_struct Tryz.underlying76 h
  obtain ⟨c0, c1, rfl⟩ := list2 (hl.trans size_pat20)
  obtain ⟨y0, y1, rfl⟩ := list2 hlen
  have g0 := hel 0 _ rfl
  have g1 := hel 1 _ rfl
  simp [size_str20] at g0 g1
  obtain ⟨s0, e0, rfl, _⟩ := DataW.trod_string Tryz.underlying9 g0
  obtain ⟨s1, e1, rfl, _⟩ := DataW.trod_string Tryz.underlying9 g1
  simp at hx e0 e1
  obtain ⟨rfl, rfl⟩ := hx
  subst e0 e1
  rfl
theorem cell_of_two20 {cs : List Value} {a j : Nat} {L : List Value} {v : Value} (hL : L.length = 2) (h : (cs.drop a).take 2 = L) (hv : L[j]? = some v) : cs[a + j]? = some v := by
  have hj : j < 2 := by rw [← hL]; exact (List.getElem?_eq_some_iff.1 hv).1
  rw [← h, List.getElem?_take, if_pos hj, List.getElem?_drop] at hv
  exact hv
theorem patterns_of20 {W : World} {q : List MemPlace} {rest : List (String × DataW Unit)} (h : DataW.LaidVars Tryz.prog W (("drayman/lang.patterns", Rows.laid_drayman_lang_patterns) :: rest) q) : LaidP20 W := by
  obtain ⟨g, t, cs, fuel, p, q, hg, ht, hvar, hd, hrest, _⟩ := h
  obtain rfl := Option.some.inj ((show Tryz.prog.globalNamed "drayman/lang.patterns" = some 0 by kernel_rfl).symm.trans hg)
  obtain rfl := Option.some.inj ((show (Tryz.prog.globals[0]?).map (·.type) = some 77 by kernel_rfl).symm.trans ht)
  obtain ⟨xs, m, rfl, hx, hlen, hxl, hel⟩ := DataW.trod_array Tryz.underlying77 hd
  rw [size_pat20] at hel
  have hm := (congrArg Prod.fst hx).symm
  unfold Rows.laid_drayman_lang_patterns at hm
  simp only [DataW.agg.injEq] at hm
  have hall : ∀ (i : Nat) (hi : i < 11), (cs.toList.drop (i * 2)).take 2 = [.string ⟨(wordK (i : Int)).toArray⟩, .string ⟨(tellsK (i : Int)).toArray⟩] := by
    intro i hi
    have hi2 : i < xs.length := by omega
    have h1 := hel i hi
    rw [List.getElem?_eq_getElem hi2] at h1
    have h2 := congrArg (·[i]?) hm
    simp only [List.getElem?_map, List.getElem?_eq_getElem hi2, Option.map_some] at h2
    refine pat_cells20 h1 (Option.some.inj (h2.trans ?_))
    have hc : i = 0 ∨ i = 1 ∨ i = 2 ∨ i = 3 ∨ i = 4 ∨ i = 5 ∨ i = 6 ∨ i = 7 ∨ i = 8 ∨ i = 9 ∨ i = 10 := by omega
    rcases hc with rfl | rfl | rfl | rfl | rfl | rfl | rfl | rfl | rfl | rfl | rfl <;> rfl
  have hcell : ∀ j v, cs.toList[j]? = some v → W.cell? ⟨0, j, none⟩ = some v := by
    intro j v hj
    rw [World.var?_cell hg hvar j, ← Array.getElem?_toList]
    exact hj
  have hall2 : ∀ (i : Nat), i < 11 → ∀ j v, [Value.string ⟨(wordK (i : Int)).toArray⟩, .string ⟨(tellsK (i : Int)).toArray⟩][j]? = some v → W.cell? ⟨0, i * 2 + j, none⟩ = some v := fun i hi j v hv =>
    hcell _ _ (cell_of_two20 rfl (hall i hi) hv)
  exact ⟨World.block_lt_of_cell? W _ (hall2 0 (by decide) 0 _ rfl), fun i hi => ⟨hall2 i hi 0 _ rfl, hall2 i hi 1 _ rfl⟩⟩
theorem laid_rest20 {W : World} {q : List MemPlace} {x : String × DataW Unit} {rest : List (String × DataW Unit)} (h : DataW.LaidVars Tryz.prog W (x :: rest) q) : ∃ r, DataW.LaidVars Tryz.prog W rest r := by
  obtain ⟨g, t, cs, fuel, p, q, hg, ht, hvar, hd, hrest, _⟩ := h
  exact ⟨q, hrest⟩
theorem pow_of20 {W : World} {q : List MemPlace} {rest : List (String × DataW Unit)} (h : DataW.LaidVars Tryz.prog W (("internal/strconv.uint64pow10", Rows.laid_internal_strconv_uint64pow10) :: rest) q) : Lib.TabIs Tryz.prog W "internal/strconv.uint64pow10" .u64 Lib.pow10Tab := by
  obtain ⟨g, t, cs, fuel, p, q, hg, ht, hvar, hd, hrest, _⟩ := h
  obtain rfl := Option.some.inj ((show Tryz.prog.globalNamed "internal/strconv.uint64pow10" = some 3 by kernel_rfl).symm.trans hg)
  obtain rfl := Option.some.inj ((show (Tryz.prog.globals[3]?).map (·.type) = some 134 by kernel_rfl).symm.trans ht)
  unfold Lib.TabIs
  rw [hvar, ← Lib.cells_of_tab (k := .u64) (zs := Lib.pow10Tab) Tryz.underlying134 Tryz.underlying122 (by kernel_rfl) (by kernel_rfl) hd]
theorem err_of20 {W : World} {q : List MemPlace} {n : String} {g : Nat} {d : DataW Unit} {rest : List (String × DataW Unit)} (hg0 : Tryz.prog.globalNamed n = some g) (ht0 : (Tryz.prog.globals[g]?).map (·.type) = some 64)
    (h : DataW.LaidVars Tryz.prog W ((n, .iface "*errors.errorString" d) :: rest) q) : ∃ tp p, W.cell? ⟨g, 0, none⟩ = some (.iface tp p) := by
  obtain ⟨g', t, cs, fuel, p, q, hg, ht, hvar, hd, hrest, _⟩ := h
  obtain rfl := Option.some.inj (hg0.symm.trans hg)
  obtain rfl := Option.some.inj (ht0.symm.trans ht)
  obtain ⟨f1, u, v, hcs, _, _⟩ := iface_of_trod Tryz.underlying64 hd
  refine ⟨u, v, ?_⟩
  rw [World.var?_cell hg hvar 0, ← Array.getElem?_toList, hcs]
  rfl
end Go.Proofs.YtolbhjjcabiabaaGreatDoor
