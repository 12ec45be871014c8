import Derived.Test.YtdplndmhnfalhaaDoorQWalkO19
import Derived.Test.YtdplndmhnfalhaaDoorQMPure19b
import Derived.BigQuiet
import Derived.Laws.StructEq
import Derived.Sort.Row
set_option linter.unusedVariables false
set_option linter.unusedSimpArgs false
/- Walks: slices.IsSorted, slices.Reverse, the program's rise and all; Plan, Undo, Same. -/
set_option linter.unusedVariables false
set_option linter.unusedSimpArgs false
namespace Go.Proofs.YtdplndmhnfalhaaDoor
open Go.RowKit Go.Sort

/-- A row of numbers that is the call's own: where they lie. -/
theorem ints_row19 {w : World} {base : Nat} {e : TypeId} {v : Value} {L : List Int} (h : w.ownsRow base e 1 v L.length (intsO L)) : ∃ a c, v = .slice a L.length c ∧ (0 < L.length → ∃ g, a = some ⟨g, 0, none⟩ ∧ base ≤ g ∧ g < w.heap.size ∧ L.length ≤ c ∧ Holds (Value.int .i64) w g 0 L.toArray ∧ ∀ j (hj : j < L.length), w.cell? ⟨g, j, none⟩ = some (.int .i64 (L.getD j 0))) := by
  rcases h.2 with ⟨rfl, h2⟩ | ⟨g, cap, cur, rfl, hg, hh, hcap, _⟩
  · exact ⟨none, 0, by rw [h2], fun hp => absurd hp (by omega)⟩
  · have hc : ∀ j (hj : j < L.length), w.cell? ⟨g, j, none⟩ = some (.int .i64 (L.getD j 0)) := fun j hj => by
      have := h.cells (g := g) rfl j (.int .i64 (L.getD j 0)) (by simp [intsO, hj])
      rw [Addr.add_lit, Nat.zero_add] at this
      exact this
    refine ⟨some ⟨g, 0, none⟩, cap, rfl, fun _ => ⟨g, rfl, hg, (Array.getElem?_eq_some_iff.1 hh).1, hcap, fun j hj => ?_, hc⟩⟩
    have hj2 : j < L.length := by simpa using hj
    rw [Nat.zero_add]
    refine ⟨?_, by simp [World.frozen?, hh]⟩
    rw [hc j hj2, getElem!_pos L.toArray j (by simpa using hj2), List.getD_eq_getElem?_getD, List.getElem?_eq_getElem hj2]
    simp
theorem putRow_below19 {w : World} {n g q : Nat} (d : Array Int) (h : n ≤ g) : Below n w (putRow (Value.int .i64) (Sort.ahead w q) g 0 d) where
  os := rfl
  tape := rfl
  output := rfl
  size := by simp [putRow, mapBlock, Sort.ahead]
  block := fun k hk => by
    simp only [putRow, mapBlock, Sort.ahead]
    rw [Array.getElem?_modify, if_neg (by omega)]
theorem putRow_own19 {w : World} {base q : Nat} {e : TypeId} {v : Value} {L M : List Int} {g c : Nat} (h : w.ownsRow base e 1 v L.length (intsO L)) (hv : v = .slice (some ⟨g, 0, none⟩) L.length c) (hM : M.length = L.length) :
    (putRow (Value.int .i64) (Sort.ahead w q) g 0 M.toArray).ownsRow base e 1 v M.length (intsO M) := by
  rcases h.2 with ⟨rfl, _⟩ | ⟨g', cap, cur, rfl, hg, hh, hcap, hm, hs, ht⟩
  · cases hv
  · simp only [Value.slice.injEq, Option.some.injEq, Addr.mk.injEq, and_true, true_and] at hv
    obtain ⟨rfl, rfl⟩ := hv
    refine ⟨by simp [intsO], Or.inr ⟨g', cap, putCells (Value.int .i64) 0 M.toArray cur, by rw [hM], hg, ?_, by omega, hm, by simp [putCells, hs], ?_⟩⟩
    · simp only [putRow, mapBlock, Sort.ahead]
      rw [Array.getElem?_modify, if_pos rfl, hh]
      rfl
    · apply List.ext_getElem?
      intro i
      by_cases hi : i < M.length
      · have hic : i < cur.size := by rw [hs]; omega
        rw [List.getElem?_take, if_pos (by omega)]
        simp only [putCells, Array.getElem?_toList, Array.getElem?_mapIdx, Array.getElem?_eq_getElem hic, Option.map_some, intsO, List.getElem?_map, List.getElem?_eq_getElem hi]
        rw [if_pos ⟨Nat.zero_le _, by simpa using hi⟩, Nat.sub_zero, getElem!_pos M.toArray i (by simpa using hi)]
        simp
      · rw [List.getElem?_take, if_neg (by omega)]
        simp [intsO, List.getElem?_eq_none (show M.length ≤ i by omega)]

set_option maxHeartbeats 2000000 in
theorem IsSorted19_any (L : List Int) (a : Option Addr) (c : Nat) (w : World) (hl : L.length ≤ 1000) (hA : 0 < L.length → ∃ g, a = some ⟨g, 0, none⟩ ∧ g < w.heap.size ∧ ∀ j (hj : j < L.length), w.cell? ⟨g, j, none⟩ = some (.int .i64 (L.getD j 0))) :
    Calls Tryd.prog 43 #[.slice a L.length c] w fun e w' => e = .returned (.bool (sortB19 L)) ∧ Below w.heap.size w w' := by
  have HA := Lib.hid hA
  clear hA
  have hLs := fun (x y : Int) (W : World) => Tryd.cmp_Less_int2 x y W
  have HS := Lib.hid (sortB19_iff L)
  go_enter Tryd.func43, Tryd.ntmps43
  go_wp2
  go_loopw [3] (fun s wr => ∃ z : Int, s = .int .i64 z ∧ -1 ≤ z ∧ z ≤ (L.length : Int) - 1 ∧ Aside (∀ j : Nat, z ≤ (j : Int) → j + 1 < L.length → L.getD j 0 ≤ L.getD (j + 1) 0) ∧ Below w.heap.size w wr) (fun s _ => (intOf s).toNat)
  case atStart => exact ⟨(L.length : Int) - 1, rfl, by omega, by omega, fun j h1 h2 => absurd h1 (by omega), Below.refl _ _⟩
  case round =>
    obtain ⟨z, rfl, hz1, hz2, HT, hbw⟩ := hrel
    by_cases hlt : 0 < z
    · obtain ⟨m, rfl⟩ : ∃ m : Nat, z = m := ⟨z.toNat, by omega⟩
      obtain ⟨g, rfl, hg, hc⟩ := HA.out (by omega)
      have hm1 : 1 ≤ m := by omega
      have hmL : m < L.length := by omega
      have c1 : wr.cell? ⟨g, m, none⟩ = some (.int .i64 (L.getD m 0)) := (hbw.cell (p := ⟨g, m, none⟩) hg).trans (hc m hmL)
      have c0 : wr.cell? ⟨g, m - 1, none⟩ = some (.int .i64 (L.getD (m - 1) 0)) := (hbw.cell (p := ⟨g, m - 1, none⟩) hg).trans (hc (m - 1) (by omega))
      have k1 : (m : Int) < (L.length : Int) := by omega
      have k5 : IntKind.i64.wrap ((m : Int) - 1) = ((m - 1 : Nat) : Int) := by rw [IntKind.wrap_i64]; omega
      have k6 : ((m - 1 : Nat) : Int) < (L.length : Int) := by omega
      have hno : L.getD m 0 < L.getD (m - 1) 0 → sortB19 L = false := fun h => by
        rw [Bool.eq_false_iff]
        intro hb
        have := HS.out.1 hb (m - 1) (by omega)
        rw [show m - 1 + 1 = m by omega] at this
        omega
      have hyes : ¬ L.getD m 0 < L.getD (m - 1) 0 → ∀ j : Nat, (m : Int) - 1 ≤ (j : Int) → j + 1 < L.length → L.getD j 0 ≤ L.getD (j + 1) 0 := fun h j h1 h2 => by
        rcases Nat.lt_or_ge j m with h' | h'
        · obtain rfl : j = m - 1 := by omega
          rw [show m - 1 + 1 = m by omega]
          omega
        · exact HT.out j (by omega) h2
      have HNO := Lib.hid hno
      have HYE := Lib.hid hyes
      clear hc hno hyes
      generalize L.getD m 0 = x at *
      generalize L.getD (m - 1) 0 = y at *
      obtain ⟨q, hq⟩ : ∃ q, m - 1 = q := ⟨_, rfl⟩
      rw [hq] at c0 k5 k6
      have HQ := Lib.hid hq
      clear hq
      by_cases hxy : x < y
      · have HN := Lib.hid (HNO.out hxy)
        have hd := Lib.hid (decide_eq_true hxy)
        have hL2 := hLs x y
        rw [hd.out] at hL2
        clear hxy hLs
        go_wp2
        go_quiet ((go_at_call 53; exact Calls.quiet_of_same (hL2 _)))
        go_wp2
        go_ret
        exact ⟨ret_bool (by rw [HN.out]), below_drewN hbw _⟩
      · have HY := Lib.hid (HYE.out hxy)
        have hd := Lib.hid (decide_eq_false hxy)
        have hL2 := hLs x y
        rw [hd.out] at hL2
        clear hxy hLs
        go_wp2
        go_quiet ((go_at_call 53; exact Calls.quiet_of_same (hL2 _)))
        go_wp2
        go_roundw
        case rel => exact ⟨(q : Int), rfl, by have := HQ.out; omega, by have := HQ.out; omega, fun j h1 h2 => HY.out j (by have := HQ.out; omega) h2, below_drewN hbw _⟩
        case measure => have := HQ.out; simp only [intOf]; omega
    · have HN : Hid (sortB19 L = true) := Lib.hid (HS.out.2 fun j hj => HT.out j (by omega) hj)
      go_wp2
      go_ret
      exact ⟨ret_bool (by rw [HN.out]), hbw⟩

set_option maxHeartbeats 1000000 in
theorem rise19_any (L : List Int) (v : Value) (base : Nat) (w : World) (ho : w.ownsRow base 3 1 v L.length (intsO L)) (hb : base ≤ w.heap.size) (hl : L.length ≤ 1000) :
    Calls Tryd.prog 32 #[v] w fun e w' => e = .returned (.bool (adjB L)) ∧ Below base w w' := by
  obtain ⟨a, c, rfl, _⟩ := ints_row19 ho
  have hS : ∀ W, Below w.heap.size w W → Calls Tryd.prog 43 #[.slice a L.length c] W fun e w' => e = .returned (.bool (sortB19 L)) ∧ Below W.heap.size W w' := fun W hW => by
    obtain ⟨a', c', e, h⟩ := ints_row19 (own_keep ho hW)
    cases e
    exact IsSorted19_any L a c W hl fun hp => by
      obtain ⟨g, rfl, _, h2, _, _, h5⟩ := h hp
      exact ⟨g, rfl, h2, h5⟩
  have hC : ∀ W, Below w.heap.size w W → Calls Tryd.prog 44 #[.slice a L.length c] W fun e w' => ∃ n : Nat, ∃ d, e = .returned (.slice a n d) ∧ n = (Lib.compact L).length ∧ n ≤ L.length ∧ Below base W w' := fun W hW => by
    obtain ⟨a', c', e, h⟩ := ints_row19 (own_keep ho hW)
    cases e
    by_cases hp : 0 < L.length
    · obtain ⟨g, rfl, h1, h2, h3, h4, _⟩ := h hp
      refine (Tryd.slices_Compact_int g 0 c L W h4 (by omega) h3).mono ?_
      rintro e w' ⟨rfl, q, rfl⟩
      exact ⟨_, _, rfl, rfl, Lib.compact_length_le L, putRow_below19 _ h1⟩
    · obtain rfl : L = [] := List.eq_nil_of_length_eq_zero (by omega)
      refine (Tryd.slices_Compact_int_empty a c W).mono ?_
      rintro e w' ⟨rfl, rfl⟩
      exact ⟨0, _, rfl, rfl, Nat.le_refl _, Below.refl _ _⟩
  have HR := Lib.hid (rise_yes19 (L := L))
  have HRN := Lib.hid (rise_no19 (L := L))
  clear ho
  cases hs : sortB19 L
  · rw [hs] at hS
    have HN := Lib.hid (HRN.out hs)
    clear hs hC
    go_enter Tryd.func32, Tryd.ntmps32
    go_wp2_with fail
    refine (hS _ (Below.refl _ _)).mono ?_
    rintro e w1 ⟨rfl, b1⟩
    go_wp2
    go_ret
    exact ⟨ret_bool (by rw [HN.out]), b1.mono hb⟩
  · rw [hs] at hS
    have HN := Lib.hid (HR.out hs)
    clear hs
    generalize adjB L = r at *
    go_enter Tryd.func32, Tryd.ntmps32
    go_wp2_with fail
    refine (hS _ (Below.refl _ _)).mono ?_
    rintro e w1 ⟨rfl, b1⟩
    go_wp2_with fail
    refine (hC _ b1).mono ?_
    rintro e w2 ⟨n, d, rfl, hn, hnl, b2⟩
    have HNN := Lib.hid hn
    clear hn hS hC
    go_wp2
    go_ret
    exact ⟨ret_bool (by rw [HN.out, ← HNN.out]; rw [Bool.eq_iff_iff]; simp <;> omega), (b1.mono hb).trans b2⟩
end Go.Proofs.YtdplndmhnfalhaaDoor
