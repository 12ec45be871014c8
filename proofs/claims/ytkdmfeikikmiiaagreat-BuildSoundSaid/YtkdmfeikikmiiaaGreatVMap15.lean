/- Walks: the map of what calls are done by, made. -/
import Derived.Maps.OwnSet
import Derived.Test.YtkdmfeikikmiiaaGreatVMList11
import Derived.Test.YtkdmfeikikmiiaaGreatChecked
import Derived.WalkKit
set_option linter.unusedVariables false
set_option linter.unusedSimpArgs false
namespace Go.Proofs.YtkdmfeikikmiiaaGreat
open Go.RowKit
def RfV : Value → Option (DataW Value × List MemPlace) := fun v => some (.held v, [])
abbrev fnV (k : Nat) : Value := .func (.func k) #[] #[]
abbrev cloV (k b : Nat) : Value := .func (.func k) #[] #[.pointer (some ⟨b, 0, none⟩)]
def putK (D : DataW Value) (k : Int) (v : Value) : DataW Value := D.put (.int .i64 k) (.held v)
def mapV (v1 v2 v3 v4 v5 v6 v7 v8 : Value) : DataW Value := .map [(.int .i64 1, .held v1), (.int .i64 2, .held v2), (.int .i64 3, .held v3), (.int .i64 4, .held v4), (.int .i64 5, .held v5), (.int .i64 6, .held v6), (.int .i64 7, .held v7), (.int .i64 8, .held v8)]
theorem map_put (v1 v2 v3 v4 v5 v6 v7 v8 : Value) : putK (putK (putK (putK (putK (putK (putK (putK (.map []) 1 v1) 2 v2) 3 v3) 4 v4) 5 v5) 6 v6) 7 v7) 8 v8 = mapV v1 v2 v3 v4 v5 v6 v7 v8 := by
  simp [putK, mapV, DataW.put, DataW.insert, Lit.before, Lit.sameKey]
def pickV (o : Int) (v1 v2 v3 v4 v5 v6 v7 v8 : Value) : Value := if o = 1 then v1 else if o = 2 then v2 else if o = 3 then v3 else if o = 4 then v4 else if o = 5 then v5 else if o = 6 then v6 else if o = 7 then v7 else if o = 8 then v8 else .nilFunc
theorem key15 : Go.Maps.Keyed Tryz.prog 3 := Go.Maps.int_keyed Tryz.underlying3
theorem zero15 (w : World) : (zeroValue 54).run Tryz.prog w = .ok .nilFunc w := by kernel_rfl
theorem owns_below {n k : Nat} {D : DataW Value} {R : Value → Option (DataW Value × List MemPlace)} {w W : World} {b : Nat} (h : w.ownsMap Tryz.prog k R b n D) (hB : Below w.heap.size w W) : W.ownsMap Tryz.prog k R b n D := by
  have hlt := h.lt
  obtain ⟨es, clock, hb, F, hs, hD⟩ := h
  exact ⟨es, clock, (hB.block b hlt).trans hb, F, hs, hD⟩
/-- A number that is no int at all is no key either. -/
theorem look_wild {n : Nat} {D : DataW Value} {w : World} {b : Nat} (o : Int) (h : w.ownsMap Tryz.prog 3 RfV b n D) (hbad : ¬ (Lit.int .i64 o).wf = true) :
    (Instr.lookup 56 (.map (some b)) (.int .i64 o) true).run Tryz.prog w = .ok (.tuple #[.nilFunc, .bool false]) w := by
  obtain ⟨es, clock, hb, F, _, rfl⟩ := h
  have hk := Tryz.underlying3
  have hks : ∀ y ∈ es.toList, Go.MapKept.IsKey (.int .i64) y.key ∧ y.key ≠ .int .i64 o := by
    intro y hy
    obtain ⟨z, hz⟩ := F.keys y hy
    cases hy' : y.key <;> simp [keyOf, hk, mapKey, hy'] at hz
    obtain ⟨⟨rfl, hw⟩, rfl⟩ := hz
    refine ⟨rfl, fun c => ?_⟩
    cases c
    exact hbad hw
  rcases Go.MapKept.findNow_spec (d := .int .i64) (k := .int .i64 o) rfl es.toList 0 (fun y hy => (hks y hy).1) with ⟨h1, _⟩ | ⟨j, e0, _, h2, h3⟩
  · simp [Instr.lookup, run_underlying Tryz.underlying56, Go.MapKept.run_getObj_map hb, Go.MapKept.run_checkKey (d := .int .i64) (k := .int .i64 o) hk rfl es.isEmpty 9999, Go.MapKept.run_findKey (k := .int .i64 o) hk h1, zero15, Result.andThen]
  · exact absurd h3 (hks e0 (List.mem_of_getElem? h2)).2
theorem look_do {n : Nat} {w : World} {b : Nat} (o : Int) (v1 v2 v3 v4 v5 v6 v7 v8 : Value) (h : w.ownsMap Tryz.prog 3 RfV b n (mapV v1 v2 v3 v4 v5 v6 v7 v8)) :
    (Instr.lookup 56 (.map (some b)) (.int .i64 o) true).run Tryz.prog w = .ok (.tuple #[pickV o v1 v2 v3 v4 v5 v6 v7 v8, .bool (decide (1 ≤ o ∧ o ≤ 8))]) w := by
  by_cases hw : (Lit.int .i64 o).wf = true
  · obtain ⟨x, ps, hrun, hx⟩ := h.look_ok key15 Tryz.underlying56 (zero15 w) (zd := .held .nilFunc) (zp := []) rfl (Go.Maps.keyOf_int_mk Tryz.underlying3 hw)
    rw [hrun]
    simp only [RfV, Option.some.injEq, Prod.mk.injEq] at hx
    have hx1 := hx.1
    have e : (mapV v1 v2 v3 v4 v5 v6 v7 v8).atKey (.int .i64 o) (.held .nilFunc) = .held (pickV o v1 v2 v3 v4 v5 v6 v7 v8) ∧ Go.Maps.has (mapV v1 v2 v3 v4 v5 v6 v7 v8) (.int .i64 o) = decide (1 ≤ o ∧ o ≤ 8) := by
      by_cases c : 1 ≤ o ∧ o ≤ 8
      · have c8 : o = 1 ∨ o = 2 ∨ o = 3 ∨ o = 4 ∨ o = 5 ∨ o = 6 ∨ o = 7 ∨ o = 8 := by omega
        rcases c8 with rfl | rfl | rfl | rfl | rfl | rfl | rfl | rfl <;> exact ⟨rfl, rfl⟩
      · have n1 : ¬ (1 = o) := by omega
        have n2 : ¬ (2 = o) := by omega
        have n3 : ¬ (3 = o) := by omega
        have n4 : ¬ (4 = o) := by omega
        have n5 : ¬ (5 = o) := by omega
        have n6 : ¬ (6 = o) := by omega
        have n7 : ¬ (7 = o) := by omega
        have n8 : ¬ (8 = o) := by omega
        have m1 : ¬ (o = 1) := by omega
        have m2 : ¬ (o = 2) := by omega
        have m3 : ¬ (o = 3) := by omega
        have m4 : ¬ (o = 4) := by omega
        have m5 : ¬ (o = 5) := by omega
        have m6 : ¬ (o = 6) := by omega
        have m7 : ¬ (o = 7) := by omega
        have m8 : ¬ (o = 8) := by omega
        constructor
        · simp [mapV, DataW.atKey, Lit.sameKey, pickV, n1, n2, n3, n4, n5, n6, n7, n8, m1, m2, m3, m4, m5, m6, m7, m8]
        · simp [mapV, Go.Maps.has, Lit.sameKey, n1, n2, n3, n4, n5, n6, n7, n8]
          omega
    rw [e.1] at hx1
    cases hx1
    rw [e.2]
  · rw [look_wild o h hw]
    have hr : ¬ (1 ≤ o ∧ o ≤ 8) := fun c => hw (by
      have c8 : o = 1 ∨ o = 2 ∨ o = 3 ∨ o = 4 ∨ o = 5 ∨ o = 6 ∨ o = 7 ∨ o = 8 := by omega
      rcases c8 with rfl | rfl | rfl | rfl | rfl | rfl | rfl | rfl <;> decide)
    have hp : pickV o v1 v2 v3 v4 v5 v6 v7 v8 = .nilFunc := by
      unfold pickV
      rw [if_neg (by omega), if_neg (by omega), if_neg (by omega), if_neg (by omega), if_neg (by omega), if_neg (by omega), if_neg (by omega), if_neg (by omega)]
    rw [hp, decide_eq_false hr]
/-- A map literal's entry, laid at its key: the map is the call's own. -/
theorem insert_own (w : World) {ops : Array Oper} {rest : List Oper} {o : Oper} {a : Act} {Q : Exit → Act → World → Prop} (hg : o.guard = none) (m x v : Operand) (hop : o.op = Op.insert 56 m x v)
    (b n : Nat) (D : DataW Value) (hm : a.eval m = .map (some b)) (hown : w.ownsMap Tryz.prog 3 RfV b n D) (hn : n < 100) (k : Int) (hk : (Lit.int .i64 k).wf = true) (val : Value) (hx : a.eval x = .int .i64 k) (hv : a.eval v = val)
    (hK : ∀ w', w'.ownsMap Tryz.prog 3 RfV b (n + 1) (putK D k val) → w.grownBy w' (some b) → wpList Tryz.prog ops Q rest (a.put o.dst undef) w') :
    wpList Tryz.prog ops Q (o :: rest) a w := by
  refine wpList_plain hg fun K' hK' => ?_
  obtain ⟨w', hrun, r1, r2⟩ := hown.update key15 Tryz.underlying56 (by unfold maxLen; omega) (Go.Maps.keyOf_int_mk Tryz.underlying3 hk) (val := val) (d := .held val) (ps := []) rfl
  unfold Oper.wp
  simp [execOp, hop, hm, hx, hv, hrun, Result.andThen]
  exact hK' _ _ (hK w' r1 r2)
set_option maxRecDepth 100000 in
theorem withPath_any (k : Nat) (w : World) :
    Calls Tryz.prog 35 #[fnV k] w fun e w' => e = .returned (cloV 64 w.heap.size) ∧ Blk w' w.heap.size 64 #[fnV k] ∧ Below w.heap.size w w' := by
  have hB : Below w.heap.size w (w.alloc (.cells #[fnV k] 64)) := (Below.refl _ w).alloc (Nat.le_refl _) _
  have bX := Blk.new w 64 #[fnV k]
  go_enter Tryz.func35, Tryz.ntmps35
  go_wp2
  go_ret
  exact ⟨rfl, bX, hB⟩
set_option maxRecDepth 100000 in
theorem withData_any (k : Nat) (w : World) :
    Calls Tryz.prog 37 #[fnV k] w fun e w' => e = .returned (cloV 68 w.heap.size) ∧ Blk w' w.heap.size 66 #[fnV k] ∧ Below w.heap.size w w' := by
  have hB : Below w.heap.size w (w.alloc (.cells #[fnV k] 66)) := (Below.refl _ w).alloc (Nat.le_refl _) _
  have bX := Blk.new w 66 #[fnV k]
  go_enter Tryz.func37, Tryz.ntmps37
  go_wp2
  go_ret
  exact ⟨rfl, bX, hB⟩
set_option maxRecDepth 100000 in
theorem withBoth_any (k : Nat) (w : World) :
    Calls Tryz.prog 42 #[fnV k] w fun e w' => e = .returned (cloV 75 w.heap.size) ∧ Blk w' w.heap.size 66 #[fnV k] ∧ Below w.heap.size w w' := by
  have hB : Below w.heap.size w (w.alloc (.cells #[fnV k] 66)) := (Below.refl _ w).alloc (Nat.le_refl _) _
  have bX := Blk.new w 66 #[fnV k]
  go_enter Tryz.func42, Tryz.ntmps42
  go_wp2
  go_ret
  exact ⟨rfl, bX, hB⟩
/-- What the map of calls holds. -/
structure CallsM (w' : World) (B b1 b2 b3 b5 b6 b7 b8 : Nat) : Prop where
  own : w'.ownsMap Tryz.prog 3 RfV B 8 (mapV (cloV 64 b1) (cloV 68 b2) (cloV 68 b3) (fnV 40) (cloV 75 b5) (cloV 64 b6) (cloV 64 b7) (cloV 75 b8))
  c1 : Blk w' b1 64 #[fnV 36]
  c2 : Blk w' b2 66 #[fnV 38]
  c3 : Blk w' b3 66 #[fnV 39]
  c5 : Blk w' b5 66 #[fnV 43]
  c6 : Blk w' b6 64 #[fnV 44]
  c7 : Blk w' b7 64 #[fnV 45]
  c8 : Blk w' b8 66 #[fnV 46]
set_option maxHeartbeats 8000000 in
set_option maxRecDepth 100000 in
theorem calls_any (w : World) :
    Calls Tryz.prog 19 #[] w fun e w' => ∃ B b1 b2 b3 b5 b6 b7 b8, e = .returned (.map (some B)) ∧ CallsM w' B b1 b2 b3 b5 b6 b7 b8 ∧ Below w.heap.size w w' := by
  have hmm := @run_makeMap Tryz.prog
  have o0 : (w.alloc (.map #[] 0)).ownsMap Tryz.prog 3 RfV w.heap.size 0 (.map []) := World.ownsMap_made _ _ _ _
  have hB : Below w.heap.size w (w.alloc (.map #[] 0)) := (Below.refl _ w).alloc (Nat.le_refl _) _
  have hlt : w.heap.size < (w.alloc (.map #[] 0)).heap.size := by simp
  go_enter Tryz.func19, Tryz.ntmps19
  go_wp2_with fail
  refine (withPath_any 36 _).mono ?_
  rintro e x1 ⟨rfl, h1, g1⟩
  have ne1 := Nat.ne_of_lt hlt
  have o1' := owns_below o0 g1
  clear o0
  replace hB := hB.trans (g1.mono hB.size)
  replace hlt := Nat.lt_of_lt_of_le hlt g1.size
  clear g1
  obtain ⟨b1, hb1⟩ : ∃ n, n = (w.alloc (.map #[] 0)).heap.size := ⟨_, rfl⟩
  rw [← hb1] at h1 ne1 ⊢
  clear hb1
  go_wp2_with (first | (refine insert_own _ rfl _ _ _ rfl w.heap.size 0 _ rfl o1' (by decide) 1 (by decide) _ rfl rfl ?_; intro y1 o1 g1) | fail)
  replace hB := hB.grown g1 hB.size (fun j hj => by cases hj; exact Nat.le_refl _)
  replace hlt := Nat.lt_of_lt_of_le hlt g1.size
  replace h1 := h1.kept g1 (by simp; omega)
  clear g1
  clear o1'
  refine (withData_any 38 _).mono ?_
  rintro e x2 ⟨rfl, h2, g2⟩
  have ne2 := Nat.ne_of_lt hlt
  have o2' := owns_below o1 g2
  clear o1
  replace hB := hB.trans (g2.mono hB.size)
  replace h1 := h1.next g2
  replace hlt := Nat.lt_of_lt_of_le hlt g2.size
  clear g2
  obtain ⟨b2, hb2⟩ : ∃ n, n = y1.heap.size := ⟨_, rfl⟩
  rw [← hb2] at h2 ne2 ⊢
  clear hb2
  go_wp2_with (first | (refine insert_own _ rfl _ _ _ rfl w.heap.size 1 _ rfl o2' (by decide) 2 (by decide) _ rfl rfl ?_; intro y2 o2 g2) | fail)
  replace hB := hB.grown g2 hB.size (fun j hj => by cases hj; exact Nat.le_refl _)
  replace hlt := Nat.lt_of_lt_of_le hlt g2.size
  replace h1 := h1.kept g2 (by simp; omega)
  replace h2 := h2.kept g2 (by simp; omega)
  clear g2
  clear o2'
  refine (withData_any 39 _).mono ?_
  rintro e x3 ⟨rfl, h3, g3⟩
  have ne3 := Nat.ne_of_lt hlt
  have o3' := owns_below o2 g3
  clear o2
  replace hB := hB.trans (g3.mono hB.size)
  replace h1 := h1.next g3
  replace h2 := h2.next g3
  replace hlt := Nat.lt_of_lt_of_le hlt g3.size
  clear g3
  obtain ⟨b3, hb3⟩ : ∃ n, n = y2.heap.size := ⟨_, rfl⟩
  rw [← hb3] at h3 ne3 ⊢
  clear hb3
  go_wp2_with (first | (refine insert_own _ rfl _ _ _ rfl w.heap.size 2 _ rfl o3' (by decide) 3 (by decide) _ rfl rfl ?_; intro y3 o3 g3) | (refine insert_own _ rfl _ _ _ rfl w.heap.size 3 _ rfl o3 (by decide) 4 (by decide) _ rfl rfl ?_; intro y4 o4 g4) | fail)
  replace hB := hB.grown g3 hB.size (fun j hj => by cases hj; exact Nat.le_refl _)
  replace hlt := Nat.lt_of_lt_of_le hlt g3.size
  replace h1 := h1.kept g3 (by simp; omega)
  replace h2 := h2.kept g3 (by simp; omega)
  replace h3 := h3.kept g3 (by simp; omega)
  clear g3
  replace hB := hB.grown g4 hB.size (fun j hj => by cases hj; exact Nat.le_refl _)
  replace hlt := Nat.lt_of_lt_of_le hlt g4.size
  replace h1 := h1.kept g4 (by simp; omega)
  replace h2 := h2.kept g4 (by simp; omega)
  replace h3 := h3.kept g4 (by simp; omega)
  clear g4
  clear o3'
  clear o3
  refine (withBoth_any 43 _).mono ?_
  rintro e x5 ⟨rfl, h5, g5⟩
  have ne5 := Nat.ne_of_lt hlt
  have o5' := owns_below o4 g5
  clear o4
  replace hB := hB.trans (g5.mono hB.size)
  replace h1 := h1.next g5
  replace h2 := h2.next g5
  replace h3 := h3.next g5
  replace hlt := Nat.lt_of_lt_of_le hlt g5.size
  clear g5
  obtain ⟨b5, hb5⟩ : ∃ n, n = y4.heap.size := ⟨_, rfl⟩
  rw [← hb5] at h5 ne5 ⊢
  clear hb5
  go_wp2_with (first | (refine insert_own _ rfl _ _ _ rfl w.heap.size 4 _ rfl o5' (by decide) 5 (by decide) _ rfl rfl ?_; intro y5 o5 g5) | fail)
  replace hB := hB.grown g5 hB.size (fun j hj => by cases hj; exact Nat.le_refl _)
  replace hlt := Nat.lt_of_lt_of_le hlt g5.size
  replace h1 := h1.kept g5 (by simp; omega)
  replace h2 := h2.kept g5 (by simp; omega)
  replace h3 := h3.kept g5 (by simp; omega)
  replace h5 := h5.kept g5 (by simp; omega)
  clear g5
  clear o5'
  refine (withPath_any 44 _).mono ?_
  rintro e x6 ⟨rfl, h6, g6⟩
  have ne6 := Nat.ne_of_lt hlt
  have o6' := owns_below o5 g6
  clear o5
  replace hB := hB.trans (g6.mono hB.size)
  replace h1 := h1.next g6
  replace h2 := h2.next g6
  replace h3 := h3.next g6
  replace h5 := h5.next g6
  replace hlt := Nat.lt_of_lt_of_le hlt g6.size
  clear g6
  obtain ⟨b6, hb6⟩ : ∃ n, n = y5.heap.size := ⟨_, rfl⟩
  rw [← hb6] at h6 ne6 ⊢
  clear hb6
  go_wp2_with (first | (refine insert_own _ rfl _ _ _ rfl w.heap.size 5 _ rfl o6' (by decide) 6 (by decide) _ rfl rfl ?_; intro y6 o6 g6) | fail)
  replace hB := hB.grown g6 hB.size (fun j hj => by cases hj; exact Nat.le_refl _)
  replace hlt := Nat.lt_of_lt_of_le hlt g6.size
  replace h1 := h1.kept g6 (by simp; omega)
  replace h2 := h2.kept g6 (by simp; omega)
  replace h3 := h3.kept g6 (by simp; omega)
  replace h5 := h5.kept g6 (by simp; omega)
  replace h6 := h6.kept g6 (by simp; omega)
  clear g6
  clear o6'
  refine (withPath_any 45 _).mono ?_
  rintro e x7 ⟨rfl, h7, g7⟩
  have ne7 := Nat.ne_of_lt hlt
  have o7' := owns_below o6 g7
  clear o6
  replace hB := hB.trans (g7.mono hB.size)
  replace h1 := h1.next g7
  replace h2 := h2.next g7
  replace h3 := h3.next g7
  replace h5 := h5.next g7
  replace h6 := h6.next g7
  replace hlt := Nat.lt_of_lt_of_le hlt g7.size
  clear g7
  obtain ⟨b7, hb7⟩ : ∃ n, n = y6.heap.size := ⟨_, rfl⟩
  rw [← hb7] at h7 ne7 ⊢
  clear hb7
  go_wp2_with (first | (refine insert_own _ rfl _ _ _ rfl w.heap.size 6 _ rfl o7' (by decide) 7 (by decide) _ rfl rfl ?_; intro y7 o7 g7) | fail)
  replace hB := hB.grown g7 hB.size (fun j hj => by cases hj; exact Nat.le_refl _)
  replace hlt := Nat.lt_of_lt_of_le hlt g7.size
  replace h1 := h1.kept g7 (by simp; omega)
  replace h2 := h2.kept g7 (by simp; omega)
  replace h3 := h3.kept g7 (by simp; omega)
  replace h5 := h5.kept g7 (by simp; omega)
  replace h6 := h6.kept g7 (by simp; omega)
  replace h7 := h7.kept g7 (by simp; omega)
  clear g7
  clear o7'
  refine (withBoth_any 46 _).mono ?_
  rintro e x8 ⟨rfl, h8, g8⟩
  have ne8 := Nat.ne_of_lt hlt
  have o8' := owns_below o7 g8
  clear o7
  replace hB := hB.trans (g8.mono hB.size)
  replace h1 := h1.next g8
  replace h2 := h2.next g8
  replace h3 := h3.next g8
  replace h5 := h5.next g8
  replace h6 := h6.next g8
  replace h7 := h7.next g8
  replace hlt := Nat.lt_of_lt_of_le hlt g8.size
  clear g8
  obtain ⟨b8, hb8⟩ : ∃ n, n = y7.heap.size := ⟨_, rfl⟩
  rw [← hb8] at h8 ne8 ⊢
  clear hb8
  go_wp2_with (first | (refine insert_own _ rfl _ _ _ rfl w.heap.size 7 _ rfl o8' (by decide) 8 (by decide) _ rfl rfl ?_; intro y8 o8 g8) | fail)
  replace hB := hB.grown g8 hB.size (fun j hj => by cases hj; exact Nat.le_refl _)
  replace hlt := Nat.lt_of_lt_of_le hlt g8.size
  replace h1 := h1.kept g8 (by simp; omega)
  replace h2 := h2.kept g8 (by simp; omega)
  replace h3 := h3.kept g8 (by simp; omega)
  replace h5 := h5.kept g8 (by simp; omega)
  replace h6 := h6.kept g8 (by simp; omega)
  replace h7 := h7.kept g8 (by simp; omega)
  replace h8 := h8.kept g8 (by simp; omega)
  clear g8
  clear o8'
  go_ret
  rw [map_put] at o8
  exact ⟨w.heap.size, b1, b2, b3, b5, b6, b7, b8, rfl, ⟨o8, h1, h2, h3, h5, h6, h7, h8⟩, hB⟩
end Go.Proofs.YtkdmfeikikmiiaaGreat
