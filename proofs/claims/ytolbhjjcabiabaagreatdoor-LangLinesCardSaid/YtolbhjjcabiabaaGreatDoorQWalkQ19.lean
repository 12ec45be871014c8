import Derived.Test.YtolbhjjcabiabaaGreatDoorQMWalkP19
import Derived.Deep.CutRange
import Derived.Deep.RegionHeld3
set_option linter.unusedVariables false
set_option linter.unusedSimpArgs false
/- Walks: the program's all (with each of its two function values), Plan, Undo and Same. -/
set_option linter.unusedVariables false
set_option linter.unusedSimpArgs false
namespace Go.Proofs.YtolbhjjcabiabaaGreatDoor
open Go.RowKit Go.Sort

theorem own_sl19 {w : World} {base : Nat} {e : TypeId} {size : Nat} {v : Value} {n : Nat} {xs : List Value} (h : w.ownsRow base e size v n xs) : ∃ a c, v = .slice a n c := by
  rcases h.2 with ⟨rfl, rfl⟩ | ⟨g, cap, cur, rfl, _⟩
  · exact ⟨_, _, rfl⟩
  · exact ⟨_, _, rfl⟩
theorem any19_next {α : Type} {l : List α} {p : α → Bool} {k : Nat} (h : k < l.length) (ht : (l.take k).all p = true) : (l.take (k + 1)).all p = p l[k] := by
  rw [List.take_succ_eq_append_getElem h, List.all_append, ht]; simp
set_option maxHeartbeats 1000000 in
set_option maxRecDepth 100000 in
theorem hold19_any (F : Nat) (r : Bool) (k n : Int) (A B D : List UInt8) (bk : Nat) (w : World) (hE : ∀ args w, (callFunc F args).run Tryz.prog w = .ok (.enter F args) w) (hc : w.cell? ⟨bk, 0, none⟩ = some (.func (.func F) #[] #[])) (hbk : bk < w.heap.size)
    (hF : ∀ W, Below w.heap.size w W → Calls Tryz.prog F #[.agg (opC ⟨k, n, A, B, D⟩)] W fun e w' => e = .returned (.bool r) ∧ Below W.heap.size W w') :
    Calls Tryz.prog 83 #[.agg (opC ⟨k, n, A, B, D⟩), .pointer (some ⟨bk, 0, none⟩)] w fun e w' => e = .returned (.bool (!r)) ∧ Below w.heap.size w w' := by
  have bO := Blk.new w 23 (opC ⟨k, n, A, B, D⟩)
  have hB : Below w.heap.size w (w.alloc (.cells (opC ⟨k, n, A, B, D⟩) 23)) := (Below.refl _ w).alloc (Nat.le_refl _) _
  have c0 := (hB.cell (p := ⟨bk, 0, none⟩) hbk).trans hc
  have hF1 := hF _ hB
  obtain ⟨p0, p1, p2, p3, p4⟩ := bO.five
  dsimp only at p0 p1 p2 p3 p4
  clear hF hc bO
  go_enter Tryz.func83, Tryz.ntmps83
  go_wp2_with fail
  go_at_fn F
  refine hF1.mono ?_
  rintro e w1 ⟨rfl, b1⟩
  go_wp2
  go_ret
  exact ⟨rfl, hB.trans (b1.mono hB.size)⟩
set_option maxHeartbeats 2000000 in
set_option maxRecDepth 100000 in
theorem index19_any (F : Nat) (p : OpV → Bool) (l : List OpV) (bk : Nat) (v : Value) (w : World) (hv : Ops w v l) (hl : l.length ≤ 1000) (hE : ∀ args w, (callFunc F args).run Tryz.prog w = .ok (.enter F args) w) (hc : w.cell? ⟨bk, 0, none⟩ = some (.func (.func F) #[] #[])) (hbk : bk < w.heap.size)
    (hF : ∀ o ∈ l, ∀ W, Below w.heap.size w W → Calls Tryz.prog F #[.agg (opC o)] W fun e w' => e = .returned (.bool (p o)) ∧ Below W.heap.size W w') :
    Calls Tryz.prog 102 #[v, .func (.func 83) #[] #[.pointer (some ⟨bk, 0, none⟩)]] w fun e w' => ∃ i : Int, e = .returned (.int .i64 i) ∧ decide (0 ≤ i) = !l.all p ∧ Below w.heap.size w w' := by
  obtain ⟨a, ca, rfl, hcc, hcm, _, hcn, HA0⟩ := id hv
  have HA := Lib.hid HA0
  have HF := Lib.hid hF
  have HC := Lib.hid hc
  clear HA0 hv hF hc
  unfold maxLen at hcm
  go_enter Tryz.func102, Tryz.ntmps102
  go_wp2
  go_loopw [8] (fun s8 wr => ∃ j : Nat, j ≤ l.length ∧ s8 = .int .i64 j ∧ Aside ((l.take j).all p = true) ∧ Below w.heap.size w wr) (fun s8 _ => l.length - (intOf s8).toNat)
  case atStart => exact ⟨0, Nat.zero_le _, rfl, (show Aside _ from rfl), Below.refl _ _⟩
  case round =>
    obtain ⟨j, hj, rfl, HT, hbw⟩ := hrel
    by_cases hlt : j < l.length
    · obtain ⟨b, o, rfl, hb, hcl⟩ := HA.out (by omega)
      obtain ⟨c0, c1, c2, c3, c4⟩ := (hcl j hlt).below hbw hb
      have hnx := any19_next hlt HT.out
      have hin : p l[j] = false → l.all p = false := fun h => by
        rw [Bool.eq_false_iff]
        intro ha
        rw [List.all_eq_true.1 ha l[j] (List.getElem_mem hlt)] at h
        cases h
      have hP := HF.out l[j] (List.getElem_mem hlt)
      clear hcl
      have k0 : (0 : Int) ≤ (j : Int) := by omega
      have k1 : (j : Int) < (l.length : Int) := by omega
      generalize l[j] = x at *
      obtain ⟨xk, xs, xa, xb, xd⟩ := x
      dsimp only at c0 c1 c2 c3 c4
      have hH := hold19_any F (p ⟨xk, xs, xa, xb, xd⟩) xk xs xa xb xd bk wr hE ((hbw.cell (p := ⟨bk, 0, none⟩) hbk).trans HC.out) (Nat.lt_of_lt_of_le hbk hbw.size) (fun W hW => hP W (hbw.trans (hW.mono hbw.size)))
      have HNX := Lib.hid hnx
      have HIN := Lib.hid hin
      clear hnx hin hP
      generalize p ⟨xk, xs, xa, xb, xd⟩ = r at *
      cases r
      · have HI2 := Lib.hid (HIN.out rfl)
        clear HIN HNX hE
        go_wp2_with fail
        refine hH.mono ?_
        rintro e w4 ⟨rfl, b4⟩
        go_wp2
        go_ret
        exact ⟨_, rfl, by rw [HI2.out]; simp, hbw.trans (b4.mono hbw.size)⟩
      · clear hE
        go_wp2_with fail
        refine hH.mono ?_
        rintro e w4 ⟨rfl, b4⟩
        go_wp2
        go_roundw
        case rel => exact ⟨j + 1, by omega, by go_num, (show Aside _ from HNX.out), hbw.trans (b4.mono hbw.size)⟩
        case measure => simp [intOf]; omega
    · obtain rfl : j = l.length := by omega
      have HN : Hid (l.all p = true) := by (show _ = _); have := HT.out; rwa [List.take_length] at this
      go_wp2
      go_ret
      exact ⟨_, rfl, by rw [HN.out]; rfl, hbw⟩
set_option maxRecDepth 100000 in
theorem all19_any (F : Nat) (p : OpV → Bool) (l : List OpV) (v : Value) (w : World) (hE : ∀ args w, (callFunc F args).run Tryz.prog w = .ok (.enter F args) w) (hv : Ops w v l) (hl : l.length ≤ 1000)
    (hF : ∀ o ∈ l, ∀ W, Below w.heap.size w W → Calls Tryz.prog F #[.agg (opC o)] W fun e w' => e = .returned (.bool (p o)) ∧ Below W.heap.size W w') :
    Calls Tryz.prog 57 #[v, .func (.func F) #[] #[]] w fun e w' => e = .returned (.bool (l.all p)) ∧ Below w.heap.size w w' := by
  obtain ⟨a, ca, rfl⟩ := ops_slice hv
  have bC := Blk.new w 29 #[.func (.func F) #[] #[]]
  have hB : Below w.heap.size w (w.alloc (.cells #[.func (.func F) #[] #[]] 29)) := (Below.refl _ w).alloc (Nat.le_refl _) _
  have hI := index19_any F p l w.heap.size _ _ (hv.below hB) hl hE ((bC.cell 0).trans rfl) bC.lt (fun o ho W hW => hF o ho W (hB.trans (hW.mono hB.size)))
  have hX : Calls Tryz.prog 82 #[.slice a l.length ca, .func (.func 83) #[] #[.pointer (some ⟨w.heap.size, 0, none⟩)]] (w.alloc (.cells #[.func (.func F) #[] #[]] 29)) fun e w' => e = .returned (.bool (!l.all p)) ∧ Below w.heap.size w w' := by
    clear bC hF hv
    go_enter Tryz.func82, Tryz.ntmps82
    go_wp2_with fail
    refine hI.mono ?_
    rintro e w1 ⟨i, rfl, hi, b1⟩
    have HI := Lib.hid hi
    clear hi hI
    go_wp2
    go_ret
    exact ⟨ret_bool (by rw [← HI.out]), hB.trans (b1.mono hB.size)⟩
  have c0 := (bC.cell 0).trans rfl
  clear hI bC hF hv
  go_enter Tryz.func57, Tryz.ntmps57
  go_wp2_with fail
  refine hX.mono ?_
  rintro e w1 ⟨rfl, b1⟩
  go_wp2
  go_ret
  exact ⟨ret_bool (by simp), b1⟩

set_option maxHeartbeats 1000000 in set_option maxRecDepth 100000 in theorem planF_any (o : OpV) (w : World) (hL : Laid19 w) (ha : o.a.length ≤ 100000) (hb : o.b.length ≤ 100000) (hd : o.data.length ≤ 100000) : Calls Tryz.prog 58 #[.agg (opC o)] w fun e w' => e = .returned (.bool (planK o.kind && mayO o)) ∧ Below w.heap.size w w' := by (have hMy := fun W (hW : Laid19 W) => May19_any o W hW ha hb hd; obtain ⟨k, n, A, B, D⟩ := o; have hK := fun W hW => kindOf19_any k n A B D W hW; dsimp only at hMy hK ⊢; unfold kC at hK; generalize mayO ⟨k, n, A, B, D⟩ = r at *; generalize slotK k = b0 at *; generalize (k == 4) = b1 at *; generalize kindK k = b2 at *; generalize pairK k = b3 at *; generalize (k == 6) = b4 at *; generalize planK k = b5 at *; generalize undoK k = b6 at *; have bO := Blk.new w 23 (opC ⟨k, n, A, B, D⟩); have hB : Below w.heap.size w (w.alloc (.cells (opC ⟨k, n, A, B, D⟩) 23)) := (Below.refl _ w).alloc (Nat.le_refl _) _; have hT := hL.next hB; obtain ⟨p0, p1, p2, p3, p4⟩ := bO.five; dsimp only at p0 p1 p2 p3 p4; go_enter Tryz.func58, Tryz.ntmps58; go_wp2_with fail; refine (hK _ hT).mono ?_; rintro e w1 ⟨rfl, c1⟩; replace hB := hB.trans (c1.mono hB.size); have g1 := (Below.refl w1.heap.size w1).alloc (Nat.le_refl _) (.cells #[.bool b0, .bool b1, .bool b2, .bool b3, .bool b4, .bool b5, .bool b6] 82); have bK := Blk.new w1 82 #[.bool b0, .bool b1, .bool b2, .bool b3, .bool b4, .bool b5, .bool b6]; replace bO := (bO.next c1).next g1; replace hB := hB.trans (g1.mono hB.size); have hT2 := hL.next hB; clear c1 g1 hT hK p0 p1 p2 p3 p4; obtain ⟨p0, p1, p2, p3, p4⟩ := bO.five; obtain ⟨q0, q1, q2, q3, q4, q5, q6⟩ := bK.sevens; dsimp only at p0 p1 p2 p3 p4; cases b5; { go_wp2; go_ret; exact ⟨ret_bool (by simp), hB⟩ }; { go_wp2_with fail; refine (hMy _ hT2).mono ?_; rintro e w2 ⟨rfl, c2⟩; go_wp2; go_ret; exact ⟨ret_bool (by simp), hB.trans (c2.mono hB.size)⟩ })
set_option maxHeartbeats 1000000 in set_option maxRecDepth 100000 in theorem undoF_any (o : OpV) (w : World) (hL : Laid19 w) (ha : o.a.length ≤ 100000) (hb : o.b.length ≤ 100000) (hd : o.data.length ≤ 100000) : Calls Tryz.prog 62 #[.agg (opC o)] w fun e w' => e = .returned (.bool (undoK o.kind && mayO o)) ∧ Below w.heap.size w w' := by (have hMy := fun W (hW : Laid19 W) => May19_any o W hW ha hb hd; obtain ⟨k, n, A, B, D⟩ := o; have hK := fun W hW => kindOf19_any k n A B D W hW; dsimp only at hMy hK ⊢; unfold kC at hK; generalize mayO ⟨k, n, A, B, D⟩ = r at *; generalize slotK k = b0 at *; generalize (k == 4) = b1 at *; generalize kindK k = b2 at *; generalize pairK k = b3 at *; generalize (k == 6) = b4 at *; generalize planK k = b5 at *; generalize undoK k = b6 at *; have bO := Blk.new w 23 (opC ⟨k, n, A, B, D⟩); have hB : Below w.heap.size w (w.alloc (.cells (opC ⟨k, n, A, B, D⟩) 23)) := (Below.refl _ w).alloc (Nat.le_refl _) _; have hT := hL.next hB; obtain ⟨p0, p1, p2, p3, p4⟩ := bO.five; dsimp only at p0 p1 p2 p3 p4; go_enter Tryz.func62, Tryz.ntmps62; go_wp2_with fail; refine (hK _ hT).mono ?_; rintro e w1 ⟨rfl, c1⟩; replace hB := hB.trans (c1.mono hB.size); have g1 := (Below.refl w1.heap.size w1).alloc (Nat.le_refl _) (.cells #[.bool b0, .bool b1, .bool b2, .bool b3, .bool b4, .bool b5, .bool b6] 82); have bK := Blk.new w1 82 #[.bool b0, .bool b1, .bool b2, .bool b3, .bool b4, .bool b5, .bool b6]; replace bO := (bO.next c1).next g1; replace hB := hB.trans (g1.mono hB.size); have hT2 := hL.next hB; clear c1 g1 hT hK p0 p1 p2 p3 p4; obtain ⟨p0, p1, p2, p3, p4⟩ := bO.five; obtain ⟨q0, q1, q2, q3, q4, q5, q6⟩ := bK.sevens; dsimp only at p0 p1 p2 p3 p4; cases b6; { go_wp2; go_ret; exact ⟨ret_bool (by simp), hB⟩ }; { go_wp2_with fail; refine (hMy _ hT2).mono ?_; rintro e w2 ⟨rfl, c2⟩; go_wp2; go_ret; exact ⟨ret_bool (by simp), hB.trans (c2.mono hB.size)⟩ })

set_option maxHeartbeats 1000000 in
set_option maxRecDepth 100000 in
theorem Plan19_any (l : List OpV) (v : Value) (w : World) (hL : Laid19 w) (hv : Ops w v l) (hl : l.length ≤ 1000) (hsh : ∀ o ∈ l, o.a.length ≤ 100000 ∧ o.b.length ≤ 100000 ∧ o.data.length ≤ 100000) :
    Calls Tryz.prog 35 #[v] w fun e w' => e = .returned (.bool (planO l)) ∧ Below w.heap.size w w' := by
  obtain ⟨a, ca, rfl⟩ := ops_slice hv
  have HP := Lib.hid (plan_is19 l)
  have hA := all19_any 58 (fun o => planK o.kind && mayO o) l _ w (enters_of Tryz.func58 (by kernel_rfl) rfl) hv hl (fun o ho W hW => planF_any o W (hL.next hW) (hsh o ho).1 (hsh o ho).2.1 (hsh o ho).2.2)
  have hS := fun W (hW : Below w.heap.size w W) => Slots19_any l _ W (hL.next hW) (hv.below hW) hl
  have hsn := slots_len l
  have hfe : (fun o : OpV => decide (1 ≤ o.kind ∧ o.kind ≤ 7) && mayO o) = fun o => planK o.kind && mayO o := rfl
  rw [hfe] at HP
  generalize (l.all fun o => planK o.kind && mayO o) = r at *
  generalize slotsO l = S at *
  generalize planO l = s at *
  clear hsh hL hv hfe
  cases r
  · have HN : Hid (s = false) := Lib.hid (HP.out.trans rfl)
    clear hS
    go_enter Tryz.func35, Tryz.ntmps35
    go_wp2_with fail
    refine hA.mono ?_
    rintro e w1 ⟨rfl, b1⟩
    go_wp2
    go_ret
    exact ⟨ret_bool (by rw [HN.out]), b1⟩
  · have HN : Hid (s = adjB S) := Lib.hid (HP.out.trans (Bool.true_and _))
    go_enter Tryz.func35, Tryz.ntmps35
    go_wp2_with fail
    refine hA.mono ?_
    rintro e w1 ⟨rfl, b1⟩
    go_wp2_with fail
    refine (hS _ b1).mono ?_
    rintro e w2 ⟨v2, rfl, o2, b2⟩
    have hR := rise19_any S v2 w1.heap.size w2 o2 b2.size (by omega)
    obtain ⟨a2, c2, rfl⟩ := own_sl19 o2
    clear o2 hA hS
    go_wp2_with fail
    refine hR.mono ?_
    rintro e w3 ⟨rfl, b3⟩
    go_wp2
    go_ret
    exact ⟨ret_bool (by rw [HN.out]), b1.trans ((b2.trans b3).mono b1.size)⟩

set_option maxHeartbeats 1000000 in
set_option maxRecDepth 100000 in
theorem Undo19_any (l : List OpV) (v : Value) (w : World) (hL : Laid19 w) (hv : Ops w v l) (hl : l.length ≤ 1000) (hsh : ∀ o ∈ l, o.a.length ≤ 100000 ∧ o.b.length ≤ 100000 ∧ o.data.length ≤ 100000) :
    Calls Tryz.prog 36 #[v] w fun e w' => e = .returned (.bool (undoO l)) ∧ Below w.heap.size w w' := by
  obtain ⟨a, ca, rfl⟩ := ops_slice hv
  have HP := Lib.hid (undo_is19 l)
  have hA := fun W (hW : Below w.heap.size w W) => all19_any 62 (fun o => undoK o.kind && mayO o) l _ W (enters_of Tryz.func62 (by kernel_rfl) rfl) (hv.below hW) hl (fun o ho W2 hW2 => undoF_any o W2 (hL.next (hW.trans (hW2.mono hW.size))) (hsh o ho).1 (hsh o ho).2.1 (hsh o ho).2.2)
  have hS := Slots19_any l _ w hL hv hl
  have hsn := slots_len l
  have hfe : (fun o : OpV => (o.kind == 6 || (o.kind == 8 || (o.kind == 9 || o.kind == 10))) && mayO o) = fun o => undoK o.kind && mayO o := rfl
  rw [hfe] at HP
  generalize (l.all fun o => undoK o.kind && mayO o) = r at *
  generalize slotsO l = S at *
  generalize undoO l = s at *
  clear hsh hL hv hfe
  have hV : ∀ (b : Nat) (v2 : Value) (w2 : World), w2.ownsRow b 3 1 v2 S.length (intsO S) → Calls Tryz.prog 61 #[v2] w2 fun e w' => e = .returned (.tuple #[]) ∧ w'.ownsRow b 3 1 v2 S.length (intsO S.reverse) ∧ Below b w2 w' := fun b v2 w2 o2 => by
    obtain ⟨a2, c2, e, h⟩ := ints_row19 o2
    by_cases hp : 0 < S.length
    · obtain ⟨g, rfl, h1, h2, h3, h4, _⟩ := h hp
      subst e
      refine (Tryz.slices_Reverse_int g 0 c2 S w2 h4 (by omega)).mono ?_
      rintro e w' ⟨rfl, q, rfl⟩
      have := putRow_own19 (q := q) (M := S.reverse) o2 rfl (by simp)
      rw [List.length_reverse] at this
      exact ⟨rfl, this, putRow_below19 _ h1⟩
    · obtain rfl : S = [] := List.eq_nil_of_length_eq_zero (by omega)
      subst e
      refine (Tryz.slices_Reverse_int_empty a2 c2 w2).mono ?_
      rintro e w' ⟨rfl, rfl⟩
      exact ⟨rfl, o2, Below.refl _ _⟩
  go_enter Tryz.func36, Tryz.ntmps36
  go_wp2_with fail
  refine hS.mono ?_
  rintro e w1 ⟨v1, rfl, o1, b1⟩
  obtain ⟨a1, c1, rfl⟩ := own_sl19 o1
  go_wp2_with fail
  refine (hV _ _ _ o1).mono ?_
  rintro e w2 ⟨rfl, o2, b2⟩
  replace b2 := b1.trans b2
  clear o1 b1 hS hV
  cases r
  · have HN : Hid (s = false) := Lib.hid (HP.out.trans rfl)
    go_wp2_with fail
    refine (hA _ b2).mono ?_
    rintro e w3 ⟨rfl, b3⟩
    go_wp2
    go_ret
    exact ⟨ret_bool (by rw [HN.out]), b2.trans (b3.mono b2.size)⟩
  · have HN : Hid (s = adjB S.reverse) := Lib.hid (HP.out.trans (Bool.true_and _))
    go_wp2_with fail
    refine (hA _ b2).mono ?_
    rintro e w3 ⟨rfl, b3⟩
    have o3 := own_keep o2 b3
    replace b3 := b2.trans (b3.mono b2.size)
    have hR := rise19_any S.reverse (.slice a1 S.length c1) w.heap.size w3 (by rw [List.length_reverse]; exact o3) b3.size (by rw [List.length_reverse]; omega)
    clear o2 o3 b2 hA
    go_wp2_with fail
    refine hR.mono ?_
    rintro e w4 ⟨rfl, b4⟩
    go_wp2
    go_ret
    exact ⟨ret_bool (by rw [HN.out]), b3.trans b4⟩

end Go.Proofs.YtolbhjjcabiabaaGreatDoor
