/- Texts put together: WalkO20, WalkP19. -/
import Derived.Test.YtolbhjjcabiabaaGreatDoorQMRd20
import Derived.Test.YtolbhjjcabiabaaGreatDoorQMWalkU20
import Derived.Test.YtolbhjjcabiabaaGreatDoorQWalkO19
import Derived.Deep.RegionHeld3
import Derived.Deep.CutRange
import Derived.BigQuiet
import Derived.Laws.StructEq
import Derived.Sort.Row
set_option linter.unusedVariables false
set_option linter.unusedSimpArgs false
/- Walks: the program's wordOf, lineOf, Line. -/
set_option linter.unusedVariables false
set_option linter.unusedSimpArgs false
namespace Go.Proofs.YtolbhjjcabiabaaGreatDoor
open Go.RowKit

theorem text_cell {o : OpV} {B : Nat} {W : World} {t : TypeId} (h : Blk W B t (opC o)) (c : UInt8) : W.cell? ⟨B, fieldC c, none⟩ = some (.string ⟨(textP o c).toArray⟩) := by
  obtain ⟨p0, p1, p2, p3, p4⟩ := h.five
  unfold fieldC textP
  by_cases h1 : c = 68
  · rw [if_pos h1, if_pos h1]; exact p4
  · by_cases h2 : c = 65
    · rw [if_neg h1, if_pos h2, if_neg h1, if_pos h2]; exact p2
    · rw [if_neg h1, if_neg h2, if_neg h1, if_neg h2]; exact p3
theorem text_len20 {o : OpV} {n : Nat} (h : o.a.length ≤ n ∧ o.b.length ≤ n ∧ o.data.length ≤ n) (c : UInt8) : (textP o c).length ≤ n := by
  unfold textP
  split
  · exact h.2.2
  · split
    · exact h.1
    · exact h.2.1
set_option maxRecDepth 100000 in
theorem wordOf_any (o : OpV) (c : UInt8) (w : World) (hL : LaidZ20 w) (hs : 0 ≤ o.slot ∧ o.slot ≤ 1073741824) (hl : o.a.length ≤ 100000 ∧ o.b.length ≤ 100000 ∧ o.data.length ≤ 100000) :
    Calls Tryz.prog 55 #[.agg (opC o), .int .u8 c.toNat] w fun e w' => e = .returned (.string ⟨(wordP o c).toArray⟩) ∧ Below w.heap.size w w' := by
  have bO := Blk.new w 23 (opC o)
  have hB := Joins.below_alloc1 w (.cells (opC o) 23)
  have HC := text_cell bO c
  have hT := text_len20 hl c
  by_cases h83 : c = 83
  · obtain ⟨k, s, a, b, d⟩ := o
    dsimp only at hs
    obtain ⟨n, rfl⟩ : ∃ n : Nat, s = n := ⟨s.toNat, by omega⟩
    obtain ⟨p0, p1, p2, p3, p4⟩ := bO.five
    dsimp only at p0 p1 p2 p3 p4
    have HN : Hid (wordP ⟨k, (n : Int), a, b, d⟩ c = decB n) := Lib.hid (by unfold wordP; rw [if_pos h83, Int.toNat_natCast])
    subst h83
    clear HC hT
    go_enter Tryz.func55, Tryz.ntmps55
    go_wp2_with fail
    refine (Itoa20_any n _ (hL.next hB) (by omega)).mono ?_
    rintro e w1 ⟨rfl, b1⟩
    go_wp2
    go_ret
    exact ⟨by rw [HN.out]; rfl, hB.trans (b1.mono hB.size)⟩
  · have HN : Hid (wordP o c = quoteB (textP o c)) := Lib.hid (if_neg h83)
    have hX := fun W hW => textOf_any c w.heap.size W hW
    have n83 : ((c.toNat : Int) == 83) = false := by rw [beq_eq_false_iff_ne]; intro e; exact h83 (UInt8.toNat_inj.1 (by simp; omega))
    have HE : ∃ cs, Blk (w.alloc (.cells (opC o) 23)) w.heap.size 23 cs := ⟨_, bO⟩
    generalize fieldC c = f at *
    generalize textP o c = t at *
    have HHC := Lib.hid HC
    obtain ⟨k, s, a, b, d⟩ := o
    clear hs hl h83 HC
    go_enter Tryz.func55, Tryz.ntmps55
    go_wp2_with fail
    refine (hX _ HE).mono ?_
    rintro e w1 ⟨rfl, rfl⟩
    have hc := HHC.out
    go_wp2_with fail
    refine (Quote_any t _ (by omega)).mono ?_
    rintro e w2 ⟨rfl, b2⟩
    go_wp2
    go_ret
    exact ⟨by rw [HN.out]; rfl, hB.trans (b2.mono hB.size)⟩
theorem map_take20 {α β : Type} (f : α → β) (x : β) (l : List α) (k : Nat) (h : k < l.length) : x :: (l.take (k + 1)).map f = (x :: (l.take k).map f) ++ [f l[k]] := by
  rw [List.take_succ_eq_append_getElem h, List.map_append]; rfl
set_option maxHeartbeats 4000000 in
set_option maxRecDepth 100000 in
theorem lineOf_any (o : OpV) (w : World) (hL : Laid20 w) (hk : 1 ≤ o.kind ∧ o.kind ≤ 10) (hs : 0 ≤ o.slot ∧ o.slot ≤ 1073741824) (hl : o.a.length ≤ 10000 ∧ o.b.length ≤ 10000 ∧ o.data.length ≤ 10000) :
    Calls Tryz.prog 32 #[.agg (opC o)] w fun e w' => e = .returned (.string ⟨(lineO o).toArray⟩) ∧ Below w.heap.size w w' := by
  have HW : Hid (lineO o = joinQ (wordK o.kind :: (tellsK o.kind).map (wordP o))) := Lib.hid ((if_pos hk).trans (by rw [line_words hk]))
  have HJ : Hid ((joinQ (wordK o.kind :: (tellsK o.kind).map (wordP o))).length ≤ 1000000) := Lib.hid (by
    rw [line_words hk]
    have h1 := joinQ_len (lineW o) 40002 (fun x hx => by
      rw [← line_words hk] at hx
      rcases List.mem_cons.1 hx with rfl | hx
      · rcases word_cases hk.1 hk.2 with h | h | h | h | h | h | h | h | h | h <;> rw [h] <;> decide
      · obtain ⟨c, _, rfl⟩ := List.mem_map.1 hx
        unfold wordP
        split
        · have := decF_len 20 20 o.slot.toNat (Nat.lt_of_le_of_lt (show o.slot.toNat ≤ 1073741824 by omega) (by decide)) (by decide)
          unfold decB; omega
        · have := quoteB_len (textP o c)
          have := text_len20 hl c
          omega)
    have h2 := lineW_len hk
    have h3 : (lineW o).length * 40003 ≤ 4 * 40003 := Nat.mul_le_mul_right _ h2.2
    omega)
  have hwo := fun c W hW => wordOf_any o c W hW hs ⟨by omega, by omega, by omega⟩
  have htl := tells_len o.kind
  obtain ⟨m, hm⟩ : ∃ m : Nat, o.kind = m := ⟨o.kind.toNat, by omega⟩
  have hT := hL.2.1.next (Joins.below_alloc1 w (.cells (opC o) 23))
  obtain ⟨t0, t1⟩ := hT.2 m (by omega)
  rw [← hm] at t0 t1
  generalize tellsK o.kind = ts at *
  generalize wordK o.kind = wk at *
  generalize hWP : wordP o = wp at *
  obtain ⟨ok, s, a, b, d⟩ := o
  dsimp only at hm hk
  subst hm
  have k1 : 1 ≤ m := by omega
  have k2 : m ≤ 10 := by omega
  have bO := (Blk.new w 23 (opC ⟨(m : Int), s, a, b, d⟩)).alloc (.cells #[.string ⟨wk.toArray⟩, .string ⟨ts.toArray⟩] 76)
  have bP := Blk.new (w.alloc (.cells (opC ⟨(m : Int), s, a, b, d⟩) 23)) 76 #[.string ⟨wk.toArray⟩, .string ⟨ts.toArray⟩]
  rw [World.size_alloc] at bP
  have hB := Joins.below_alloc2 w (.cells (opC ⟨(m : Int), s, a, b, d⟩) 23) (.cells #[.string ⟨wk.toArray⟩, .string ⟨ts.toArray⟩] 76)
  have q0 := ((Blk.new w 23 (opC ⟨(m : Int), s, a, b, d⟩)).five).1
  clear hT
  obtain ⟨is, hsi, hs0, hs1, hs2⟩ := info_parts Tryz.infoSQ
  go_enter Tryz.func32, Tryz.ntmps32
  go_wp2
  have hsz : ((w.alloc (.cells (opC ⟨(m : Int), s, a, b, d⟩) 23)).alloc (.cells #[.string ⟨wk.toArray⟩, .string ⟨ts.toArray⟩] 76)).heap.size = w.heap.size + 2 := by simp
  generalize hW2 : (w.alloc (.cells (opC ⟨(m : Int), s, a, b, d⟩) 23)).alloc (.cells #[.string ⟨wk.toArray⟩, .string ⟨ts.toArray⟩] 76) = W2 at *
  clear hW2 q0 t0 t1
  have hown0 : (W2.alloc (.cells #[.string ⟨wk.toArray⟩] 9)).ownsRow W2.heap.size 9 1 (.slice (some ⟨W2.heap.size, 0, none⟩) 1 1) 1 (strsV [wk]) := World.ownsRow_lit W2 #[.string ⟨wk.toArray⟩] 1 (Nat.le_refl _) (by decide) rfl
  have hB0 := Joins.below_alloc1 W2 (.cells #[.string ⟨wk.toArray⟩] 9)
  rw [hsz] at hown0
  go_loopw [4, 16] (fun s4 s16 wr => ∃ k : Nat, k ≤ ts.length ∧ s16 = .int .i64 (k : Int) ∧ wr.ownsRow (w.heap.size + 2) 9 1 s4 (k + 1) (strsV (wk :: (ts.take k).map wp)) ∧ Below W2.heap.size W2 wr) (fun _ s16 _ => ts.length - (intOf s16).toNat)
  case atStart => exact ⟨0, Nat.zero_le _, rfl, hown0, hB0⟩
  case round =>
    obtain ⟨k, hk, rfl, hown, hb⟩ := hrel
    by_cases hlt : k < ts.length
    · have HS := Lib.hid (map_take20 wp wk ts k hlt)
      have k3 : (0 : Int) ≤ (k : Int) := by omega
      have k4 : (k : Int) < (ts.length : Int) := by omega
      have bOr := bO.next hb
      have bPr := bP.next hb
      have hLr := (hL.next hB).next hb
      obtain ⟨p0, p1, p2, p3, p4⟩ := bOr.five
      dsimp only at p0 p1 p2 p3 p4
      obtain ⟨r0, r1⟩ := bPr.pair
      have hwk := hwo ts[k]
      go_upto_region 6 with fail
      have hq0 : Below wr.heap.size wr wr.drew := (Below.refl _ wr).drew
      have hszr := hb.size
      have HMK : ∀ W, Below (w.heap.size + 2) wr W → (W.cell? ⟨w.heap.size, 0, none⟩ = some (.int .i64 (m : Int)) ∧ W.cell? ⟨w.heap.size, 1, none⟩ = some (.int .i64 s) ∧ W.cell? ⟨w.heap.size, 2, none⟩ = some (.string ⟨a.toArray⟩) ∧ W.cell? ⟨w.heap.size, 3, none⟩ = some (.string ⟨b.toArray⟩) ∧ W.cell? ⟨w.heap.size, 4, none⟩ = some (.string ⟨d.toArray⟩) ∧ W.cell? ⟨w.heap.size + 1, 0, none⟩ = some (.string ⟨wk.toArray⟩) ∧ W.cell? ⟨w.heap.size + 1, 1, none⟩ = some (.string ⟨ts.toArray⟩)) := fun W h => by
        obtain ⟨z0, z1, z2, z3, z4⟩ := (bOr.below h (by omega)).five
        exact ⟨z0, z1, z2, z3, z4, (bPr.below h (by omega)).pair⟩
      (refine wp_region_held_drew (S := (fun W => W.cell? ⟨w.heap.size, 0, none⟩ = some (.int .i64 (m : Int)) ∧ W.cell? ⟨w.heap.size, 1, none⟩ = some (.int .i64 s) ∧ W.cell? ⟨w.heap.size, 2, none⟩ = some (.string ⟨a.toArray⟩) ∧ W.cell? ⟨w.heap.size, 3, none⟩ = some (.string ⟨b.toArray⟩) ∧ W.cell? ⟨w.heap.size, 4, none⟩ = some (.string ⟨d.toArray⟩) ∧ W.cell? ⟨w.heap.size + 1, 0, none⟩ = some (.string ⟨wk.toArray⟩) ∧ W.cell? ⟨w.heap.size + 1, 1, none⟩ = some (.string ⟨ts.toArray⟩))) (by kernel_rfl) (HMK _ (hq0.mono (by omega))) (fun hHeld => ?_))
      (refine heldTake 0 (some 19) (v := ?_) rfl rfl (by kernel_rfl) (by kernel_rfl) (by kernel_rfl) (fun _ _ _ h => h) (by rfl) ?_ (by assumption) ?_; rotate_left; (focus (intro w hSw; (try dsimp only at hSw); go_simp; try with_reducible rfl)); (try simp only [Act.put, List.setIfInBounds_toArray, List.set_cons_zero, List.set_cons_succ]))
      (refine heldTake 1 (some 20) (v := ?_) rfl rfl (by kernel_rfl) (by kernel_rfl) (by kernel_rfl) (fun _ _ _ h => h) (by rfl) ?_ (by assumption) ?_; rotate_left; (focus (intro w hSw; (try dsimp only at hSw); go_simp; try with_reducible rfl)); (try simp only [Act.put, List.setIfInBounds_toArray, List.set_cons_zero, List.set_cons_succ]))
      (refine heldTake 2 (some 21) (v := ?_) rfl rfl (by kernel_rfl) (by kernel_rfl) (by kernel_rfl) (fun _ _ _ h => h) (by rfl) ?_ (by assumption) ?_; rotate_left; (focus (intro w hSw; (try dsimp only at hSw); go_simp; try with_reducible rfl)); (try simp only [Act.put, List.setIfInBounds_toArray, List.set_cons_zero, List.set_cons_succ]))
      (refine heldTake 3 (some 22) (v := ?_) rfl rfl (by kernel_rfl) (by kernel_rfl) (by kernel_rfl) (fun _ _ _ h => h) (by rfl) ?_ (by assumption) ?_; rotate_left; (focus (intro w hSw; (try dsimp only at hSw); go_simp; try with_reducible rfl)); (try simp only [Act.put, List.setIfInBounds_toArray, List.set_cons_zero, List.set_cons_succ]))
      (refine heldTake 4 (some 23) (v := ?_) rfl rfl (by kernel_rfl) (by kernel_rfl) (by kernel_rfl) (fun _ _ _ h => h) (by rfl) ?_ (by assumption) ?_; rotate_left; (focus (intro w hSw; (try dsimp only at hSw); go_simp; try with_reducible rfl)); (try simp only [Act.put, List.setIfInBounds_toArray, List.set_cons_zero, List.set_cons_succ]))
      (refine heldTake 5 (some 24) (v := ?_) rfl rfl (by kernel_rfl) (by kernel_rfl) (by kernel_rfl) (fun _ _ _ h => h) (by rfl) ?_ (by assumption) ?_; rotate_left; (focus (intro w hSw; (try dsimp only at hSw); go_simp; try with_reducible rfl)); (try simp only [Act.put, List.setIfInBounds_toArray, List.set_cons_zero, List.set_cons_succ]))
      (refine wpAnyH_ready (rs := [6]) (by kernel_rfl) (by simp) ?_; refine AllReadyH.cons rfl (fun K hK => ?_) AllReadyH.nil; go_simp; go_at_call 55; refine (hwk _ ((hLr.next hq0).2.2)).mono ?_; rintro e w2 ⟨rfl, b2⟩; have hq2 := hq0.trans (b2.mono hq0.size); (try dsimp only); refine hK.out _ _ (HMK _ (hq2.mono (by omega))) (fun hHeld => ?_); clear hK K; (try simp only [Act.put, List.setIfInBounds_toArray, List.set_cons_zero, List.set_cons_succ]))
      have hq3 := hq2.alloc hq2.size (.cells #[.string ⟨(wp ts[k]).toArray⟩] 9)
      (refine wpAnyH_ready (rs := [7]) (by kernel_rfl) (by simp) ?_; refine AllReadyH.cons rfl (fun K hK => ?_) AllReadyH.nil; go_simp; skip; (try dsimp only); refine hK.out _ _ (HMK _ (hq3.mono (by omega))) (fun hHeld => ?_); clear hK K; (try simp only [Act.put, List.setIfInBounds_toArray, List.set_cons_zero, List.set_cons_succ]))
      have hown2 := (own_keep hown hq2).alloc (.cells #[.string ⟨(wp ts[k]).toArray⟩] 9)
      have hszq := hq2.size
      (refine wpAnyH_ready (rs := [8]) (by kernel_rfl) (by simp) ?_; refine AllReadyH.cons rfl (fun K hK => ?_) AllReadyH.nil; refine step_append_own rfl (.tmp 19) (.tmp 26) 49 9 rfl Tryz.underlying49 hsi hs0 hs1 hs2 rfl (by decide) (by decide) (w.heap.size + 2) ⟨w2.heap.size, 0, none⟩ 1 [.string ⟨(wp ts[k]).toArray⟩] rfl rfl hown2 rfl (cell_one_new _ _ _) (by simp [Value.oneCell']) (by omega) (by simp; omega) ?_; intro v4 w4 hown4 hb4)
      have hB4 : Below W2.heap.size W2 w4 := (hb.trans (hq3.mono hszr)).trans (hb4.mono (by omega))
      have hq4 : Below (w.heap.size + 2) wr w4 := (hq3.mono (by omega)).trans hb4
      (try dsimp only)
      refine hK.out _ _ (HMK _ hq4) (fun hHeld => ?_)
      clear hK K
      (try simp only [Act.put, List.setIfInBounds_toArray, List.set_cons_zero, List.set_cons_succ])
      (refine wpAnyH_ready (rs := [9]) (by kernel_rfl) (by simp) ?_; refine AllReadyH.cons rfl (fun K hK => ?_) AllReadyH.nil; go_simp; skip; (try dsimp only); refine hK.out _ _ (HMK _ hq4) (fun hHeld => ?_); clear hK K; (try simp only [Act.put, List.setIfInBounds_toArray, List.set_cons_zero, List.set_cons_succ]))
      refine wpAnyH_done (by kernel_rfl) ?_ _
      go_wp2
      go_roundw
      case rel => exact ⟨k + 1, by omega, by go_num, by rw [HS.out]; simpa [strsV] using hown4, hB4⟩
      case measure => simp [intOf]; omega
    · obtain rfl : k = ts.length := by omega
      rw [List.take_length] at hown
      have hst := own_strs hown
      go_wp2_with fail
      refine (JoinQ_any _ _ _ hst (by simp; omega) HJ.out).mono ?_
      rintro e w5 ⟨rfl, b5⟩
      go_wp2
      go_ret
      exact ⟨by rw [HW.out]; rfl, hB.trans ((hb.trans (b5.mono hb.size)).mono (by omega))⟩
theorem Line20_any (o : OpV) (w : World) (hL : Laid20 w) (hm : mayO o = true) (ho : shortO o) : Calls Tryz.prog 13 #[.agg (opC o)] w fun e w' => e = .returned (.string ⟨(lineO o).toArray⟩) ∧ Below w.heap.size w w' := by
  obtain ⟨h1, h2, h3⟩ := ho
  have hMy := fun W hW => May19_any o W hW (by omega) (by omega) (by omega)
  have hLi := fun W hW => lineOf_any o W hW (may_kind hm) (may_slot20 hm) ⟨by omega, by omega, by omega⟩
  rw [hm] at hMy
  generalize lineO o = L at *
  obtain ⟨k, s, a, b, d⟩ := o
  have bO := Blk.new w 23 (opC ⟨k, s, a, b, d⟩)
  have hB := Joins.below_alloc1 w (.cells (opC ⟨k, s, a, b, d⟩) 23)
  obtain ⟨p0, p1, p2, p3, p4⟩ := bO.five
  dsimp only at p0 p1 p2 p3 p4
  clear hm h1 h2 h3
  go_enter Tryz.func13, Tryz.ntmps13
  go_wp2_with fail
  refine (hMy _ (hL.next hB).1).mono ?_
  rintro e w1 ⟨rfl, b1⟩
  have bO1 := bO.next b1
  have hB1 := hB.trans (b1.mono hB.size)
  clear p0 p1 p2 p3 p4 hMy
  obtain ⟨p0, p1, p2, p3, p4⟩ := bO1.five
  dsimp only at p0 p1 p2 p3 p4
  go_wp2_with fail
  refine (hLi _ (hL.next hB1)).mono ?_
  rintro e w2 ⟨rfl, b2⟩
  go_wp2
  go_ret
  exact ⟨rfl, hB1.trans (b2.mono hB1.size)⟩
end Go.Proofs.YtolbhjjcabiabaaGreatDoor

/- Walks: slices.IsSorted, slices.Reverse, the program's rise and all; Plan, Undo, Same. -/
set_option linter.unusedVariables false
set_option linter.unusedSimpArgs false
namespace Go.Proofs.YtolbhjjcabiabaaGreatDoor
open Go.RowKit Go.Sort

/-- A row of numbers that is the call's own: where they lie. -/
theorem ints_row19 {w : World} {base : Nat} {e : TypeId} {v : Value} {L : List Int} (h : w.ownsRow base e 1 v L.length (intsO L)) : ∃ a c, v = .slice a L.length c ∧ (0 < L.length → ∃ g, a = some ⟨g, 0, none⟩ ∧ base ≤ g ∧ g < w.heap.size ∧ L.length ≤ c ∧ Holds (Value.int .i64) w g 0 L.toArray ∧ ∀ j (hj : j < L.length), w.cell? ⟨g, j, none⟩ = some (.int .i64 (L.getD j 0))) := by
  rcases h.2 with ⟨rfl, h2⟩ | ⟨g, cap, cur, rfl, hg, hh, hcap, _⟩
  · exact ⟨none, 0, by rw [h2], fun hp => absurd hp (by omega)⟩
  · have hc : ∀ j (hj : j < L.length), w.cell? ⟨g, j, none⟩ = some (.int .i64 (L.getD j 0)) := fun j hj => by
      have := h.cells (g := g) rfl j (.int .i64 (L.getD j 0)) (by simp [intsO, hj])
      rw [Addr.add_lit, Nat.zero_add] at this
      exact this
    refine ⟨some ⟨g, 0, none⟩, cap, rfl, fun _ => ⟨g, rfl, hg, (Array.getElem?_eq_some_iff.1 hh).1, hcap, fun j hj => ?_, hc⟩⟩
    have hj2 : j < L.length := by simpa using hj
    rw [Nat.zero_add]
    refine ⟨?_, by simp [World.frozen?, hh]⟩
    rw [hc j hj2, getElem!_pos L.toArray j (by simpa using hj2), List.getD_eq_getElem?_getD, List.getElem?_eq_getElem hj2]
    simp
theorem putRow_below19 {w : World} {n g q : Nat} (d : Array Int) (h : n ≤ g) : Below n w (putRow (Value.int .i64) (Sort.ahead w q) g 0 d) where
  os := rfl
  tape := rfl
  output := rfl
  size := by simp [putRow, mapBlock, Sort.ahead]
  block := fun k hk => by
    simp only [putRow, mapBlock, Sort.ahead]
    rw [Array.getElem?_modify, if_neg (by omega)]
theorem putRow_own19 {w : World} {base q : Nat} {e : TypeId} {v : Value} {L M : List Int} {g c : Nat} (h : w.ownsRow base e 1 v L.length (intsO L)) (hv : v = .slice (some ⟨g, 0, none⟩) L.length c) (hM : M.length = L.length) :
    (putRow (Value.int .i64) (Sort.ahead w q) g 0 M.toArray).ownsRow base e 1 v M.length (intsO M) := by
  rcases h.2 with ⟨rfl, _⟩ | ⟨g', cap, cur, rfl, hg, hh, hcap, hm, hs, ht⟩
  · cases hv
  · simp only [Value.slice.injEq, Option.some.injEq, Addr.mk.injEq, and_true, true_and] at hv
    obtain ⟨rfl, rfl⟩ := hv
    refine ⟨by simp [intsO], Or.inr ⟨g', cap, putCells (Value.int .i64) 0 M.toArray cur, by rw [hM], hg, ?_, by omega, hm, by simp [putCells, hs], ?_⟩⟩
    · simp only [putRow, mapBlock, Sort.ahead]
      rw [Array.getElem?_modify, if_pos rfl, hh]
      rfl
    · apply List.ext_getElem?
      intro i
      by_cases hi : i < M.length
      · have hic : i < cur.size := by rw [hs]; omega
        rw [List.getElem?_take, if_pos (by omega)]
        simp only [putCells, Array.getElem?_toList, Array.getElem?_mapIdx, Array.getElem?_eq_getElem hic, Option.map_some, intsO, List.getElem?_map, List.getElem?_eq_getElem hi]
        rw [if_pos ⟨Nat.zero_le _, by simpa using hi⟩, Nat.sub_zero, getElem!_pos M.toArray i (by simpa using hi)]
        simp
      · rw [List.getElem?_take, if_neg (by omega)]
        simp [intsO, List.getElem?_eq_none (show M.length ≤ i by omega)]

set_option maxHeartbeats 2000000 in
theorem IsSorted19_any (L : List Int) (a : Option Addr) (c : Nat) (w : World) (hl : L.length ≤ 1000) (hA : 0 < L.length → ∃ g, a = some ⟨g, 0, none⟩ ∧ g < w.heap.size ∧ ∀ j (hj : j < L.length), w.cell? ⟨g, j, none⟩ = some (.int .i64 (L.getD j 0))) :
    Calls Tryz.prog 84 #[.slice a L.length c] w fun e w' => e = .returned (.bool (sortB19 L)) ∧ Below w.heap.size w w' := by
  have HA := Lib.hid hA
  clear hA
  have hLs := fun (x y : Int) (W : World) => Tryz.cmp_Less_int2 x y W
  have HS := Lib.hid (sortB19_iff L)
  go_enter Tryz.func84, Tryz.ntmps84
  go_wp2
  go_loopw [3] (fun s wr => ∃ z : Int, s = .int .i64 z ∧ -1 ≤ z ∧ z ≤ (L.length : Int) - 1 ∧ Aside (∀ j : Nat, z ≤ (j : Int) → j + 1 < L.length → L.getD j 0 ≤ L.getD (j + 1) 0) ∧ Below w.heap.size w wr) (fun s _ => (intOf s).toNat)
  case atStart => exact ⟨(L.length : Int) - 1, rfl, by omega, by omega, fun j h1 h2 => absurd h1 (by omega), Below.refl _ _⟩
  case round =>
    obtain ⟨z, rfl, hz1, hz2, HT, hbw⟩ := hrel
    by_cases hlt : 0 < z
    · obtain ⟨m, rfl⟩ : ∃ m : Nat, z = m := ⟨z.toNat, by omega⟩
      obtain ⟨g, rfl, hg, hc⟩ := HA.out (by omega)
      have hm1 : 1 ≤ m := by omega
      have hmL : m < L.length := by omega
      have c1 : wr.cell? ⟨g, m, none⟩ = some (.int .i64 (L.getD m 0)) := (hbw.cell (p := ⟨g, m, none⟩) hg).trans (hc m hmL)
      have c0 : wr.cell? ⟨g, m - 1, none⟩ = some (.int .i64 (L.getD (m - 1) 0)) := (hbw.cell (p := ⟨g, m - 1, none⟩) hg).trans (hc (m - 1) (by omega))
      have k1 : (m : Int) < (L.length : Int) := by omega
      have k5 : IntKind.i64.wrap ((m : Int) - 1) = ((m - 1 : Nat) : Int) := by rw [IntKind.wrap_i64]; omega
      have k6 : ((m - 1 : Nat) : Int) < (L.length : Int) := by omega
      have hno : L.getD m 0 < L.getD (m - 1) 0 → sortB19 L = false := fun h => by
        rw [Bool.eq_false_iff]
        intro hb
        have := HS.out.1 hb (m - 1) (by omega)
        rw [show m - 1 + 1 = m by omega] at this
        omega
      have hyes : ¬ L.getD m 0 < L.getD (m - 1) 0 → ∀ j : Nat, (m : Int) - 1 ≤ (j : Int) → j + 1 < L.length → L.getD j 0 ≤ L.getD (j + 1) 0 := fun h j h1 h2 => by
        rcases Nat.lt_or_ge j m with h' | h'
        · obtain rfl : j = m - 1 := by omega
          rw [show m - 1 + 1 = m by omega]
          omega
        · exact HT.out j (by omega) h2
      have HNO := Lib.hid hno
      have HYE := Lib.hid hyes
      clear hc hno hyes
      generalize L.getD m 0 = x at *
      generalize L.getD (m - 1) 0 = y at *
      obtain ⟨q, hq⟩ : ∃ q, m - 1 = q := ⟨_, rfl⟩
      rw [hq] at c0 k5 k6
      have HQ := Lib.hid hq
      clear hq
      by_cases hxy : x < y
      · have HN := Lib.hid (HNO.out hxy)
        have hd := Lib.hid (decide_eq_true hxy)
        have hL2 := hLs x y
        rw [hd.out] at hL2
        clear hxy hLs
        go_wp2
        go_quiet ((go_at_call 103; exact Calls.quiet_of_same (hL2 _)))
        go_wp2
        go_ret
        exact ⟨ret_bool (by rw [HN.out]), below_drewN hbw _⟩
      · have HY := Lib.hid (HYE.out hxy)
        have hd := Lib.hid (decide_eq_false hxy)
        have hL2 := hLs x y
        rw [hd.out] at hL2
        clear hxy hLs
        go_wp2
        go_quiet ((go_at_call 103; exact Calls.quiet_of_same (hL2 _)))
        go_wp2
        go_roundw
        case rel => exact ⟨(q : Int), rfl, by have := HQ.out; omega, by have := HQ.out; omega, fun j h1 h2 => HY.out j (by have := HQ.out; omega) h2, below_drewN hbw _⟩
        case measure => have := HQ.out; simp only [intOf]; omega
    · have HN : Hid (sortB19 L = true) := Lib.hid (HS.out.2 fun j hj => HT.out j (by omega) hj)
      go_wp2
      go_ret
      exact ⟨ret_bool (by rw [HN.out]), hbw⟩

set_option maxHeartbeats 1000000 in
theorem rise19_any (L : List Int) (v : Value) (base : Nat) (w : World) (ho : w.ownsRow base 3 1 v L.length (intsO L)) (hb : base ≤ w.heap.size) (hl : L.length ≤ 1000) :
    Calls Tryz.prog 59 #[v] w fun e w' => e = .returned (.bool (adjB L)) ∧ Below base w w' := by
  obtain ⟨a, c, rfl, _⟩ := ints_row19 ho
  have hS : ∀ W, Below w.heap.size w W → Calls Tryz.prog 84 #[.slice a L.length c] W fun e w' => e = .returned (.bool (sortB19 L)) ∧ Below W.heap.size W w' := fun W hW => by
    obtain ⟨a', c', e, h⟩ := ints_row19 (own_keep ho hW)
    cases e
    exact IsSorted19_any L a c W hl fun hp => by
      obtain ⟨g, rfl, _, h2, _, _, h5⟩ := h hp
      exact ⟨g, rfl, h2, h5⟩
  have hC : ∀ W, Below w.heap.size w W → Calls Tryz.prog 85 #[.slice a L.length c] W fun e w' => ∃ n : Nat, ∃ d, e = .returned (.slice a n d) ∧ n = (Lib.compact L).length ∧ n ≤ L.length ∧ Below base W w' := fun W hW => by
    obtain ⟨a', c', e, h⟩ := ints_row19 (own_keep ho hW)
    cases e
    by_cases hp : 0 < L.length
    · obtain ⟨g, rfl, h1, h2, h3, h4, _⟩ := h hp
      refine (Tryz.slices_Compact_int g 0 c L W h4 (by omega) h3).mono ?_
      rintro e w' ⟨rfl, q, rfl⟩
      exact ⟨_, _, rfl, rfl, Lib.compact_length_le L, putRow_below19 _ h1⟩
    · obtain rfl : L = [] := List.eq_nil_of_length_eq_zero (by omega)
      refine (Tryz.slices_Compact_int_empty a c W).mono ?_
      rintro e w' ⟨rfl, rfl⟩
      exact ⟨0, _, rfl, rfl, Nat.le_refl _, Below.refl _ _⟩
  have HR := Lib.hid (rise_yes19 (L := L))
  have HRN := Lib.hid (rise_no19 (L := L))
  clear ho
  cases hs : sortB19 L
  · rw [hs] at hS
    have HN := Lib.hid (HRN.out hs)
    clear hs hC
    go_enter Tryz.func59, Tryz.ntmps59
    go_wp2_with fail
    refine (hS _ (Below.refl _ _)).mono ?_
    rintro e w1 ⟨rfl, b1⟩
    go_wp2
    go_ret
    exact ⟨ret_bool (by rw [HN.out]), b1.mono hb⟩
  · rw [hs] at hS
    have HN := Lib.hid (HR.out hs)
    clear hs
    generalize adjB L = r at *
    go_enter Tryz.func59, Tryz.ntmps59
    go_wp2_with fail
    refine (hS _ (Below.refl _ _)).mono ?_
    rintro e w1 ⟨rfl, b1⟩
    go_wp2_with fail
    refine (hC _ b1).mono ?_
    rintro e w2 ⟨n, d, rfl, hn, hnl, b2⟩
    have HNN := Lib.hid hn
    clear hn hS hC
    go_wp2
    go_ret
    exact ⟨ret_bool (by rw [HN.out, ← HNN.out]; rw [Bool.eq_iff_iff]; simp <;> omega), (b1.mono hb).trans b2⟩
end Go.Proofs.YtolbhjjcabiabaaGreatDoor
