/- Walks: awake. -/
import Derived.Test.YtjdpkienljenhaaWalkF05
import Derived.Test.YtjdpkienljenhaaWalkH05
import Derived.Test.YtjdpkienljenhaaWalkI05
import Derived.Test.YtjdpkienljenhaaWalkK05
import Derived.Deep.RegionHeld3
namespace Go.Proofs.Ytjdpkienljenhaa
open Go.RowKit

def zN : Nd := ⟨2, 1, 0, [122], 0, .slice none 0 0, []⟩
theorem aw_set : setN [rootN] zN = [rootN, zN] := rfl
theorem aw_drop : dropN [rootN, zN] 2 = [rootN] := rfl
theorem aw_rise1 : riseP [rootN] := List.pairwise_singleton _ _
theorem aw_rise2 : riseP [rootN, zN] := by simp [riseP, rootN, zN]
theorem aw_get2 : getN [rootN, zN] 2 = zN ∧ hasN [rootN, zN] 2 = true := ⟨rfl, rfl⟩
theorem aw_get1 : getN [rootN] 2 = zeroN ∧ hasN [rootN] 2 = false := ⟨rfl, rfl⟩
theorem aw_same : tabB 10 100 2 [rootN] 10 100 2 [rootN] = true := tabB_refl _ _ _ _
theorem aw_differ : tabB 10 100 2 [rootN] 10 100 3 [rootN, zN] = false := by simp [tabB]
theorem aw_data {l : List Nd} (h : ∀ x ∈ l, x = rootN ∨ x = zN) : ∀ x ∈ l, x.data.length ≤ 281474976710656 := by
  intro x hx
  rcases h x hx with rfl | rfl <;> simp [rootN, zN]
theorem aw_all2 (w : World) : EntsAll w [rootN, zN] := by
  intro x hx
  simp at hx
  rcases hx with rfl | rfl
  · exact Ents.nil_ w
  · exact Ents.nil_ w
theorem new_nds {w w' : World} {L : List Nd} {v : Value} (h : NewNds w L v w') (he : EntsAll w' L) : Nds w' v L := own_nds h.1 he
theorem nds_slice {w : World} {v : Value} {l : List Nd} (h : Nds w v l) : ∃ a c, v = .slice a l.length c := by obtain ⟨a, c, h, _⟩ := h; exact ⟨a, c, h⟩
theorem alloc_below (w : World) (o : Obj) : Below w.heap.size w (w.alloc o) := (Below.refl _ w).alloc (Nat.le_refl _) _

theorem aw_ref (va vb : Value) (w : World) (ha : Nds w va [rootN]) (hb : Nds w vb [rootN]) :
    Calls Try.prog 11 #[.agg (fsC 10 100 2 va), .agg (fsC 10 100 2 vb)] w fun e w' => e = .returned (.bool true) ∧ Below w.heap.size w w' := by
  have := refTab_any 10 100 2 10 100 2 _ _ _ _ _ ha hb
  rwa [aw_same] at this
theorem aw_tab1 (va vb : Value) (w : World) (ha : Nds w va [rootN]) (hb : Nds w vb [rootN]) :
    Calls Try.prog 23 #[.agg (fsC 10 100 2 va), .agg (fsC 10 100 2 vb)] w fun e w' => e = .returned (.bool true) ∧ Below w.heap.size w w' := by
  have := Tab_any 10 100 2 10 100 2 _ _ _ _ _ ha hb
  rwa [aw_same] at this
theorem aw_tab2 (va vb : Value) (w : World) (ha : Nds w va [rootN]) (hb : Nds w vb [rootN, zN]) :
    Calls Try.prog 23 #[.agg (fsC 10 100 2 va), .agg (fsC 10 100 3 vb)] w fun e w' => e = .returned (.bool false) ∧ Below w.heap.size w w' := by
  have := Tab_any 10 100 2 10 100 3 _ _ _ _ _ ha hb
  rwa [aw_differ] at this
theorem aw_dropc (v : Value) (w : World) (hv : Nds w v [rootN, zN]) :
    Calls Try.prog 18 #[.agg (fsC 10 100 3 v), .int .i64 2] w fun e w' => ∃ a c, e = .returned (.agg (fsC 10 100 3 (.slice a 1 c))) ∧ Below w.heap.size w w' := by
  refine (DropN_any 10 100 3 2 _ _ _ hv aw_rise2 (by decide) (aw_data (fun x hx => by simpa using hx))).mono ?_
  rintro e w' ⟨y, rfl, hnew⟩
  rw [aw_drop] at hnew
  obtain ⟨a, c, rfl⟩ := own_slice hnew.1
  exact ⟨a, c, rfl, hnew.2⟩

set_option maxRecDepth 100000 in
set_option maxHeartbeats 4000000 in
theorem awake_any (w : World) : Calls Try.prog 9 #[] w fun e w' => e = .returned (.bool true) ∧ Below w.heap.size w w' := by
  go_enter Try.func9, Try.ntmps9
  go_wp2_with fail
  refine (New_ok 10 100 _ (by decide) (by decide) (by decide) (by decide)).mono ?_
  rintro e w1 ⟨v1, rfl, n1, hb⟩
  obtain ⟨a1, c1, rfl⟩ := nds_slice n1
  obtain ⟨A1, hA⟩ : ∃ A1, w1.alloc (.cells (fsC 10 100 2 (.slice a1 1 c1)) 25) = A1 := ⟨_, rfl⟩
  have bF : Blk A1 w1.heap.size 25 (fsC 10 100 2 (.slice a1 1 c1)) := by rw [← hA]; exact Blk.new _ _ _
  have hS : Below w1.heap.size w1 A1 := by rw [← hA]; exact alloc_below _ _
  have hle1 := hb.size
  replace n1 := n1.below hS
  replace hb := hb.trans (hS.mono hb.size)
  clear hS
  go_wp2_with fail
  clear hA
  generalize w1.heap.size = BF at *
  have hc := Below.refl A1.heap.size A1
  -- New(0, 100)
  refine (New_bad 0 100 _ (by decide)).mono ?_
  rintro e w2 ⟨rfl, b2⟩
  replace hc := b2.trans ((alloc_below w2 (.cells #[.int .i64 0, .int .i64 0, .int .i64 0, .slice none 0 0] 25)).mono b2.size)
  obtain ⟨⟨p0, p1, p2, p3⟩, _⟩ := (bF.next b2).four
  obtain ⟨⟨q0, q1, q2, q3⟩, _⟩ := (bF.next hc).four
  have ne1 : ¬ (BF = w2.heap.size) := by have := bF.lt; have := b2.size; omega
  have ne2 : ¬ (w2.heap.size = BF) := by omega
  go_wp2_with fail
  clear p0 p1 p2 p3 q0 q1 q2 q3 b2 ne1 ne2
  generalize w2.alloc (.cells #[.int .i64 0, .int .i64 0, .int .i64 0, .slice none 0 0] 25) = A2 at *
  -- Take(f)
  refine (TakeN_any 10 100 2 _ _ _ (n1.below hc) (by decide) (aw_data (fun x hx => .inl (by simpa using hx))) (by decide) (by decide)).mono ?_
  rintro e w3 ⟨v3, rfl, hnew⟩
  have n3 := new_nds hnew (root_all _)
  obtain ⟨a3, c3, rfl⟩ := nds_slice n3
  replace hc := hc.trans (hnew.2.mono hc.size)
  obtain ⟨A3, hA⟩ : ∃ A3, w3.alloc (.cells (fsC 10 100 3 (.slice a3 1 c3)) 25) = A3 := ⟨_, rfl⟩
  have bH : Blk A3 w3.heap.size 25 (fsC 10 100 3 (.slice a3 1 c3)) := by rw [← hA]; exact Blk.new _ _ _
  have hS3 : Below w3.heap.size w3 A3 := by rw [← hA]; exact alloc_below _ _
  have hle3 := hc.size
  replace n3 := n3.below hS3
  replace hc := hc.trans (hS3.mono hc.size)
  clear hnew hS3
  obtain ⟨⟨p0, p1, p2, p3⟩, _⟩ := bH.four
  go_wp2_with fail
  clear hA p0 p1 p2 p3
  generalize w3.heap.size = BH at *
  -- Set(h, ..)
  refine (SetN_any 10 100 3 [rootN] zN _ _ n3 (Ents.nil_ _) aw_rise1 (by decide) (aw_data (fun x hx => .inl (by simpa using hx))) (by decide)).mono ?_
  rintro e w4 ⟨v4, rfl, hnew⟩
  rw [aw_set] at hnew
  obtain ⟨a4, c4, rfl⟩ := nds_slice (new_nds hnew (aw_all2 _))
  have hltH := bH.lt
  replace hc := hc.trans (hnew.2.mono hc.size)
  replace bH := bH.next hnew.2
  obtain ⟨⟨p0, p1, p2, p3⟩, e0, e1, e2, e3⟩ := bH.four
  obtain ⟨A4, hA, bH4, hg4⟩ := bH.put4 (.int .i64 10) (.int .i64 100) (.int .i64 3) (.slice a4 2 c4)
  have n4 : Nds A4 (.slice a4 2 c4) [rootN, zN] := own_nds (hnew.1.kept hg4 (own_not hnew.1 hltH)) (aw_all2 _)
  replace hc := below_grown hc hg4 (Nat.le_refl _) hle3
  clear hnew bH hg4 n3
  obtain ⟨⟨r0, r1, r2, r3⟩, _⟩ := bH4.four
  go_wp2_with fail
  clear hA p0 p1 p2 p3 e0 e1 e2 e3 r0 r1 r2 r3
  -- Get(h, 2)
  have hG := GetN_any 10 100 3 2 [rootN, zN] _ _ n4 aw_rise2 (by decide) (aw_data (fun x hx => by simpa using hx))
  rw [aw_get2.1, aw_get2.2] at hG
  simp only [zN, ndC] at hG
  refine hG.mono ?_
  rintro e w5 ⟨rfl, b5⟩
  clear hG
  have bX : Blk (w5.alloc (.cells #[.int .i64 2, .int .i64 1, .int .i64 0, .string ⟨#[122]⟩, .int .i64 0, .slice none 0 0] 35)) w5.heap.size 35 (ndC zN) := Blk.new w5 35 (ndC zN)
  have hS5 : Below A4.heap.size A4 (w5.alloc (.cells #[.int .i64 2, .int .i64 1, .int .i64 0, .string ⟨#[122]⟩, .int .i64 0, .slice none 0 0] 35)) := b5.trans ((alloc_below _ _).mono b5.size)
  have hcw := hc.trans (b5.mono hc.size)
  replace hc := hc.trans (hS5.mono hc.size)
  replace n4 := n4.below hS5
  replace bH4 := bH4.next hS5
  obtain ⟨⟨q0, q1, q2, q3⟩, _⟩ := (bF.next hcw).four
  obtain ⟨⟨p0, p1, p2, p3⟩, _⟩ := (bF.next hc).four
  have ne1 : ¬ (BF = w5.heap.size) := by have := bF.lt; have := hcw.size; omega
  have ne2 : ¬ (w5.heap.size = BF) := by omega
  go_wp2_with fail
  clear p0 p1 p2 p3 q0 q1 q2 q3 b5 hS5 ne1 ne2 hcw
  generalize w5.alloc (.cells #[.int .i64 2, .int .i64 1, .int .i64 0, .string ⟨#[122]⟩, .int .i64 0, .slice none 0 0] 35) = A5 at *
  generalize w5.heap.size = BX at *
  -- Get(f, 2)
  have hG := GetN_any 10 100 2 2 [rootN] _ _ (n1.below hc) aw_rise1 (by decide) (aw_data (fun x hx => .inl (by simpa using hx)))
  rw [aw_get1.1, aw_get1.2] at hG
  simp only [zeroN, ndC] at hG
  refine hG.mono ?_
  rintro e w6 ⟨rfl, b6⟩
  clear hG
  have hS6 : Below A5.heap.size A5 (w6.alloc (.cells #[.int .i64 0, .int .i64 0, .int .i64 0, .string ⟨#[]⟩, .int .i64 0, .slice none 0 0] 35)) := b6.trans ((alloc_below w6 (.cells #[.int .i64 0, .int .i64 0, .int .i64 0, .string ⟨#[]⟩, .int .i64 0, .slice none 0 0] 35)).mono b6.size)
  replace hc := hc.trans (hS6.mono hc.size)
  replace n4 := n4.below hS6
  replace bH4 := bH4.next hS6
  replace bX := bX.next hS6
  go_upto_region 7 with fail
  generalize w6.alloc (.cells #[.int .i64 0, .int .i64 0, .int .i64 0, .string ⟨#[]⟩, .int .i64 0, .slice none 0 0] 35) = A6 at *
  have nF := n1.below hc
  have bF6 := bF.next hc
  replace hb := hb.trans (hc.mono hb.size)
  clear hc b6 hS6 bF n1
  have HMK : ∀ W, Below A6.heap.size A6 W → (W.cell? ⟨BF, 0, none⟩ = some (.int .i64 10) ∧ W.cell? ⟨BF, 1, none⟩ = some (.int .i64 100) ∧ W.cell? ⟨BF, 2, none⟩ = some (.int .i64 2) ∧ W.cell? ⟨BF, 3, none⟩ = some (.slice a1 1 c1) ∧
      W.cell? ⟨BH, 0, none⟩ = some (.int .i64 10) ∧ W.cell? ⟨BH, 1, none⟩ = some (.int .i64 100) ∧ W.cell? ⟨BH, 2, none⟩ = some (.int .i64 3) ∧ W.cell? ⟨BH, 3, none⟩ = some (.slice a4 2 c4) ∧ W.cell? ⟨BX, 3, none⟩ = some (.string ⟨#[122]⟩)) := by
    intro W h
    obtain ⟨⟨x0, x1, x2, x3⟩, _⟩ := (bF6.next h).four
    obtain ⟨⟨y0, y1, y2, y3⟩, _⟩ := (bH4.next h).four
    exact ⟨x0, x1, x2, x3, y0, y1, y2, y3, (bX.next h).six.1.2.2.2.1⟩
  have hq := (Below.refl A6.heap.size A6).drew
  have hfd := fun (a : Option Addr) (c : Nat) (W : World) => field3 10 100 3 (.slice a 1 c) W
  clear bF6 bH4 bX
  go_region_held3 (fun W => (W.cell? ⟨BF, 0, none⟩ = some (.int .i64 10) ∧ W.cell? ⟨BF, 1, none⟩ = some (.int .i64 100) ∧ W.cell? ⟨BF, 2, none⟩ = some (.int .i64 2) ∧ W.cell? ⟨BF, 3, none⟩ = some (.slice a1 1 c1) ∧
      W.cell? ⟨BH, 0, none⟩ = some (.int .i64 10) ∧ W.cell? ⟨BH, 1, none⟩ = some (.int .i64 100) ∧ W.cell? ⟨BH, 2, none⟩ = some (.int .i64 3) ∧ W.cell? ⟨BH, 3, none⟩ = some (.slice a4 2 c4) ∧ W.cell? ⟨BX, 3, none⟩ = some (.string ⟨#[122]⟩)))
    (exact HMK _ hq)
    (first
      | (go_at_call 12; refine (refNewT_any 10 100 _).mono ?_; rintro e wz ⟨vn, rfl, nN, bz⟩; obtain ⟨an, cn, rfl⟩ := nds_slice nN; have hq := hq.trans (bz.mono hq.size))
      | (go_at_call 11; refine (aw_ref _ _ _ (nF.below hq) nN).mono ?_; rintro e wz ⟨rfl, bz⟩; have hq := hq.trans (bz.mono hq.size))
      | (go_at_call 18; refine (aw_dropc _ _ (n4.below hq)).mono ?_; rintro e wz ⟨ad, cd, rfl, bz⟩; have hq := hq.trans (bz.mono hq.size))
      | (go_at_call_of 23 (Value.slice a4 2 c4); refine (aw_tab2 _ _ _ (nF.below hq) (n4.below hq)).mono ?_; rintro e wz ⟨rfl, bz⟩; have hq := hq.trans (bz.mono hq.size))
      | (go_at_call 23; refine (aw_tab1 _ _ _ (nF.below hq) (nF.below hq)).mono ?_; rintro e wz ⟨rfl, bz⟩; have hq := hq.trans (bz.mono hq.size)))
  all_goals go_wp2
  all_goals go_ret
  all_goals exact ⟨rfl, hb.trans (hq.mono hb.size)⟩
end Go.Proofs.Ytjdpkienljenhaa
