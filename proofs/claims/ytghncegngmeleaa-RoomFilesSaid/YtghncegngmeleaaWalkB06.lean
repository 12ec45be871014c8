/- Walks: awake. -/
import Derived.Test.YtghncegngmeleaaWalkA06
import Derived.Test.YtghncegngmeleaaWalkI05
import Derived.Test.YtghncegngmeleaaWalkK05
namespace Go.Proofs.Ytghncegngmeleaa
open Go.RowKit

def abN : Nd := ⟨2, 1, 0, [97, 98], 0, .slice none 0 0, []⟩
theorem aw_set6 : finN abN ([rootN].filter (fun e => e.ino != abN.ino)) = [rootN, abN] := rfl
theorem aw_all6 (w : World) : EntsAll w [rootN, abN] := by
  intro x hx
  simp at hx
  rcases hx with rfl | rfl
  · exact Ents.nil_ w
  · exact Ents.nil_ w
theorem aw_in1 (v : Value) (w : World) (hv : Nds w v [rootN]) :
    Calls Try.prog 9 #[.agg (fsC 2 3 2 v)] w fun e w' => e = .returned (.int .i64 1) ∧ Below w.heap.size w w' := Inodes_any 2 3 2 [rootN] v w hv
theorem aw_in2 (v : Value) (w : World) (hv : Nds w v [rootN, abN]) :
    Calls Try.prog 9 #[.agg (fsC 2 3 2 v)] w fun e w' => e = .returned (.int .i64 2) ∧ Below w.heap.size w w' := Inodes_any 2 3 2 [rootN, abN] v w hv
theorem aw_by1 (v : Value) (w : World) (hv : Nds w v [rootN]) :
    Calls Try.prog 10 #[.agg (fsC 2 3 2 v)] w fun e w' => e = .returned (.int .i64 0) ∧ Below w.heap.size w w' := Bytes_any 2 3 2 [rootN] v w hv (by decide) (by decide)
theorem aw_by2 (v : Value) (w : World) (hv : Nds w v [rootN, abN]) :
    Calls Try.prog 10 #[.agg (fsC 2 3 2 v)] w fun e w' => e = .returned (.int .i64 2) ∧ Below w.heap.size w w' := Bytes_any 2 3 2 [rootN, abN] v w hv (by decide) (by decide)
theorem aw_fit (i b : Int) (r : Bool) (v : Value) (w : World) (hv : Nds w v [rootN]) (hi : -1099511627776 ≤ i ∧ i ≤ 1099511627776) (hb : -1099511627776 ≤ b ∧ b ≤ 1099511627776) (hr : fitsB 2 3 [rootN] i b = r) :
    Calls Try.prog 12 #[.agg (fsC 2 3 2 v), .int .i64 i, .int .i64 b] w fun e w' => e = .returned (.bool r) ∧ Below w.heap.size w w' := by
  subst hr
  exact Fits_any 2 3 2 i b [rootN] v w hv (by decide) (by decide) hi hb

set_option maxRecDepth 100000 in
set_option maxHeartbeats 4000000 in
theorem awake_any (w : World) : Calls Try.prog 6 #[] w fun e w' => e = .returned (.bool true) ∧ Below w.heap.size w w' := by
  go_enter Try.func6, Try.ntmps6
  go_wp2_with fail
  refine (refNewT_any 2 3 _).mono ?_
  rintro e w1 ⟨v1, rfl, n1, hb⟩
  obtain ⟨a1, c1, rfl⟩ := nds_slice n1
  obtain ⟨A1, hA⟩ : ∃ A1, w1.alloc (.cells (fsC 2 3 2 (.slice a1 1 c1)) 24) = A1 := ⟨_, rfl⟩
  have bF : Blk A1 w1.heap.size 24 (fsC 2 3 2 (.slice a1 1 c1)) := by rw [← hA]; exact Blk.new _ _ _
  have hS : Below w1.heap.size w1 A1 := by rw [← hA]; exact alloc_below _ _
  have hle1 := hb.size
  replace n1 := n1.below hS
  replace hb := hb.trans (hS.mono hb.size)
  clear hS
  obtain ⟨⟨p0, p1, p2, p3⟩, _⟩ := bF.four
  go_wp2_with fail
  clear hA p0 p1 p2 p3
  generalize w1.heap.size = BF at *
  refine (refSetP_any 2 3 2 [rootN] abN _ _ n1 (Ents.nil_ _) (by decide)).mono ?_
  rintro e w2 ⟨v2, rfl, hnew⟩
  rw [aw_set6] at hnew
  have hc := hnew.2
  have n2 := new_nds hnew (aw_all6 _)
  obtain ⟨a2, c2, rfl⟩ := nds_slice n2
  clear hnew
  obtain ⟨A2, hA⟩ : ∃ A2, w2.alloc (.cells (fsC 2 3 2 (.slice a2 2 c2)) 24) = A2 := ⟨_, rfl⟩
  have bG : Blk A2 w2.heap.size 24 (fsC 2 3 2 (.slice a2 2 c2)) := by rw [← hA]; exact Blk.new _ _ _
  have hS : Below w2.heap.size w2 A2 := by rw [← hA]; exact alloc_below _ _
  replace hc := hc.trans (hS.mono hc.size)
  replace n1 := n1.below hc
  replace n2 := n2.below hS
  replace bF := bF.next hc
  replace hb := hb.trans (hc.mono hb.size)
  clear hS hc
  go_upto_region 3 with fail
  clear hA
  generalize w2.heap.size = BG at *
  have HMK : ∀ W, Below A2.heap.size A2 W → (W.cell? ⟨BF, 0, none⟩ = some (.int .i64 2) ∧ W.cell? ⟨BF, 1, none⟩ = some (.int .i64 3) ∧ W.cell? ⟨BF, 2, none⟩ = some (.int .i64 2) ∧ W.cell? ⟨BF, 3, none⟩ = some (.slice a1 1 c1) ∧
      W.cell? ⟨BG, 0, none⟩ = some (.int .i64 2) ∧ W.cell? ⟨BG, 1, none⟩ = some (.int .i64 3) ∧ W.cell? ⟨BG, 2, none⟩ = some (.int .i64 2) ∧ W.cell? ⟨BG, 3, none⟩ = some (.slice a2 2 c2)) := by
    intro W h
    obtain ⟨⟨x0, x1, x2, x3⟩, _⟩ := (bF.next h).four
    obtain ⟨⟨y0, y1, y2, y3⟩, _⟩ := (bG.next h).four
    exact ⟨x0, x1, x2, x3, y0, y1, y2, y3⟩
  have hq := Below.refl A2.heap.size A2
  clear bF bG
  obtain ⟨p0, p1, p2, p3, q0, q1, q2, q3⟩ := HMK _ hq
  go_wp2_with fail; refine (aw_in1 _ _ (n1.below hq)).mono ?_; rintro e wz ⟨rfl, bz⟩
  replace hq := hq.trans (bz.mono hq.size)
  clear p0 p1 p2 p3 q0 q1 q2 q3 bz
  obtain ⟨p0, p1, p2, p3, q0, q1, q2, q3⟩ := HMK _ hq
  go_wp2_with fail; refine (aw_by1 _ _ (n1.below hq)).mono ?_; rintro e wz ⟨rfl, bz⟩
  replace hq := hq.trans (bz.mono hq.size)
  clear p0 p1 p2 p3 q0 q1 q2 q3 bz
  obtain ⟨p0, p1, p2, p3, q0, q1, q2, q3⟩ := HMK _ hq
  go_wp2_with fail; refine (aw_fit 1 3 true _ _ (n1.below hq) (by decide) (by decide) rfl).mono ?_; rintro e wz ⟨rfl, bz⟩
  replace hq := hq.trans (bz.mono hq.size)
  clear p0 p1 p2 p3 q0 q1 q2 q3 bz
  obtain ⟨p0, p1, p2, p3, q0, q1, q2, q3⟩ := HMK _ hq
  go_wp2_with fail; refine (aw_fit 2 0 false _ _ (n1.below hq) (by decide) (by decide) rfl).mono ?_; rintro e wz ⟨rfl, bz⟩
  replace hq := hq.trans (bz.mono hq.size)
  clear p0 p1 p2 p3 q0 q1 q2 q3 bz
  obtain ⟨p0, p1, p2, p3, q0, q1, q2, q3⟩ := HMK _ hq
  go_wp2_with fail; refine (aw_fit 0 4 false _ _ (n1.below hq) (by decide) (by decide) rfl).mono ?_; rintro e wz ⟨rfl, bz⟩
  replace hq := hq.trans (bz.mono hq.size)
  clear p0 p1 p2 p3 q0 q1 q2 q3 bz
  obtain ⟨p0, p1, p2, p3, q0, q1, q2, q3⟩ := HMK _ hq
  go_wp2_with fail; refine (aw_by2 _ _ (n2.below hq)).mono ?_; rintro e wz ⟨rfl, bz⟩
  replace hq := hq.trans (bz.mono hq.size)
  clear p0 p1 p2 p3 q0 q1 q2 q3 bz
  obtain ⟨p0, p1, p2, p3, q0, q1, q2, q3⟩ := HMK _ hq
  go_wp2_with fail; refine (aw_in2 _ _ (n2.below hq)).mono ?_; rintro e wz ⟨rfl, bz⟩
  replace hq := hq.trans (bz.mono hq.size)
  clear p0 p1 p2 p3 q0 q1 q2 q3 bz
  go_wp2
  go_ret
  exact ⟨rfl, hb.trans (hq.mono hb.size)⟩
end Go.Proofs.Ytghncegngmeleaa
