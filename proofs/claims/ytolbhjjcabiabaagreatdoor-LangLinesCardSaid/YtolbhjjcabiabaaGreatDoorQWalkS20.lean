import Derived.Test.YtolbhjjcabiabaaGreatDoorQMRd20
import Derived.Test.YtolbhjjcabiabaaGreatDoorQWalkP20
import Derived.Test.YtolbhjjcabiabaaGreatDoorQWalkQ19
import Derived.Deep.Cut
import Derived.Deep.CutRange
set_option linter.unusedVariables false
set_option linter.unusedSimpArgs false
/- Walks: the program's (*reader).add. -/
set_option linter.unusedVariables false
set_option linter.unusedSimpArgs false
namespace Go.Proofs.YtolbhjjcabiabaaGreatDoor
open Go.RowKit

theorem ownsRow_le20 {w : World} {base base' size n : Nat} {e : TypeId} {v : Value} {xs : List Value} (h : w.ownsRow base e size v n xs) (hb : base' ≤ base) : w.ownsRow base' e size v n xs := Joins.ownsRow_le h hb
theorem laid_at20 {w0 : World} {Br Bm n1 : Nat} {st : RdS} {vo vl : Value} {W : World} (hL : Laid20 w0) (h : RdAt w0 Br Bm n1 st vo vl W) : Laid19 W := (hL.next h.base).1
theorem Blk.sevens20 {W : World} {B : Nat} {t : TypeId} {a b c d e f g : Value} (h : Blk W B t #[a, b, c, d, e, f, g]) :
    W.cell? ⟨B, 0, none⟩ = some a ∧ W.cell? ⟨B, 1, none⟩ = some b ∧ W.cell? ⟨B, 2, none⟩ = some c ∧ W.cell? ⟨B, 3, none⟩ = some d ∧ W.cell? ⟨B, 4, none⟩ = some e ∧ W.cell? ⟨B, 5, none⟩ = some f ∧ W.cell? ⟨B, 6, none⟩ = some g := h.sevens
set_option maxHeartbeats 8000000 in
set_option maxRecDepth 100000 in
theorem add_any (w0 : World) (Br Bm n1 : Nat) (hL : Laid20 w0) (h0 : w0.heap.size ≤ Br) (h1 : Br < n1) (st : RdS) (vo vl : Value) (o : OpV) (w : World) (hR : RdAt w0 Br Bm n1 st vo vl w) (hs : SmallR st)
    (ho : o.a.length ≤ 100000 ∧ o.b.length ≤ 100000 ∧ o.data.length ≤ 100000) (hop : st.ops.length ≤ 1000000000) :
    Calls Tryz.prog 70 #[.pointer (some ⟨Br, 0, none⟩), .agg (opC o)] w fun e w' => e = .returned (.bool (addR st o).isSome) ∧ (∀ st', addR st o = some st' → ∃ vo' vl', RdAt w0 Br Bm n1 st' vo' vl' w') ∧ Turn20 Br n1 w w' := by
  obtain ⟨i0, hi, hz0, hz1, hz2⟩ := info_parts infoO20
  have HA := Lib.hid (show ∀ p u : Bool, p = (st.plan && planO (st.last ++ [o])) → u = (st.undo && undoO (st.last ++ [o])) → addR st o = if (p || u) = true then some ⟨st.begun, st.many, st.ops ++ [o], if o.slot = 0 then st.last else [o], p, u⟩ else none from fun p u hp hu => by rw [hp, hu]; rfl)
  have hlast := hs.2.2
  have hnl : (st.last ++ [o]).length ≤ 1000 := by rw [List.length_append]; simp; omega
  have hns : ∀ x ∈ st.last ++ [o], x.a.length ≤ 100000 ∧ x.b.length ≤ 100000 ∧ x.data.length ≤ 100000 := fun x hx => by
    rcases List.mem_append.1 hx with hx | hx
    · exact hs.2.1 x hx
    · rw [List.mem_singleton.1 hx]; exact ho
  have hnm : ∀ x ∈ st.last ++ [o], x.a.length ≤ maxLen ∧ x.b.length ≤ maxLen ∧ x.data.length ≤ maxLen := fun x hx => by
    have := hns x hx
    unfold maxLen
    omega
  have hPl := fun v W hW (h : Ops W v (st.last ++ [o])) => Plan19_any (st.last ++ [o]) v W hW h hnl hns
  have hUn := fun v W hW (h : Ops W v (st.last ++ [o])) => Undo19_any (st.last ++ [o]) v W hW h hnl hns
  have hcl := fun W (h : W.ownsRow n1 23 5 vl st.last.length (opsV st.last)) => cloneO_any st.last vl n1 W h (by omega)
  have HOL := Lib.hid (show opsV (st.last ++ [o]) = opsV st.last ++ (opC o).toList by rw [opsV_append, opsV_one])
  have bO := Blk.new w 23 (opC o)
  have b1 := Joins.below_alloc1 w (.cells (opC o) 23)
  have hR1 := hR.next b1
  have hOx : Hid (∃ W, W = w) := Lib.hid ⟨w, rfl⟩
  have T1 : Turn20 Br n1 w (w.alloc (.cells (opC o) 23)) := Turn20.of_below b1 hR.lo
  have hwb : Br < w.heap.size := hR.blk.lt
  obtain ⟨ok, os, oa, ob, od⟩ := o
  obtain ⟨bg, mn, L, la, pl, un⟩ := st
  dsimp only at HA hlast hnl hnm hPl hUn hcl HOL hop
  obtain ⟨al, cl, rfl⟩ := own_slice20 hR.last
  obtain ⟨ao, co, rfl⟩ := own_slice20 hR.ops
  have hsz1 : (w.alloc (.cells (opC ⟨ok, os, oa, ob, od⟩) 23)).heap.size = w.heap.size + 1 := by simp
  have hlo := hR.lo
  have hvob := hR.ops.lt
  have hmb := hR.kinds.lt
  have hmne : Bm ≠ Br := fun e => by
    obtain ⟨n, D, ⟨es, clock, hb, _⟩, _⟩ := hR.kinds
    rw [e, show w.heap[Br]? = _ from hR.blk] at hb
    cases hb
  clear hs ho hR hns
  go_enter Tryz.func70, Tryz.ntmps70
  go_upto_region 1 with fail
  generalize hW1 : w.alloc (.cells (opC ⟨ok, os, oa, ob, od⟩) 23) = W1 at *
  clear hW1
  go_cut [5] from 6 to 63 (fun s5 wc => wc.ownsRow (w.heap.size + 1) 23 5 s5 (la.length + 1) (opsV (la ++ [⟨ok, os, oa, ob, od⟩])) ∧ Below (w.heap.size + 1) W1 wc)
  case first =>
    have hq0 := (Below.refl W1.heap.size W1).drew
    have HMK : ∀ W, Below (w.heap.size + 1) W1 W → (W.cell? ⟨Br, 4, none⟩ = some (.slice al la.length cl) ∧ W.cell? ⟨w.heap.size, 0, none⟩ = some (.int .i64 ok) ∧ W.cell? ⟨w.heap.size, 1, none⟩ = some (.int .i64 os) ∧ W.cell? ⟨w.heap.size, 2, none⟩ = some (.string ⟨oa.toArray⟩) ∧ W.cell? ⟨w.heap.size, 3, none⟩ = some (.string ⟨ob.toArray⟩) ∧ W.cell? ⟨w.heap.size, 4, none⟩ = some (.string ⟨od.toArray⟩)) := fun W h =>
      ⟨((hR1.blk.below h (by omega)).cell 4).trans rfl, (bO.below h (by omega)).five⟩
    have hone : ∀ u ∈ (#[.int .i64 ok, .int .i64 os, .string ⟨oa.toArray⟩, .string ⟨ob.toArray⟩, .string ⟨od.toArray⟩] : Array Value).toList, u.oneCell' = true := opC_one ⟨ok, os, oa, ob, od⟩
    clear hPl hUn HA
    (refine wp_region_held_drew (S := (fun W => W.cell? ⟨Br, 4, none⟩ = some (.slice al la.length cl) ∧ W.cell? ⟨w.heap.size, 0, none⟩ = some (.int .i64 ok) ∧ W.cell? ⟨w.heap.size, 1, none⟩ = some (.int .i64 os) ∧ W.cell? ⟨w.heap.size, 2, none⟩ = some (.string ⟨oa.toArray⟩) ∧ W.cell? ⟨w.heap.size, 3, none⟩ = some (.string ⟨ob.toArray⟩) ∧ W.cell? ⟨w.heap.size, 4, none⟩ = some (.string ⟨od.toArray⟩))) (by kernel_rfl) (HMK _ (hq0.mono (by omega))) (fun hHeld => ?_))
    (refine heldTake 0 (some 6) (v := ?_) rfl rfl (by kernel_rfl) (by kernel_rfl) (by kernel_rfl) (fun _ _ _ h => h) (by rfl) ?_ (by assumption) ?_; rotate_left; (focus (intro w hSw; (try dsimp only at hSw); go_simp; try with_reducible rfl)); (try simp only [Act.put, List.setIfInBounds_toArray, List.set_cons_zero, List.set_cons_succ]))
    (refine heldTake 1 (some 7) (v := ?_) rfl rfl (by kernel_rfl) (by kernel_rfl) (by kernel_rfl) (fun _ _ _ h => h) (by rfl) ?_ (by assumption) ?_; rotate_left; (focus (intro w hSw; (try dsimp only at hSw); go_simp; try with_reducible rfl)); (try simp only [Act.put, List.setIfInBounds_toArray, List.set_cons_zero, List.set_cons_succ]))
    (refine heldTake 2 (some 8) (v := ?_) rfl rfl (by kernel_rfl) (by kernel_rfl) (by kernel_rfl) (fun _ _ _ h => h) (by rfl) ?_ (by assumption) ?_; rotate_left; (focus (intro w hSw; (try dsimp only at hSw); go_simp; try with_reducible rfl)); (try simp only [Act.put, List.setIfInBounds_toArray, List.set_cons_zero, List.set_cons_succ]))
    (refine heldTake 3 (some 9) (v := ?_) rfl rfl (by kernel_rfl) (by kernel_rfl) (by kernel_rfl) (fun _ _ _ h => h) (by rfl) ?_ (by assumption) ?_; rotate_left; (focus (intro w hSw; (try dsimp only at hSw); go_simp; try with_reducible rfl)); (try simp only [Act.put, List.setIfInBounds_toArray, List.set_cons_zero, List.set_cons_succ]))
    (refine heldTake 5 (some 11) (v := ?_) rfl rfl (by kernel_rfl) (by kernel_rfl) (by kernel_rfl) (fun _ _ _ h => h) (by rfl) ?_ (by assumption) ?_; rotate_left; (focus (intro w hSw; (try dsimp only at hSw); go_simp; try with_reducible rfl)); (try simp only [Act.put, List.setIfInBounds_toArray, List.set_cons_zero, List.set_cons_succ]))
    (refine wpAnyH_ready (rs := [4, 6]) (by kernel_rfl) (by simp) ?_; refine AllReadyH.cons rfl (fun K hK => ?_) (AllReadyH.cons rfl (fun K hK => ?_) AllReadyH.nil))
    · (go_simp; go_at_call 90; refine (hcl _ (own_keep hR1.last hq0)).mono ?_; rintro e w2 ⟨y, rfl, hy, b2⟩; have hq2 := hq0.trans (b2.mono hq0.size); (try dsimp only); refine hK.out _ _ (HMK _ (hq2.mono (by omega))) (fun hHeld => ?_); clear hK K; (try simp only [Act.put, List.setIfInBounds_toArray, List.set_cons_zero, List.set_cons_succ]))
      have hq3 := hq2.alloc hq2.size (.cells #[.int .i64 ok, .int .i64 os, .string ⟨oa.toArray⟩, .string ⟨ob.toArray⟩, .string ⟨od.toArray⟩] 23)
      have hszq := hq2.size
      have hszd : (World.drew W1).heap.size = W1.heap.size := rfl
      have hy2 := (ownsRow_le20 hy (show w.heap.size + 1 ≤ _ by omega)).alloc (.cells #[.int .i64 ok, .int .i64 os, .string ⟨oa.toArray⟩, .string ⟨ob.toArray⟩, .string ⟨od.toArray⟩] 23)
      (refine wpAnyH_ready (rs := [6]) (by kernel_rfl) (by simp) ?_; refine AllReadyH.cons rfl (fun K hK => ?_) AllReadyH.nil; go_simp; skip; (try dsimp only); refine hK.out _ _ (HMK _ (hq3.mono (by omega))) (fun hHeld => ?_); clear hK K; (try simp only [Act.put, List.setIfInBounds_toArray, List.set_cons_zero, List.set_cons_succ]))
      (refine wpAnyH_ready (rs := [7]) (by kernel_rfl) (by simp) ?_; refine AllReadyH.cons rfl (fun K hK => ?_) AllReadyH.nil; refine step_append_own rfl (.tmp 10) (.tmp 12) 26 23 rfl Tryz.underlying26 hi hz0 hz1 hz2 rfl (by decide) (by decide) (w.heap.size + 1) ⟨w2.heap.size, 0, none⟩ 1 (opC ⟨ok, os, oa, ob, od⟩).toList rfl rfl hy2 rfl (cells_block w2 _ _) hone (by omega) (by simp; omega) ?_; intro v4 w4 hown4 hb4)
      have hq4 : Below (w.heap.size + 1) W1 w4 := (hq3.mono (by omega)).trans hb4
      (try dsimp only)
      refine hK.out _ _ (HMK _ hq4) (fun hHeld => ?_)
      clear hK K
      (try simp only [Act.put, List.setIfInBounds_toArray, List.set_cons_zero, List.set_cons_succ])
      (refine wpAnyH_ready (rs := [8]) (by kernel_rfl) (by simp) ?_; refine AllReadyH.cons rfl (fun K hK => ?_) AllReadyH.nil; go_simp; skip; (try dsimp only); refine hK.out _ _ (HMK _ hq4) (fun hHeld => ?_); clear hK K; (try simp only [Act.put, List.setIfInBounds_toArray, List.set_cons_zero, List.set_cons_succ]))
      refine wpAnyH_done (by kernel_rfl) ?_ _
      go_wp2_with fail
      go_meet
      exact ⟨by rw [HOL.out]; exact hown4, hq4⟩
    · have hq1 := hq0.alloc (Nat.le_refl _) (.cells #[.int .i64 ok, .int .i64 os, .string ⟨oa.toArray⟩, .string ⟨ob.toArray⟩, .string ⟨od.toArray⟩] 23)
      (go_simp; skip; (try dsimp only); refine hK.out _ _ (HMK _ (hq1.mono (by omega))) (fun hHeld => ?_); clear hK K; (try simp only [Act.put, List.setIfInBounds_toArray, List.set_cons_zero, List.set_cons_succ]))
      have hszd : (World.drew W1).heap.size = W1.heap.size := rfl
      (refine wpAnyH_ready (rs := [4]) (by kernel_rfl) (by simp) ?_; refine AllReadyH.cons rfl (fun K hK => ?_) AllReadyH.nil; go_simp; go_at_call 90; refine (hcl _ (own_keep hR1.last hq1)).mono ?_; rintro e w2 ⟨y, rfl, hy, b2⟩; have hq2 := hq1.trans (b2.mono hq1.size); (try dsimp only); refine hK.out _ _ (HMK _ (hq2.mono (by omega))) (fun hHeld => ?_); clear hK K; (try simp only [Act.put, List.setIfInBounds_toArray, List.set_cons_zero, List.set_cons_succ]))
      have hszq := hq2.size
      have hy2 := ownsRow_le20 hy (show w.heap.size + 1 ≤ _ by simp; omega)
      have hcb : ∀ j u, (opC ⟨ok, os, oa, ob, od⟩).toList[j]? = some u → w2.cell? ((⟨w.heap.size + 1, 0, none⟩ : Addr).add j) = some u := fun j u hu => by
        have h2 := cells_block W1.drew (opC ⟨ok, os, oa, ob, od⟩) 23 j u hu
        rw [show W1.drew.heap.size = w.heap.size + 1 from hsz1, Addr.add_lit] at h2
        rw [Addr.add_lit]
        exact (b2.cell (p := ⟨w.heap.size + 1, 0 + j, none⟩) (by simp; omega)).trans h2
      (refine wpAnyH_ready (rs := [7]) (by kernel_rfl) (by simp) ?_; refine AllReadyH.cons rfl (fun K hK => ?_) AllReadyH.nil; refine step_append_own rfl (.tmp 10) (.tmp 12) 26 23 rfl Tryz.underlying26 hi hz0 hz1 hz2 rfl (by decide) (by decide) (w.heap.size + 1) ⟨w.heap.size + 1, 0, none⟩ 1 (opC ⟨ok, os, oa, ob, od⟩).toList rfl rfl hy2 rfl hcb hone (by omega) (by omega) ?_; intro v4 w4 hown4 hb4)
      have hq4 : Below (w.heap.size + 1) W1 w4 := (hq2.mono (by omega)).trans hb4
      (try dsimp only)
      refine hK.out _ _ (HMK _ hq4) (fun hHeld => ?_)
      clear hK K
      (try simp only [Act.put, List.setIfInBounds_toArray, List.set_cons_zero, List.set_cons_succ])
      (refine wpAnyH_ready (rs := [8]) (by kernel_rfl) (by simp) ?_; refine AllReadyH.cons rfl (fun K hK => ?_) AllReadyH.nil; go_simp; skip; (try dsimp only); refine hK.out _ _ (HMK _ hq4) (fun hHeld => ?_); clear hK K; (try simp only [Act.put, List.setIfInBounds_toArray, List.set_cons_zero, List.set_cons_succ]))
      refine wpAnyH_done (by kernel_rfl) ?_ _
      go_wp2_with fail
      go_meet
      exact ⟨by rw [HOL.out]; exact hown4, hq4⟩
  case rest =>
    obtain ⟨hnear, hbn⟩ := hcut
    have hbn1 : Below W1.heap.size W1 wc := by rw [hsz1]; exact hbn
    have hRc := hR1.next hbn1
    have bOc := bO.next hbn1
    have Tc := T1.trans (Turn20.of_below hbn1 (by omega))
    obtain ⟨an, cn, rfl⟩ := own_slice20 hnear
    have hszc := hbn1.size
    have hnk : ∀ (W : World), wc.grownBy W (some Br) → W.ownsRow (w.heap.size + 1) 23 5 (.slice an (la.length + 1) cn) (la.length + 1) (opsV (la ++ [⟨ok, os, oa, ob, od⟩])) := fun W hg => hnear.kept hg (own_far20 hnear (by omega))
    have hok : ∀ (W : World), wc.grownBy W (some Br) → Blk W w.heap.size 23 (opC ⟨ok, os, oa, ob, od⟩) := fun W hg => bOc.kept hg (by simp; omega)
    have hOpsOf : ∀ (W : World), W.ownsRow (w.heap.size + 1) 23 5 (.slice an (la.length + 1) cn) (la.length + 1) (opsV (la ++ [⟨ok, os, oa, ob, od⟩])) → Ops W (.slice an (la.length + 1) cn) (la ++ [⟨ok, os, oa, ob, od⟩]) := fun W h => own_ops h hnm
    have HOO := Lib.hid hOpsOf
    have HNK := Lib.hid hnk
    have HOK := Lib.hid hok
    clear hOpsOf hnk hok hbn hbn1 bO hR1 T1 hcl b1 hsz1 HOL hOx hnm hnl
    go_upto_region 2 with fail
    go_cut [4] from 14 to 63 (fun s4 wd => s4 = .bool false ∧ RdAt w0 Br Bm n1 ⟨bg, mn, L, la, pl && planO (la ++ [⟨ok, os, oa, ob, od⟩]), un⟩ (.slice ao L.length co) (.slice al la.length cl) wd ∧ wc.grownBy wd (some Br) ∧ Turn20 Br n1 w wd)
    case first =>
      have c5 := hRc.blk.sevens.2.2.2.2.2.1
      have f5 := hRc.blk.frozen 5
      dsimp only at c5
      cases pl
      · have hRd := hRc.put h0 h1 hmne 5 (.bool false) ⟨bg, mn, L, la, false && planO (la ++ [⟨ok, os, oa, ob, od⟩]), un⟩ rfl rfl rfl
        have hg := grownBy_set wc Br 5 (.bool false)
        have hT := Tc.trans (Turn20.set 5 (.bool false) hRc.blk hRc.lo)
        go_wp2_with fail
        go_meet
        exact ⟨rfl, hRd, hg, hT⟩
      · have hPn := hPl _ wc (laid_at20 hL hRc) (HOO.out wc hnear)
        go_wp2_with fail
        refine hPn.mono ?_
        rintro e w5 ⟨rfl, b5⟩
        have hR5 := hRc.next b5
        have c5' := hR5.blk.sevens.2.2.2.2.2.1
        have f5' := hR5.blk.frozen 5
        have hRd := hR5.put h0 h1 hmne 5 (.bool (planO (la ++ [⟨ok, os, oa, ob, od⟩]))) ⟨bg, mn, L, la, true && planO (la ++ [⟨ok, os, oa, ob, od⟩]), un⟩ rfl rfl rfl
        have hg := (grown_of20 b5 (some Br)).trans (grownBy_set w5 Br 5 (.bool (planO (la ++ [⟨ok, os, oa, ob, od⟩]))))
        have hT := (Tc.trans (Turn20.of_below b5 hRc.lo)).trans (Turn20.set 5 (.bool (planO (la ++ [⟨ok, os, oa, ob, od⟩]))) hR5.blk hR5.lo)
        clear c5 f5 hPn hPl hUn
        generalize planO (la ++ [⟨ok, os, oa, ob, od⟩]) = pb at *
        go_wp2_with fail
        go_meet
        exact ⟨rfl, hRd, hg, hT⟩
    case rest =>
    obtain ⟨rfl, hRd, hgd, hTd⟩ := hcut
    generalize hpb : (pl && planO (la ++ [⟨ok, os, oa, ob, od⟩])) = pb at *
    clear hRc hPl Tc
    have hnear2 := HNK.out _ hgd
    have bO2 := HOK.out _ hgd
    clear hnear bOc hszc
    have hlo2 := hRd.lo
    go_upto_region 3 with fail
    go_cut [4] from 25 to 63 (fun s4 wd => s4 = .bool false ∧ RdAt w0 Br Bm n1 ⟨bg, mn, L, la, pb, un && undoO (la ++ [⟨ok, os, oa, ob, od⟩])⟩ (.slice ao L.length co) (.slice al la.length cl) wd ∧ Blk wd w.heap.size 23 (opC ⟨ok, os, oa, ob, od⟩) ∧ Turn20 Br n1 w wd)
    case first =>
      have c6 := hRd.blk.sevens.2.2.2.2.2.2
      have f6 := hRd.blk.frozen 6
      dsimp only at c6
      cases un
      · have hRe := hRd.put h0 h1 hmne 6 (.bool false) ⟨bg, mn, L, la, pb, false && undoO (la ++ [⟨ok, os, oa, ob, od⟩])⟩ rfl rfl rfl
        have hOe := bO2.other (i := 6) (show w.heap.size ≠ Br by omega) (.bool false)
        have hT := hTd.trans (Turn20.set 6 (.bool false) hRd.blk hRd.lo)
        go_wp2_with fail
        go_meet
        exact ⟨rfl, hRe, hOe, hT⟩
      · have hPn := hUn _ wc (laid_at20 hL hRd) (HOO.out wc hnear2)
        go_wp2_with fail
        refine hPn.mono ?_
        rintro e w5 ⟨rfl, b5⟩
        have hR5 := hRd.next b5
        have c6' := hR5.blk.sevens.2.2.2.2.2.2
        have f6' := hR5.blk.frozen 6
        have hRe := hR5.put h0 h1 hmne 6 (.bool (undoO (la ++ [⟨ok, os, oa, ob, od⟩]))) ⟨bg, mn, L, la, pb, true && undoO (la ++ [⟨ok, os, oa, ob, od⟩])⟩ rfl rfl rfl
        have hOe := (bO2.next b5).other (i := 6) (show w.heap.size ≠ Br by omega) (.bool (undoO (la ++ [⟨ok, os, oa, ob, od⟩])))
        have hT := (hTd.trans (Turn20.of_below b5 hRd.lo)).trans (Turn20.set 6 (.bool (undoO (la ++ [⟨ok, os, oa, ob, od⟩]))) hR5.blk hR5.lo)
        clear c6 f6 hPn hUn
        generalize undoO (la ++ [⟨ok, os, oa, ob, od⟩]) = ub at *
        go_wp2_with fail
        go_meet
        exact ⟨rfl, hRe, hOe, hT⟩
    case rest =>
    obtain ⟨rfl, hRe, hOe, hTe⟩ := hcut
    generalize hub : (un && undoO (la ++ [⟨ok, os, oa, ob, od⟩])) = ub at *
    clear hRd hUn hTd hnear2 bO2 HNK HOK HOO hgd hlo2
    have HAD := Lib.hid (HA.out pb ub rfl rfl)
    clear HA hpb hub
    obtain ⟨q0, q1, q2, q3, q4⟩ := hOe.five
    dsimp only at q0 q1 q2 q3 q4 HAD
    go_upto_if 38 with (fail)
    go_cut [4, 38] from 39 to 63 (fun s4 s38 wd => s4 = .bool false ∧ ∃ al2 cl2, RdAt w0 Br Bm n1 ⟨bg, mn, L, if os = 0 then la else [⟨ok, os, oa, ob, od⟩], pb, ub⟩ (.slice ao L.length co) (.slice al2 (if os = 0 then la else [⟨ok, os, oa, ob, od⟩]).length cl2) wd ∧ Blk wd w.heap.size 23 (opC ⟨ok, os, oa, ob, od⟩) ∧ Turn20 Br n1 w wd)
    case first =>
      by_cases hos : os = 0
      · have hos2 : (os != 0) = false := by rw [bne_eq_false_iff_eq]; exact hos
        have HIF : Hid ((if os = 0 then la else [(⟨ok, os, oa, ob, od⟩ : OpV)]) = la) := Lib.hid (if_pos hos)
        clear hos
        go_wp2_with fail
        go_meet
        exact ⟨rfl, al, cl, by rw [HIF.out]; exact hRe, hOe, hTe⟩
      · have hos2 : (os != 0) = true := by rw [bne_iff_ne]; exact hos
        have HIF : Hid ((if os = 0 then la else [(⟨ok, os, oa, ob, od⟩ : OpV)]) = [⟨ok, os, oa, ob, od⟩]) := Lib.hid (if_neg hos)
        have bx := Joins.below_alloc1 wc (.cells #[.int .i64 ok, .int .i64 os, .string ⟨oa.toArray⟩, .string ⟨ob.toArray⟩, .string ⟨od.toArray⟩] 23)
        have hRx := hRe.next bx
        have hOx := hOe.next bx
        have hlx := hRe.lo
        have hrow : (wc.alloc (.cells #[.int .i64 ok, .int .i64 os, .string ⟨oa.toArray⟩, .string ⟨ob.toArray⟩, .string ⟨od.toArray⟩] 23)).ownsRow n1 23 5 (.slice (some ⟨wc.heap.size, 0, none⟩) 1 1) 1 (opsV [⟨ok, os, oa, ob, od⟩]) := ownsRow_le20 (World.ownsRow_lit wc #[.int .i64 ok, .int .i64 os, .string ⟨oa.toArray⟩, .string ⟨ob.toArray⟩, .string ⟨od.toArray⟩] 1 (Nat.le_refl _) (by decide) rfl) hlx
        have f4 := hRx.blk.frozen 4
        have c4 := hRx.blk.sevens.2.2.2.2.1
        have hg := grownBy_set (wc.alloc (.cells #[.int .i64 ok, .int .i64 os, .string ⟨oa.toArray⟩, .string ⟨ob.toArray⟩, .string ⟨od.toArray⟩] 23)) Br 4 (.slice (some ⟨wc.heap.size, 0, none⟩) 1 1)
        have hTx := (hTe.trans (Turn20.of_below bx hlx)).trans (Turn20.set 4 (.slice (some ⟨wc.heap.size, 0, none⟩) 1 1) hRx.blk hRx.lo)
        have hRy : RdAt w0 Br Bm n1 ⟨bg, mn, L, [⟨ok, os, oa, ob, od⟩], pb, ub⟩ (.slice ao L.length co) (.slice (some ⟨wc.heap.size, 0, none⟩) 1 1) ((wc.alloc (.cells #[.int .i64 ok, .int .i64 os, .string ⟨oa.toArray⟩, .string ⟨ob.toArray⟩, .string ⟨od.toArray⟩] 23)).setCell ⟨Br, 4, none⟩ (.slice (some ⟨wc.heap.size, 0, none⟩) 1 1)) :=
          ⟨hRx.blk.set 4 _, hRx.ops.kept hg (own_far20 hRx.ops h1), hrow.kept hg (own_far20 hrow h1), fun g hg2 e => by
            have h5 := (hRe.ops.lt g hg2).2
            simp only [Value.ownBlock, Option.some.injEq] at e
            omega, hRx.kinds.kept hg (fun e => hmne (by simpa using e)), hRx.base.setCell (p := ⟨Br, 4, none⟩) h0 _, Nat.le_trans hRx.lo hg.size⟩
        have hOy := hOx.other (i := 4) (show w.heap.size ≠ Br by omega) (.slice (some ⟨wc.heap.size, 0, none⟩) 1 1)
        clear hos hRx hOx hrow hg bx
        have HRY := Lib.hid hRy
        have HOY := Lib.hid hOy
        have HTX := Lib.hid hTx
        clear hRy hOy hTx
        go_wp2_with fail
        go_meet
        exact ⟨rfl, some ⟨wc.heap.size, 0, none⟩, 1, by rw [HIF.out]; exact HRY.out, HOY.out, HTX.out⟩
    case rest =>
    obtain ⟨rfl, al2, cl2, hRf, hOf, hTf⟩ := hcut
    generalize (if os = 0 then la else [(⟨ok, os, oa, ob, od⟩ : OpV)]) = la2 at *
    clear hRe hOe hTe q0 q1 q2 q3 q4
    have hLL : L.length ≤ 1000000000 := hop
    go_upto_region 6 with fail
    go_cut [4] from 44 to 63 (fun s4 wd => s4 = .bool false ∧ ∃ vo4, RdAt w0 Br Bm n1 ⟨bg, mn, L ++ [⟨ok, os, oa, ob, od⟩], la2, pb, ub⟩ vo4 (.slice al2 la2.length cl2) wd ∧ Turn20 Br n1 w wd)
    case first =>
      have hq0 := (Below.refl wc.heap.size wc).drew
      have hone : ∀ u ∈ (#[.int .i64 ok, .int .i64 os, .string ⟨oa.toArray⟩, .string ⟨ob.toArray⟩, .string ⟨od.toArray⟩] : Array Value).toList, u.oneCell' = true := opC_one ⟨ok, os, oa, ob, od⟩
      have hown := (own_keep hRf.ops hq0).alloc (.cells #[.int .i64 ok, .int .i64 os, .string ⟨oa.toArray⟩, .string ⟨ob.toArray⟩, .string ⟨od.toArray⟩] 23)
      have hlo6 := hRf.lo
      have hszc := hTf.size
      have c3 := (hRf.blk.next hq0).sevens.2.2.2.1
      have c3a := ((hRf.blk.next hq0).alloc (.cells #[.int .i64 ok, .int .i64 os, .string ⟨oa.toArray⟩, .string ⟨ob.toArray⟩, .string ⟨od.toArray⟩] 23)).sevens.2.2.2.1
      have c3b := (hRf.blk.alloc (.cells #[.int .i64 ok, .int .i64 os, .string ⟨oa.toArray⟩, .string ⟨ob.toArray⟩, .string ⟨od.toArray⟩] 23)).sevens.2.2.2.1
      dsimp only at c3 c3a c3b hown
      have hKd := (hOf.next hq0).five
      have hKa := ((hOf.next hq0).alloc (.cells #[.int .i64 ok, .int .i64 os, .string ⟨oa.toArray⟩, .string ⟨ob.toArray⟩, .string ⟨od.toArray⟩] 23)).five
      (refine wp_region_held_drew (S := (fun W => W.cell? ⟨w.heap.size, 0, none⟩ = some (.int .i64 ok) ∧ W.cell? ⟨w.heap.size, 1, none⟩ = some (.int .i64 os) ∧ W.cell? ⟨w.heap.size, 2, none⟩ = some (.string ⟨oa.toArray⟩) ∧ W.cell? ⟨w.heap.size, 3, none⟩ = some (.string ⟨ob.toArray⟩) ∧ W.cell? ⟨w.heap.size, 4, none⟩ = some (.string ⟨od.toArray⟩))) (by kernel_rfl) (hKd) (fun hHeld => ?_))
      (refine heldTake 0 (some 44) (v := ?_) rfl rfl (by kernel_rfl) (by kernel_rfl) (by kernel_rfl) (fun _ _ _ h => h) (by rfl) ?_ (by assumption) ?_; rotate_left; (focus (intro w hSw; (try dsimp only at hSw); go_simp; try with_reducible rfl)); (try simp only [Act.put, List.setIfInBounds_toArray, List.set_cons_zero, List.set_cons_succ]))
      (refine heldTake 1 (some 45) (v := ?_) rfl rfl (by kernel_rfl) (by kernel_rfl) (by kernel_rfl) (fun _ _ _ h => h) (by rfl) ?_ (by assumption) ?_; rotate_left; (focus (intro w hSw; (try dsimp only at hSw); go_simp; try with_reducible rfl)); (try simp only [Act.put, List.setIfInBounds_toArray, List.set_cons_zero, List.set_cons_succ]))
      (refine heldTake 2 (some 46) (v := ?_) rfl rfl (by kernel_rfl) (by kernel_rfl) (by kernel_rfl) (fun _ _ _ h => h) (by rfl) ?_ (by assumption) ?_; rotate_left; (focus (intro w hSw; (try dsimp only at hSw); go_simp; try with_reducible rfl)); (try simp only [Act.put, List.setIfInBounds_toArray, List.set_cons_zero, List.set_cons_succ]))
      (refine heldTake 3 (some 47) (v := ?_) rfl rfl (by kernel_rfl) (by kernel_rfl) (by kernel_rfl) (fun _ _ _ h => h) (by rfl) ?_ (by assumption) ?_; rotate_left; (focus (intro w hSw; (try dsimp only at hSw); go_simp; try with_reducible rfl)); (try simp only [Act.put, List.setIfInBounds_toArray, List.set_cons_zero, List.set_cons_succ]))
      (refine heldTake 5 (some 49) (v := ?_) rfl rfl (by kernel_rfl) (by kernel_rfl) (by kernel_rfl) (fun _ _ _ h => h) (by rfl) ?_ (by assumption) ?_; rotate_left; (focus (intro w hSw; (try dsimp only at hSw); go_simp; try with_reducible rfl)); (try simp only [Act.put, List.setIfInBounds_toArray, List.set_cons_zero, List.set_cons_succ]))
      (refine wpAnyH_ready (rs := [4, 6]) (by kernel_rfl) (by simp) ?_; refine AllReadyH.cons rfl (fun K hK => ?_) (AllReadyH.cons rfl (fun K hK => ?_) AllReadyH.nil))
      · (go_simp; skip; (try dsimp only); refine hK.out _ _ (hKd) (fun hHeld => ?_); clear hK K; (try simp only [Act.put, List.setIfInBounds_toArray, List.set_cons_zero, List.set_cons_succ]))
        (refine wpAnyH_ready (rs := [6]) (by kernel_rfl) (by simp) ?_; refine AllReadyH.cons rfl (fun K hK => ?_) AllReadyH.nil; go_simp; skip; (try dsimp only); refine hK.out _ _ (hKa) (fun hHeld => ?_); clear hK K; (try simp only [Act.put, List.setIfInBounds_toArray, List.set_cons_zero, List.set_cons_succ]))
        (refine wpAnyH_ready (rs := [7]) (by kernel_rfl) (by simp) ?_; refine AllReadyH.cons rfl (fun K hK => ?_) AllReadyH.nil; refine step_append_here rfl (.tmp 48) (.tmp 50) 26 23 rfl Tryz.underlying26 hi hz0 hz1 hz2 rfl (by decide) (by decide) n1 (v := .slice ao L.length co) ⟨wc.heap.size, 0, none⟩ 1 (opC ⟨ok, os, oa, ob, od⟩).toList rfl rfl hown rfl (cells_block wc.drew _ _) hone (by omega) (by simp; omega) ?_; intro v4 w4 hown4 hgr4 hnew4; obtain ⟨a4, c4, rfl⟩ := own_slice20 hown4)
        obtain ⟨hb4, hRg, hTg⟩ := hRf.pushed h0 h1 hmne ⟨ok, os, oa, ob, od⟩ hq0 hown4 hgr4 hnew4
        have hO4 := ((hOf.next hq0).alloc (.cells #[.int .i64 ok, .int .i64 os, .string ⟨oa.toArray⟩, .string ⟨ob.toArray⟩, .string ⟨od.toArray⟩] 23)).kept hgr4 (fun e => by have := (hvob _ e.symm).2; omega)
        have c3' := hb4.sevens.2.2.2.1
        have f3' := hb4.frozen 3
        have hTh := hTf.trans hTg
        have hOh := hO4.other (i := 3) (show w.heap.size ≠ Br by omega) (.slice a4 (L.length + 1) c4)
        have HRG := Lib.hid hRg
        have HTH := Lib.hid hTh
        clear hRg hTh hb4 hTg hown4 hgr4 hnew4
        (try dsimp only)
        refine hK.out _ _ (hO4.five) (fun hHeld => ?_)
        clear hK K
        (try simp only [Act.put, List.setIfInBounds_toArray, List.set_cons_zero, List.set_cons_succ])
        (refine heldTake 8 (some 52) (v := ?_) rfl rfl (by kernel_rfl) (by kernel_rfl) (by kernel_rfl) (fun _ _ _ h => h) (by rfl) ?_ (by assumption) ?_; rotate_left; (focus (intro w hSw; (try dsimp only at hSw); go_simp; try with_reducible rfl)); (try simp only [Act.put, List.setIfInBounds_toArray, List.set_cons_zero, List.set_cons_succ]))
        (refine heldTake 9 (some 53) (v := ?_) rfl rfl (by kernel_rfl) (by kernel_rfl) (by kernel_rfl) (fun _ _ _ h => h) (by rfl) ?_ (by assumption) ?_; rotate_left; (focus (intro w hSw; (try dsimp only at hSw); go_simp; try with_reducible rfl)); (try simp only [Act.put, List.setIfInBounds_toArray, List.set_cons_zero, List.set_cons_succ]))
        (refine wpAnyH_ready (rs := [10]) (by kernel_rfl) (by simp) ?_; refine AllReadyH.cons rfl (fun K hK => ?_) AllReadyH.nil; go_simp; skip; (try dsimp only); refine hK.out _ _ ((hOh.five)) (fun hHeld => ?_); clear hK K; (try simp only [Act.put, List.setIfInBounds_toArray, List.set_cons_zero, List.set_cons_succ]))
        refine wpAnyH_done (by kernel_rfl) ?_ _
        go_wp2_with fail
        go_meet
        exact ⟨rfl, .slice a4 (L.length + 1) c4, HRG.out, HTH.out⟩
      · (go_simp; skip; (try dsimp only); refine hK.out _ _ (hKa) (fun hHeld => ?_); clear hK K; (try simp only [Act.put, List.setIfInBounds_toArray, List.set_cons_zero, List.set_cons_succ]))
        (refine wpAnyH_ready (rs := [4]) (by kernel_rfl) (by simp) ?_; refine AllReadyH.cons rfl (fun K hK => ?_) AllReadyH.nil; go_simp; skip; (try dsimp only); refine hK.out _ _ (hKa) (fun hHeld => ?_); clear hK K; (try simp only [Act.put, List.setIfInBounds_toArray, List.set_cons_zero, List.set_cons_succ]))
        (refine wpAnyH_ready (rs := [7]) (by kernel_rfl) (by simp) ?_; refine AllReadyH.cons rfl (fun K hK => ?_) AllReadyH.nil; refine step_append_here rfl (.tmp 48) (.tmp 50) 26 23 rfl Tryz.underlying26 hi hz0 hz1 hz2 rfl (by decide) (by decide) n1 (v := .slice ao L.length co) ⟨wc.heap.size, 0, none⟩ 1 (opC ⟨ok, os, oa, ob, od⟩).toList rfl rfl hown rfl (cells_block wc.drew _ _) hone (by omega) (by simp; omega) ?_; intro v4 w4 hown4 hgr4 hnew4; obtain ⟨a4, c4, rfl⟩ := own_slice20 hown4)
        obtain ⟨hb4, hRg, hTg⟩ := hRf.pushed h0 h1 hmne ⟨ok, os, oa, ob, od⟩ hq0 hown4 hgr4 hnew4
        have hO4 := ((hOf.next hq0).alloc (.cells #[.int .i64 ok, .int .i64 os, .string ⟨oa.toArray⟩, .string ⟨ob.toArray⟩, .string ⟨od.toArray⟩] 23)).kept hgr4 (fun e => by have := (hvob _ e.symm).2; omega)
        have c3' := hb4.sevens.2.2.2.1
        have f3' := hb4.frozen 3
        have hTh := hTf.trans hTg
        have hOh := hO4.other (i := 3) (show w.heap.size ≠ Br by omega) (.slice a4 (L.length + 1) c4)
        have HRG := Lib.hid hRg
        have HTH := Lib.hid hTh
        clear hRg hTh hb4 hTg hown4 hgr4 hnew4
        (try dsimp only)
        refine hK.out _ _ (hO4.five) (fun hHeld => ?_)
        clear hK K
        (try simp only [Act.put, List.setIfInBounds_toArray, List.set_cons_zero, List.set_cons_succ])
        (refine heldTake 8 (some 52) (v := ?_) rfl rfl (by kernel_rfl) (by kernel_rfl) (by kernel_rfl) (fun _ _ _ h => h) (by rfl) ?_ (by assumption) ?_; rotate_left; (focus (intro w hSw; (try dsimp only at hSw); go_simp; try with_reducible rfl)); (try simp only [Act.put, List.setIfInBounds_toArray, List.set_cons_zero, List.set_cons_succ]))
        (refine heldTake 9 (some 53) (v := ?_) rfl rfl (by kernel_rfl) (by kernel_rfl) (by kernel_rfl) (fun _ _ _ h => h) (by rfl) ?_ (by assumption) ?_; rotate_left; (focus (intro w hSw; (try dsimp only at hSw); go_simp; try with_reducible rfl)); (try simp only [Act.put, List.setIfInBounds_toArray, List.set_cons_zero, List.set_cons_succ]))
        (refine wpAnyH_ready (rs := [10]) (by kernel_rfl) (by simp) ?_; refine AllReadyH.cons rfl (fun K hK => ?_) AllReadyH.nil; go_simp; skip; (try dsimp only); refine hK.out _ _ ((hOh.five)) (fun hHeld => ?_); clear hK K; (try simp only [Act.put, List.setIfInBounds_toArray, List.set_cons_zero, List.set_cons_succ]))
        refine wpAnyH_done (by kernel_rfl) ?_ _
        go_wp2_with fail
        go_meet
        exact ⟨rfl, .slice a4 (L.length + 1) c4, HRG.out, HTH.out⟩
    case rest =>
    obtain ⟨rfl, vo4, hRg, hTg⟩ := hcut
    clear hRf hOf hTf
    have c5 := hRg.blk.sevens.2.2.2.2.2.1
    have c6 := hRg.blk.sevens.2.2.2.2.2.2
    dsimp only at c5 c6
    cases pb
    · have HAF : Hid (addR ⟨bg, mn, L, la, pl, un⟩ ⟨ok, os, oa, ob, od⟩ = if ub = true then some ⟨bg, mn, L ++ [⟨ok, os, oa, ob, od⟩], la2, false, ub⟩ else none) := HAD
      cases ub
      · have HN : Hid (addR ⟨bg, mn, L, la, pl, un⟩ ⟨ok, os, oa, ob, od⟩ = none) := Lib.hid (HAF.out.trans rfl)
        go_wp2
        go_ret
        exact ⟨by rw [HN.out]; rfl, (fun st' h => by (rw [HN.out] at h; cases h)), hTg⟩
      · have HN : Hid (addR ⟨bg, mn, L, la, pl, un⟩ ⟨ok, os, oa, ob, od⟩ = some _) := Lib.hid (HAF.out.trans rfl)
        go_wp2
        go_ret
        exact ⟨by rw [HN.out]; rfl, (fun st' h => by (rw [HN.out] at h; cases h; exact ⟨_, _, hRg⟩)), hTg⟩
    · have HN : Hid (addR ⟨bg, mn, L, la, pl, un⟩ ⟨ok, os, oa, ob, od⟩ = some _) := Lib.hid (HAD.out.trans rfl)
      go_wp2
      go_ret
      exact ⟨by rw [HN.out]; rfl, (fun st' h => by (rw [HN.out] at h; cases h; exact ⟨_, _, hRg⟩)), hTg⟩
end Go.Proofs.YtolbhjjcabiabaaGreatDoor
