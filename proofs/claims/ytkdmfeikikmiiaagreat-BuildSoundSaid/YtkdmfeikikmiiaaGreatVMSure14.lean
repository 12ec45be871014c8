/- Texts put together: WalkD03, Builder, WalkE03, WalkC04, WalkD04, WalkF04, Sound14, Below14, Over14, Way14, Gone14, Pure13b, Sure14. -/
import Derived.Test.YtkdmfeikikmiiaaGreatVMWalkB03
import Derived.Test.YtkdmfeikikmiiaaGreatVMList11
import Derived.Test.YtkdmfeikikmiiaaGreatChecked
import Derived.Test.YtkdmfeikikmiiaaGreatVMWalkB05
import Derived.Shelf.Strings.Builder1
import Derived.Lib.Builder
import Derived.Lib.AppendStr
import Derived.RangeFuncRecord
import Derived.Test.YtkdmfeikikmiiaaGreatVMPure09
import Derived.Deep.LoopGhost
import Derived.Shelf.SlSortCmp.Kit1
import Derived.BigQuiet
set_option linter.unusedVariables false
set_option linter.unusedSimpArgs false
namespace Go.Proofs.YtkdmfeikikmiiaaGreat
open Go.RowKit Go.Shelf
attribute [local go_sem] Oper.semAt_some
theorem Tryz.infoS : (Tryz.prog.info? 9).map (fun i => (i.zero, i.size, i.bytes)) = some (some (.string ByteArray.empty), 1, 16) := by kernel_rfl
abbrev pathV (a : Bool) (v : Value) (s : Bool) : Array Value := #[.bool a, v, .bool s]
theorem endB_suffix (l : List UInt8) : Lib.hasSuffix l [47] = endB l := by
  unfold Lib.hasSuffix endB
  rw [Bool.eq_iff_iff, List.isSuffixOf_iff_suffix, beq_iff_eq]
  constructor
  · rintro ⟨r, rfl⟩; simp
  · intro h
    obtain ⟨ys, rfl⟩ := List.getLast?_eq_some_iff.1 h
    exact ⟨ys, rfl⟩
/-- The stores at the end: the field, then the whole result. -/
theorem four_set {W : World} {n D : Nat} {t e : TypeId} {cs : Array Value} {a s : Bool} {v : Value} {k : Nat} {xs : List Value} (hv : Blk W (n + 1) t cs) (hr : Blk W n t (pathV false (.slice none 0 0) false))
    (hrow : W.ownsRow n e 1 v k xs) (hte : t ≠ e) (hK : W.heap[D]? = some (.deferred (some []))) :
    ∃ W', W' = (((W.setCell ⟨n + 1, 2, none⟩ (.bool s)).setCell ⟨n, 0, none⟩ (.bool a)).setCell ⟨n, 1, none⟩ v).setCell ⟨n, 2, none⟩ (.bool s) ∧
      W'.heap[D]? = some (.deferred (some [])) ∧ Blk W' n t (pathV a v s) ∧ W'.ownsRow n e 1 v k xs ∧ Below n W W' := by
  refine ⟨_, rfl, ?_, ?_, ?_, ?_⟩
  · exact ((((KeepsOthers.setCell W _ _).trans (KeepsOthers.setCell _ _ _)).trans (KeepsOthers.setCell _ _ _)).trans (KeepsOthers.setCell _ _ _)).same D _ hK rfl
  · simpa [pathV] using (((hr.other (B2 := n + 1) (i := 2) (by omega) (.bool s)).set 0 (.bool a)).set 1 v).set 2 (.bool s)
  · have r1 := hrow.kept (grownBy_set W (n + 1) 2 (.bool s)) (.inr (hv.not_row hte hrow).symm)
    have q1 := hr.other (B2 := n + 1) (i := 2) (by omega) (.bool s)
    have r2 := r1.kept (grownBy_set _ n 0 (.bool a)) (.inr (q1.not_row hte r1).symm)
    have q2 := q1.set 0 (.bool a)
    have r3 := r2.kept (grownBy_set _ n 1 v) (.inr (q2.not_row hte r2).symm)
    have q3 := q2.set 1 v
    exact r3.kept (grownBy_set _ n 2 (.bool s)) (.inr (q3.not_row hte r3).symm)
  · exact ((((Below.refl n W).setCell (p := ⟨n + 1, 2, none⟩) (by simp) _).setCell (p := ⟨n, 0, none⟩) (Nat.le_refl _) _).setCell (p := ⟨n, 1, none⟩) (Nat.le_refl _) _).setCell (p := ⟨n, 2, none⟩) (Nat.le_refl _) _
theorem Blk.putObj {W : World} {B D : Nat} {t : TypeId} {cs : Array Value} (h : Blk W B t cs) {o : Obj} (o' : Obj) (hD : W.heap[D]? = some o) (ho : o.isCells = false) : Blk (W.putObj D o') B t cs :=
  h.kept (grownBy_putObj' W D o') (fun e => by
    obtain rfl : B = D := by simpa using e
    rw [show W.heap[B]? = _ from h] at hD; cases hD; cases ho)
set_option maxRecDepth 100000 in
set_option maxHeartbeats 4000000 in
theorem Read_any (p : List UInt8) (hp : p.length ≤ 1000000) (w : World) :
    Calls Tryz.prog 70 #[.string ⟨p.toArray⟩] w fun e w' => ∃ v, e = .returned (.agg (pathV (absB p) v (slashB p))) ∧ w'.ownsRow w.heap.size 9 1 v (namesB p).length (strsV (namesB p)) ∧ Below w.heap.size w w' := by
  obtain ⟨is, hsi, hs0, hs1, hs2⟩ := info_parts Tryz.infoS
  refine (callsIn_wide (n := 3)).1 ?_
  (refine callsIn_of_wp_marks Tryz.func70 rfl trivial ?_ rfl; simp only [Tryz.ntmps70, List.size_toArray, List.length_cons, List.length_nil, Nat.reduceAdd, Nat.reduceSub, Array.replicate_succ, Array.replicate_zero, List.push_toArray, List.append_toArray, List.nil_append, List.cons_append])
  gi_wp2_with fail
  refine ⟨trivial, ?_⟩
  gi_at_call 94
  refine (callsIn_wide.2 (absolute_any p _)).mono ?_
  rintro e w' ⟨rfl, rfl⟩
  gi_wp2_with fail
  refine ⟨trivial, ?_⟩
  gi_at_call 95
  refine (namesOf_in p _).mono ?_
  rintro e w' ⟨rfl, rfl⟩
  gi_wp2
  have b0 := Blk.new w 86 (pathV false (.slice none 0 0) false)
  have b1 := Blk.new (w.alloc (.cells (pathV false (.slice none 0 0) false) 86)) 86 (pathV (absB p) (.slice none 0 0) false)
  have b2 := Blk.new ((w.alloc (.cells (pathV false (.slice none 0 0) false) 86)).alloc (.cells (pathV (absB p) (.slice none 0 0) false) 86)) 9 #[.string ⟨p.toArray⟩]
  simp only [World.size_alloc] at b1 b2
  have hB0 : Below w.heap.size w (((w.alloc (.cells (pathV false (.slice none 0 0) false) 86)).alloc (.cells (pathV (absB p) (.slice none 0 0) false) 86)).alloc (.cells #[.string ⟨p.toArray⟩] 9)) := (((Below.refl _ w).alloc (Nat.le_refl _) _).alloc (by simp) _).alloc (by simp; omega) _
  refine wpIn_rangeFunc_ownG rfl (by omega) (gf := 116) (lb := #[.pointer (some ⟨w.heap.size + 1 + 1, 0, none⟩)]) rfl trivial (enters_of Tryz.func116 (by kernel_rfl) rfl)
    (names_stops (w.heap.size + 1 + 1) p hp _ (by simp) (b2.cell 0)) (fun _ _ => trivial) (fun _ _ _ _ _ _ _ _ => trivial) (Below.refl _ _) (fun _ => rfl)
    (fun pre W => ((∃ v, Blk W (w.heap.size + 1) 86 (pathV (absB p) v false) ∧ W.ownsRow w.heap.size 9 1 v pre.length (strsV (pre.map (·.1)))) ∧ Blk W w.heap.size 86 (pathV false (.slice none 0 0) false)) ∧ Below w.heap.size w W)
    (fun _ _ _ => False)
    (OwnFrom.and (Own.from (fun s A B row hs hg hr => ⟨blkRow_own (β := List Txt) w.heap.size (w.heap.size + 1) 86 9 1 (fun pre => pre.length) (fun pre => strsV (pre.map (·.1))) (fun v => pathV (absB p) v false) s A B row hs.1 hg hr, blk_own (β := Unit) _ _ (fun _ => pathV false (.slice none 0 0) false) () A B row hs.2 hg hr⟩) _) (ownFrom_below (Nat.le_refl _) (by simp; omega)))
    (fun _ _ _ _ _ hs _ _ => hs)
    ⟨⟨⟨_, b1.alloc _, World.ownsRow_nil _ _ _ _⟩, (b0.alloc _).alloc _⟩, hB0⟩
    (fun x => { tmps := #[.string ⟨p.toArray⟩, undef, .pointer (some ⟨w.heap.size, 0, none⟩), .pointer (some ⟨w.heap.size + 1, 0, none⟩), .string ⟨x.1.toArray⟩, .string ⟨p.toArray⟩, .bool (absB p), .agg (pathV (absB p) (.slice none 0 0) false), .string ⟨p.toArray⟩,
      .func (.func 116) #[] #[.pointer (some ⟨w.heap.size + 1 + 1, 0, none⟩)], .string ⟨x.1.toArray⟩, undef, undef, undef, undef, undef, undef, undef, undef, undef, undef, undef, undef, undef, undef, undef, undef, undef], defers := [] }) ?assign ?body ?done ?stop
  case assign =>
    intro l x W K hK
    gi_wp2
    exact hK
  case body =>
    rintro l pre x W ⟨⟨⟨v, hv, hrow⟩, hr0⟩, hB⟩ hlen
    have hmx : Tryz.prog.follows .mixedOrders = true := by kernel_rfl
    gi_wp2
    refine wpIn_region_any hmx ?_
    try (change wpAnyIn _ _ _ _ _ _ _ _ _ (World.drew _))
    have hB1 : Below w.heap.size w W.drew := hB.drew
    have hv1 : Blk W.drew (w.heap.size + 1) 86 (pathV (absB p) v false) := hv
    have hr1 : Blk W.drew w.heap.size 86 (pathV false (.slice none 0 0) false) := hr0
    have hrow1 : W.drew.ownsRow w.heap.size 9 1 v pre.length (strsV (pre.map (·.1))) := hrow
    have hkeep : KeepsOthers W W.drew := KeepsOthers.drew _
    generalize W.drew = Wd at *
    clear hv hrow hr0 hB
    have hc := hv1.cell 1
    simp [pathV] at hc
    -- THE ORDERS
    refine wpAnyIn_ready (rs := [0, 2]) (by kernel_rfl) (by simp) ?_
    refine AllReadyIn.cons rfl (fun K hK => ?_) ?_
    · go_simp
      refine hK _ _ ?_
      clear hK K
      refine wpAnyIn_ready (rs := [1, 2]) (by kernel_rfl) (by simp) ?_
      refine AllReadyIn.cons rfl (fun K hK => ?_) ?_
      · go_simp
        refine hK _ _ ?_
        clear hK K
        refine wpAnyIn_ready (rs := [2]) (by kernel_rfl) (by simp) ?_
        refine AllReadyIn.cons rfl (fun K hK => ?_) ?_
        · go_simp
          refine hK _ _ ?_
          clear hK K
          refine wpAnyIn_ready (rs := [3]) (by kernel_rfl) (by simp) ?_
          refine AllReadyIn.cons rfl (fun K hK => ?_) ?_
          · go_simp
            gi_wp2_with (refine ⟨trivial, ?_⟩; gi_at_call 96; refine (CallsIn.inRound l (callsIn_wide.2 (Clone_any x.1 _ (Nat.le_trans x.2 (by decide))))).mono ?_; rintro e w2 ⟨rfl, hC⟩; have hc2 : w2.cell? ⟨w.heap.size + 1, 1, none⟩ = some v := (hC.cell (p := ⟨w.heap.size + 1, 1, none⟩) hv1.lt).trans hc; have hc4 : ∀ o, (w2.alloc o).cell? ⟨w.heap.size + 1, 1, none⟩ = some v := fun o => ((hv1.next hC).alloc o).cell 1; have hrow2 := own_keep hrow1 hC)
            refine wpAnyIn_ready (rs := [4]) (by kernel_rfl) (by simp) ?_
            refine AllReadyIn.cons rfl (fun K hK => ?_) ?_
            · go_simp
              refine hK _ _ ?_
              clear hK K
              refine wpAnyIn_ready (rs := [5]) (by kernel_rfl) (by simp) ?_
              refine AllReadyIn.cons rfl (fun K hK => ?_) ?_
              · refine stepIn_append_own rfl (.tmp 12) (.tmp 15) 84 9 rfl Tryz.underlying84 hsi hs0 hs1 hs2 rfl (by decide) w.heap.size ⟨w2.heap.size, 0, none⟩ 1 [.string ⟨x.1.toArray⟩] rfl rfl (hrow2.alloc _) rfl (cell_one_new _ _ _) (by simp [Value.oneCell']) (by unfold maxLen; omega) (by omega) (by have := hC.size; have := hB1.size; simp; omega) ?_
                intro v' w1 hown' hgrow
                have hr2 := (((hr1.next hC).alloc _).kept hgrow ((hr1.next hC).not_row (by decide) hrow2)).other (B2 := w.heap.size + 1) (i := 1) (by omega) v'
                obtain ⟨g', cap', rfl⟩ := ownsRow_succ hown'
                obtain ⟨h1, h2, h3, h4, h5⟩ := hv1.appended (i := 1) (by decide) hrow1 hB1.size (by omega) hC hown' hgrow
                have hc3 := h1.cell 1
                have hf3 := h1.frozen 1
                simp [pathV] at hc3
                refine hK _ _ ?_
                clear hK K
                refine wpAnyIn_ready (rs := [6]) (by kernel_rfl) (by simp) ?_
                refine AllReadyIn.cons rfl (fun K hK => ?_) ?_
                · go_simp
                  refine hK _ _ ?_
                  clear hK K
                  refine wpAnyIn_ready (rs := [7]) (by kernel_rfl) (by simp) ?_
                  refine AllReadyIn.cons rfl (fun K hK => ?_) ?_
                  · go_simp
                    refine hK _ _ ?_
                    clear hK K
                    refine wpAnyIn_done (by kernel_rfl) ?_ _
                    exact ⟨(hkeep.trans h4).from _, trivial, ⟨⟨_, by simpa [pathV] using h2, by simpa [strsV] using h3⟩, hr2⟩, hB1.trans h5⟩
                  exact AllReadyIn.nil
                exact AllReadyIn.nil
              exact AllReadyIn.nil
            exact AllReadyIn.nil
          exact AllReadyIn.nil
        exact AllReadyIn.nil
      refine AllReadyIn.cons rfl (fun K hK => ?_) ?_
      · go_simp
        refine hK _ _ ?_
        clear hK K
        refine wpAnyIn_ready (rs := [1, 3]) (by kernel_rfl) (by simp) ?_
        refine AllReadyIn.cons rfl (fun K hK => ?_) ?_
        · go_simp
          refine hK _ _ ?_
          clear hK K
          refine wpAnyIn_ready (rs := [3]) (by kernel_rfl) (by simp) ?_
          refine AllReadyIn.cons rfl (fun K hK => ?_) ?_
          · go_simp
            gi_wp2_with (refine ⟨trivial, ?_⟩; gi_at_call 96; refine (CallsIn.inRound l (callsIn_wide.2 (Clone_any x.1 _ (Nat.le_trans x.2 (by decide))))).mono ?_; rintro e w2 ⟨rfl, hC⟩; have hc2 : w2.cell? ⟨w.heap.size + 1, 1, none⟩ = some v := (hC.cell (p := ⟨w.heap.size + 1, 1, none⟩) hv1.lt).trans hc; have hc4 : ∀ o, (w2.alloc o).cell? ⟨w.heap.size + 1, 1, none⟩ = some v := fun o => ((hv1.next hC).alloc o).cell 1; have hrow2 := own_keep hrow1 hC)
            refine wpAnyIn_ready (rs := [4]) (by kernel_rfl) (by simp) ?_
            refine AllReadyIn.cons rfl (fun K hK => ?_) ?_
            · go_simp
              refine hK _ _ ?_
              clear hK K
              refine wpAnyIn_ready (rs := [5]) (by kernel_rfl) (by simp) ?_
              refine AllReadyIn.cons rfl (fun K hK => ?_) ?_
              · refine stepIn_append_own rfl (.tmp 12) (.tmp 15) 84 9 rfl Tryz.underlying84 hsi hs0 hs1 hs2 rfl (by decide) w.heap.size ⟨w2.heap.size, 0, none⟩ 1 [.string ⟨x.1.toArray⟩] rfl rfl (hrow2.alloc _) rfl (cell_one_new _ _ _) (by simp [Value.oneCell']) (by unfold maxLen; omega) (by omega) (by have := hC.size; have := hB1.size; simp; omega) ?_
                intro v' w1 hown' hgrow
                have hr2 := (((hr1.next hC).alloc _).kept hgrow ((hr1.next hC).not_row (by decide) hrow2)).other (B2 := w.heap.size + 1) (i := 1) (by omega) v'
                obtain ⟨g', cap', rfl⟩ := ownsRow_succ hown'
                obtain ⟨h1, h2, h3, h4, h5⟩ := hv1.appended (i := 1) (by decide) hrow1 hB1.size (by omega) hC hown' hgrow
                have hc3 := h1.cell 1
                have hf3 := h1.frozen 1
                simp [pathV] at hc3
                refine hK _ _ ?_
                clear hK K
                refine wpAnyIn_ready (rs := [6]) (by kernel_rfl) (by simp) ?_
                refine AllReadyIn.cons rfl (fun K hK => ?_) ?_
                · go_simp
                  refine hK _ _ ?_
                  clear hK K
                  refine wpAnyIn_ready (rs := [7]) (by kernel_rfl) (by simp) ?_
                  refine AllReadyIn.cons rfl (fun K hK => ?_) ?_
                  · go_simp
                    refine hK _ _ ?_
                    clear hK K
                    refine wpAnyIn_done (by kernel_rfl) ?_ _
                    exact ⟨(hkeep.trans h4).from _, trivial, ⟨⟨_, by simpa [pathV] using h2, by simpa [strsV] using h3⟩, hr2⟩, hB1.trans h5⟩
                  exact AllReadyIn.nil
                exact AllReadyIn.nil
              exact AllReadyIn.nil
            exact AllReadyIn.nil
          exact AllReadyIn.nil
        refine AllReadyIn.cons rfl (fun K hK => ?_) ?_
        · go_simp
          gi_wp2_with (refine ⟨trivial, ?_⟩; gi_at_call 96; refine (CallsIn.inRound l (callsIn_wide.2 (Clone_any x.1 _ (Nat.le_trans x.2 (by decide))))).mono ?_; rintro e w2 ⟨rfl, hC⟩; have hc2 : w2.cell? ⟨w.heap.size + 1, 1, none⟩ = some v := (hC.cell (p := ⟨w.heap.size + 1, 1, none⟩) hv1.lt).trans hc; have hc4 : ∀ o, (w2.alloc o).cell? ⟨w.heap.size + 1, 1, none⟩ = some v := fun o => ((hv1.next hC).alloc o).cell 1; have hrow2 := own_keep hrow1 hC)
          refine wpAnyIn_ready (rs := [1, 4]) (by kernel_rfl) (by simp) ?_
          refine AllReadyIn.cons rfl (fun K hK => ?_) ?_
          · go_simp
            refine hK _ _ ?_
            clear hK K
            refine wpAnyIn_ready (rs := [4]) (by kernel_rfl) (by simp) ?_
            refine AllReadyIn.cons rfl (fun K hK => ?_) ?_
            · go_simp
              refine hK _ _ ?_
              clear hK K
              refine wpAnyIn_ready (rs := [5]) (by kernel_rfl) (by simp) ?_
              refine AllReadyIn.cons rfl (fun K hK => ?_) ?_
              · refine stepIn_append_own rfl (.tmp 12) (.tmp 15) 84 9 rfl Tryz.underlying84 hsi hs0 hs1 hs2 rfl (by decide) w.heap.size ⟨w2.heap.size, 0, none⟩ 1 [.string ⟨x.1.toArray⟩] rfl rfl (hrow2.alloc _) rfl (cell_one_new _ _ _) (by simp [Value.oneCell']) (by unfold maxLen; omega) (by omega) (by have := hC.size; have := hB1.size; simp; omega) ?_
                intro v' w1 hown' hgrow
                have hr2 := (((hr1.next hC).alloc _).kept hgrow ((hr1.next hC).not_row (by decide) hrow2)).other (B2 := w.heap.size + 1) (i := 1) (by omega) v'
                obtain ⟨g', cap', rfl⟩ := ownsRow_succ hown'
                obtain ⟨h1, h2, h3, h4, h5⟩ := hv1.appended (i := 1) (by decide) hrow1 hB1.size (by omega) hC hown' hgrow
                have hc3 := h1.cell 1
                have hf3 := h1.frozen 1
                simp [pathV] at hc3
                refine hK _ _ ?_
                clear hK K
                refine wpAnyIn_ready (rs := [6]) (by kernel_rfl) (by simp) ?_
                refine AllReadyIn.cons rfl (fun K hK => ?_) ?_
                · go_simp
                  refine hK _ _ ?_
                  clear hK K
                  refine wpAnyIn_ready (rs := [7]) (by kernel_rfl) (by simp) ?_
                  refine AllReadyIn.cons rfl (fun K hK => ?_) ?_
                  · go_simp
                    refine hK _ _ ?_
                    clear hK K
                    refine wpAnyIn_done (by kernel_rfl) ?_ _
                    exact ⟨(hkeep.trans h4).from _, trivial, ⟨⟨_, by simpa [pathV] using h2, by simpa [strsV] using h3⟩, hr2⟩, hB1.trans h5⟩
                  exact AllReadyIn.nil
                exact AllReadyIn.nil
              exact AllReadyIn.nil
            exact AllReadyIn.nil
          refine AllReadyIn.cons rfl (fun K hK => ?_) ?_
          · go_simp
            refine hK _ _ ?_
            clear hK K
            refine wpAnyIn_ready (rs := [1]) (by kernel_rfl) (by simp) ?_
            refine AllReadyIn.cons rfl (fun K hK => ?_) ?_
            · go_simp
              refine hK _ _ ?_
              clear hK K
              refine wpAnyIn_ready (rs := [5]) (by kernel_rfl) (by simp) ?_
              refine AllReadyIn.cons rfl (fun K hK => ?_) ?_
              · refine stepIn_append_own rfl (.tmp 12) (.tmp 15) 84 9 rfl Tryz.underlying84 hsi hs0 hs1 hs2 rfl (by decide) w.heap.size ⟨w2.heap.size, 0, none⟩ 1 [.string ⟨x.1.toArray⟩] rfl rfl (hrow2.alloc _) rfl (cell_one_new _ _ _) (by simp [Value.oneCell']) (by unfold maxLen; omega) (by omega) (by have := hC.size; have := hB1.size; simp; omega) ?_
                intro v' w1 hown' hgrow
                have hr2 := (((hr1.next hC).alloc _).kept hgrow ((hr1.next hC).not_row (by decide) hrow2)).other (B2 := w.heap.size + 1) (i := 1) (by omega) v'
                obtain ⟨g', cap', rfl⟩ := ownsRow_succ hown'
                obtain ⟨h1, h2, h3, h4, h5⟩ := hv1.appended (i := 1) (by decide) hrow1 hB1.size (by omega) hC hown' hgrow
                have hc3 := h1.cell 1
                have hf3 := h1.frozen 1
                simp [pathV] at hc3
                refine hK _ _ ?_
                clear hK K
                refine wpAnyIn_ready (rs := [6]) (by kernel_rfl) (by simp) ?_
                refine AllReadyIn.cons rfl (fun K hK => ?_) ?_
                · go_simp
                  refine hK _ _ ?_
                  clear hK K
                  refine wpAnyIn_ready (rs := [7]) (by kernel_rfl) (by simp) ?_
                  refine AllReadyIn.cons rfl (fun K hK => ?_) ?_
                  · go_simp
                    refine hK _ _ ?_
                    clear hK K
                    refine wpAnyIn_done (by kernel_rfl) ?_ _
                    exact ⟨(hkeep.trans h4).from _, trivial, ⟨⟨_, by simpa [pathV] using h2, by simpa [strsV] using h3⟩, hr2⟩, hB1.trans h5⟩
                  exact AllReadyIn.nil
                exact AllReadyIn.nil
              exact AllReadyIn.nil
            exact AllReadyIn.nil
          exact AllReadyIn.nil
        exact AllReadyIn.nil
      exact AllReadyIn.nil
    refine AllReadyIn.cons rfl (fun K hK => ?_) ?_
    · go_simp
      refine hK _ _ ?_
      clear hK K
      refine wpAnyIn_ready (rs := [0, 3]) (by kernel_rfl) (by simp) ?_
      refine AllReadyIn.cons rfl (fun K hK => ?_) ?_
      · go_simp
        refine hK _ _ ?_
        clear hK K
        refine wpAnyIn_ready (rs := [1, 3]) (by kernel_rfl) (by simp) ?_
        refine AllReadyIn.cons rfl (fun K hK => ?_) ?_
        · go_simp
          refine hK _ _ ?_
          clear hK K
          refine wpAnyIn_ready (rs := [3]) (by kernel_rfl) (by simp) ?_
          refine AllReadyIn.cons rfl (fun K hK => ?_) ?_
          · go_simp
            gi_wp2_with (refine ⟨trivial, ?_⟩; gi_at_call 96; refine (CallsIn.inRound l (callsIn_wide.2 (Clone_any x.1 _ (Nat.le_trans x.2 (by decide))))).mono ?_; rintro e w2 ⟨rfl, hC⟩; have hc2 : w2.cell? ⟨w.heap.size + 1, 1, none⟩ = some v := (hC.cell (p := ⟨w.heap.size + 1, 1, none⟩) hv1.lt).trans hc; have hc4 : ∀ o, (w2.alloc o).cell? ⟨w.heap.size + 1, 1, none⟩ = some v := fun o => ((hv1.next hC).alloc o).cell 1; have hrow2 := own_keep hrow1 hC)
            refine wpAnyIn_ready (rs := [4]) (by kernel_rfl) (by simp) ?_
            refine AllReadyIn.cons rfl (fun K hK => ?_) ?_
            · go_simp
              refine hK _ _ ?_
              clear hK K
              refine wpAnyIn_ready (rs := [5]) (by kernel_rfl) (by simp) ?_
              refine AllReadyIn.cons rfl (fun K hK => ?_) ?_
              · refine stepIn_append_own rfl (.tmp 12) (.tmp 15) 84 9 rfl Tryz.underlying84 hsi hs0 hs1 hs2 rfl (by decide) w.heap.size ⟨w2.heap.size, 0, none⟩ 1 [.string ⟨x.1.toArray⟩] rfl rfl (hrow2.alloc _) rfl (cell_one_new _ _ _) (by simp [Value.oneCell']) (by unfold maxLen; omega) (by omega) (by have := hC.size; have := hB1.size; simp; omega) ?_
                intro v' w1 hown' hgrow
                have hr2 := (((hr1.next hC).alloc _).kept hgrow ((hr1.next hC).not_row (by decide) hrow2)).other (B2 := w.heap.size + 1) (i := 1) (by omega) v'
                obtain ⟨g', cap', rfl⟩ := ownsRow_succ hown'
                obtain ⟨h1, h2, h3, h4, h5⟩ := hv1.appended (i := 1) (by decide) hrow1 hB1.size (by omega) hC hown' hgrow
                have hc3 := h1.cell 1
                have hf3 := h1.frozen 1
                simp [pathV] at hc3
                refine hK _ _ ?_
                clear hK K
                refine wpAnyIn_ready (rs := [6]) (by kernel_rfl) (by simp) ?_
                refine AllReadyIn.cons rfl (fun K hK => ?_) ?_
                · go_simp
                  refine hK _ _ ?_
                  clear hK K
                  refine wpAnyIn_ready (rs := [7]) (by kernel_rfl) (by simp) ?_
                  refine AllReadyIn.cons rfl (fun K hK => ?_) ?_
                  · go_simp
                    refine hK _ _ ?_
                    clear hK K
                    refine wpAnyIn_done (by kernel_rfl) ?_ _
                    exact ⟨(hkeep.trans h4).from _, trivial, ⟨⟨_, by simpa [pathV] using h2, by simpa [strsV] using h3⟩, hr2⟩, hB1.trans h5⟩
                  exact AllReadyIn.nil
                exact AllReadyIn.nil
              exact AllReadyIn.nil
            exact AllReadyIn.nil
          exact AllReadyIn.nil
        refine AllReadyIn.cons rfl (fun K hK => ?_) ?_
        · go_simp
          gi_wp2_with (refine ⟨trivial, ?_⟩; gi_at_call 96; refine (CallsIn.inRound l (callsIn_wide.2 (Clone_any x.1 _ (Nat.le_trans x.2 (by decide))))).mono ?_; rintro e w2 ⟨rfl, hC⟩; have hc2 : w2.cell? ⟨w.heap.size + 1, 1, none⟩ = some v := (hC.cell (p := ⟨w.heap.size + 1, 1, none⟩) hv1.lt).trans hc; have hc4 : ∀ o, (w2.alloc o).cell? ⟨w.heap.size + 1, 1, none⟩ = some v := fun o => ((hv1.next hC).alloc o).cell 1; have hrow2 := own_keep hrow1 hC)
          refine wpAnyIn_ready (rs := [1, 4]) (by kernel_rfl) (by simp) ?_
          refine AllReadyIn.cons rfl (fun K hK => ?_) ?_
          · go_simp
            refine hK _ _ ?_
            clear hK K
            refine wpAnyIn_ready (rs := [4]) (by kernel_rfl) (by simp) ?_
            refine AllReadyIn.cons rfl (fun K hK => ?_) ?_
            · go_simp
              refine hK _ _ ?_
              clear hK K
              refine wpAnyIn_ready (rs := [5]) (by kernel_rfl) (by simp) ?_
              refine AllReadyIn.cons rfl (fun K hK => ?_) ?_
              · refine stepIn_append_own rfl (.tmp 12) (.tmp 15) 84 9 rfl Tryz.underlying84 hsi hs0 hs1 hs2 rfl (by decide) w.heap.size ⟨w2.heap.size, 0, none⟩ 1 [.string ⟨x.1.toArray⟩] rfl rfl (hrow2.alloc _) rfl (cell_one_new _ _ _) (by simp [Value.oneCell']) (by unfold maxLen; omega) (by omega) (by have := hC.size; have := hB1.size; simp; omega) ?_
                intro v' w1 hown' hgrow
                have hr2 := (((hr1.next hC).alloc _).kept hgrow ((hr1.next hC).not_row (by decide) hrow2)).other (B2 := w.heap.size + 1) (i := 1) (by omega) v'
                obtain ⟨g', cap', rfl⟩ := ownsRow_succ hown'
                obtain ⟨h1, h2, h3, h4, h5⟩ := hv1.appended (i := 1) (by decide) hrow1 hB1.size (by omega) hC hown' hgrow
                have hc3 := h1.cell 1
                have hf3 := h1.frozen 1
                simp [pathV] at hc3
                refine hK _ _ ?_
                clear hK K
                refine wpAnyIn_ready (rs := [6]) (by kernel_rfl) (by simp) ?_
                refine AllReadyIn.cons rfl (fun K hK => ?_) ?_
                · go_simp
                  refine hK _ _ ?_
                  clear hK K
                  refine wpAnyIn_ready (rs := [7]) (by kernel_rfl) (by simp) ?_
                  refine AllReadyIn.cons rfl (fun K hK => ?_) ?_
                  · go_simp
                    refine hK _ _ ?_
                    clear hK K
                    refine wpAnyIn_done (by kernel_rfl) ?_ _
                    exact ⟨(hkeep.trans h4).from _, trivial, ⟨⟨_, by simpa [pathV] using h2, by simpa [strsV] using h3⟩, hr2⟩, hB1.trans h5⟩
                  exact AllReadyIn.nil
                exact AllReadyIn.nil
              exact AllReadyIn.nil
            exact AllReadyIn.nil
          refine AllReadyIn.cons rfl (fun K hK => ?_) ?_
          · go_simp
            refine hK _ _ ?_
            clear hK K
            refine wpAnyIn_ready (rs := [1]) (by kernel_rfl) (by simp) ?_
            refine AllReadyIn.cons rfl (fun K hK => ?_) ?_
            · go_simp
              refine hK _ _ ?_
              clear hK K
              refine wpAnyIn_ready (rs := [5]) (by kernel_rfl) (by simp) ?_
              refine AllReadyIn.cons rfl (fun K hK => ?_) ?_
              · refine stepIn_append_own rfl (.tmp 12) (.tmp 15) 84 9 rfl Tryz.underlying84 hsi hs0 hs1 hs2 rfl (by decide) w.heap.size ⟨w2.heap.size, 0, none⟩ 1 [.string ⟨x.1.toArray⟩] rfl rfl (hrow2.alloc _) rfl (cell_one_new _ _ _) (by simp [Value.oneCell']) (by unfold maxLen; omega) (by omega) (by have := hC.size; have := hB1.size; simp; omega) ?_
                intro v' w1 hown' hgrow
                have hr2 := (((hr1.next hC).alloc _).kept hgrow ((hr1.next hC).not_row (by decide) hrow2)).other (B2 := w.heap.size + 1) (i := 1) (by omega) v'
                obtain ⟨g', cap', rfl⟩ := ownsRow_succ hown'
                obtain ⟨h1, h2, h3, h4, h5⟩ := hv1.appended (i := 1) (by decide) hrow1 hB1.size (by omega) hC hown' hgrow
                have hc3 := h1.cell 1
                have hf3 := h1.frozen 1
                simp [pathV] at hc3
                refine hK _ _ ?_
                clear hK K
                refine wpAnyIn_ready (rs := [6]) (by kernel_rfl) (by simp) ?_
                refine AllReadyIn.cons rfl (fun K hK => ?_) ?_
                · go_simp
                  refine hK _ _ ?_
                  clear hK K
                  refine wpAnyIn_ready (rs := [7]) (by kernel_rfl) (by simp) ?_
                  refine AllReadyIn.cons rfl (fun K hK => ?_) ?_
                  · go_simp
                    refine hK _ _ ?_
                    clear hK K
                    refine wpAnyIn_done (by kernel_rfl) ?_ _
                    exact ⟨(hkeep.trans h4).from _, trivial, ⟨⟨_, by simpa [pathV] using h2, by simpa [strsV] using h3⟩, hr2⟩, hB1.trans h5⟩
                  exact AllReadyIn.nil
                exact AllReadyIn.nil
              exact AllReadyIn.nil
            exact AllReadyIn.nil
          exact AllReadyIn.nil
        exact AllReadyIn.nil
      refine AllReadyIn.cons rfl (fun K hK => ?_) ?_
      · go_simp
        gi_wp2_with (refine ⟨trivial, ?_⟩; gi_at_call 96; refine (CallsIn.inRound l (callsIn_wide.2 (Clone_any x.1 _ (Nat.le_trans x.2 (by decide))))).mono ?_; rintro e w2 ⟨rfl, hC⟩; have hc2 : w2.cell? ⟨w.heap.size + 1, 1, none⟩ = some v := (hC.cell (p := ⟨w.heap.size + 1, 1, none⟩) hv1.lt).trans hc; have hc4 : ∀ o, (w2.alloc o).cell? ⟨w.heap.size + 1, 1, none⟩ = some v := fun o => ((hv1.next hC).alloc o).cell 1; have hrow2 := own_keep hrow1 hC)
        refine wpAnyIn_ready (rs := [0, 4]) (by kernel_rfl) (by simp) ?_
        refine AllReadyIn.cons rfl (fun K hK => ?_) ?_
        · go_simp
          refine hK _ _ ?_
          clear hK K
          refine wpAnyIn_ready (rs := [1, 4]) (by kernel_rfl) (by simp) ?_
          refine AllReadyIn.cons rfl (fun K hK => ?_) ?_
          · go_simp
            refine hK _ _ ?_
            clear hK K
            refine wpAnyIn_ready (rs := [4]) (by kernel_rfl) (by simp) ?_
            refine AllReadyIn.cons rfl (fun K hK => ?_) ?_
            · go_simp
              refine hK _ _ ?_
              clear hK K
              refine wpAnyIn_ready (rs := [5]) (by kernel_rfl) (by simp) ?_
              refine AllReadyIn.cons rfl (fun K hK => ?_) ?_
              · refine stepIn_append_own rfl (.tmp 12) (.tmp 15) 84 9 rfl Tryz.underlying84 hsi hs0 hs1 hs2 rfl (by decide) w.heap.size ⟨w2.heap.size, 0, none⟩ 1 [.string ⟨x.1.toArray⟩] rfl rfl (hrow2.alloc _) rfl (cell_one_new _ _ _) (by simp [Value.oneCell']) (by unfold maxLen; omega) (by omega) (by have := hC.size; have := hB1.size; simp; omega) ?_
                intro v' w1 hown' hgrow
                have hr2 := (((hr1.next hC).alloc _).kept hgrow ((hr1.next hC).not_row (by decide) hrow2)).other (B2 := w.heap.size + 1) (i := 1) (by omega) v'
                obtain ⟨g', cap', rfl⟩ := ownsRow_succ hown'
                obtain ⟨h1, h2, h3, h4, h5⟩ := hv1.appended (i := 1) (by decide) hrow1 hB1.size (by omega) hC hown' hgrow
                have hc3 := h1.cell 1
                have hf3 := h1.frozen 1
                simp [pathV] at hc3
                refine hK _ _ ?_
                clear hK K
                refine wpAnyIn_ready (rs := [6]) (by kernel_rfl) (by simp) ?_
                refine AllReadyIn.cons rfl (fun K hK => ?_) ?_
                · go_simp
                  refine hK _ _ ?_
                  clear hK K
                  refine wpAnyIn_ready (rs := [7]) (by kernel_rfl) (by simp) ?_
                  refine AllReadyIn.cons rfl (fun K hK => ?_) ?_
                  · go_simp
                    refine hK _ _ ?_
                    clear hK K
                    refine wpAnyIn_done (by kernel_rfl) ?_ _
                    exact ⟨(hkeep.trans h4).from _, trivial, ⟨⟨_, by simpa [pathV] using h2, by simpa [strsV] using h3⟩, hr2⟩, hB1.trans h5⟩
                  exact AllReadyIn.nil
                exact AllReadyIn.nil
              exact AllReadyIn.nil
            exact AllReadyIn.nil
          refine AllReadyIn.cons rfl (fun K hK => ?_) ?_
          · go_simp
            refine hK _ _ ?_
            clear hK K
            refine wpAnyIn_ready (rs := [1]) (by kernel_rfl) (by simp) ?_
            refine AllReadyIn.cons rfl (fun K hK => ?_) ?_
            · go_simp
              refine hK _ _ ?_
              clear hK K
              refine wpAnyIn_ready (rs := [5]) (by kernel_rfl) (by simp) ?_
              refine AllReadyIn.cons rfl (fun K hK => ?_) ?_
              · refine stepIn_append_own rfl (.tmp 12) (.tmp 15) 84 9 rfl Tryz.underlying84 hsi hs0 hs1 hs2 rfl (by decide) w.heap.size ⟨w2.heap.size, 0, none⟩ 1 [.string ⟨x.1.toArray⟩] rfl rfl (hrow2.alloc _) rfl (cell_one_new _ _ _) (by simp [Value.oneCell']) (by unfold maxLen; omega) (by omega) (by have := hC.size; have := hB1.size; simp; omega) ?_
                intro v' w1 hown' hgrow
                have hr2 := (((hr1.next hC).alloc _).kept hgrow ((hr1.next hC).not_row (by decide) hrow2)).other (B2 := w.heap.size + 1) (i := 1) (by omega) v'
                obtain ⟨g', cap', rfl⟩ := ownsRow_succ hown'
                obtain ⟨h1, h2, h3, h4, h5⟩ := hv1.appended (i := 1) (by decide) hrow1 hB1.size (by omega) hC hown' hgrow
                have hc3 := h1.cell 1
                have hf3 := h1.frozen 1
                simp [pathV] at hc3
                refine hK _ _ ?_
                clear hK K
                refine wpAnyIn_ready (rs := [6]) (by kernel_rfl) (by simp) ?_
                refine AllReadyIn.cons rfl (fun K hK => ?_) ?_
                · go_simp
                  refine hK _ _ ?_
                  clear hK K
                  refine wpAnyIn_ready (rs := [7]) (by kernel_rfl) (by simp) ?_
                  refine AllReadyIn.cons rfl (fun K hK => ?_) ?_
                  · go_simp
                    refine hK _ _ ?_
                    clear hK K
                    refine wpAnyIn_done (by kernel_rfl) ?_ _
                    exact ⟨(hkeep.trans h4).from _, trivial, ⟨⟨_, by simpa [pathV] using h2, by simpa [strsV] using h3⟩, hr2⟩, hB1.trans h5⟩
                  exact AllReadyIn.nil
                exact AllReadyIn.nil
              exact AllReadyIn.nil
            exact AllReadyIn.nil
          exact AllReadyIn.nil
        refine AllReadyIn.cons rfl (fun K hK => ?_) ?_
        · go_simp
          refine hK _ _ ?_
          clear hK K
          refine wpAnyIn_ready (rs := [0]) (by kernel_rfl) (by simp) ?_
          refine AllReadyIn.cons rfl (fun K hK => ?_) ?_
          · go_simp
            refine hK _ _ ?_
            clear hK K
            refine wpAnyIn_ready (rs := [1]) (by kernel_rfl) (by simp) ?_
            refine AllReadyIn.cons rfl (fun K hK => ?_) ?_
            · go_simp
              refine hK _ _ ?_
              clear hK K
              refine wpAnyIn_ready (rs := [5]) (by kernel_rfl) (by simp) ?_
              refine AllReadyIn.cons rfl (fun K hK => ?_) ?_
              · refine stepIn_append_own rfl (.tmp 12) (.tmp 15) 84 9 rfl Tryz.underlying84 hsi hs0 hs1 hs2 rfl (by decide) w.heap.size ⟨w2.heap.size, 0, none⟩ 1 [.string ⟨x.1.toArray⟩] rfl rfl (hrow2.alloc _) rfl (cell_one_new _ _ _) (by simp [Value.oneCell']) (by unfold maxLen; omega) (by omega) (by have := hC.size; have := hB1.size; simp; omega) ?_
                intro v' w1 hown' hgrow
                have hr2 := (((hr1.next hC).alloc _).kept hgrow ((hr1.next hC).not_row (by decide) hrow2)).other (B2 := w.heap.size + 1) (i := 1) (by omega) v'
                obtain ⟨g', cap', rfl⟩ := ownsRow_succ hown'
                obtain ⟨h1, h2, h3, h4, h5⟩ := hv1.appended (i := 1) (by decide) hrow1 hB1.size (by omega) hC hown' hgrow
                have hc3 := h1.cell 1
                have hf3 := h1.frozen 1
                simp [pathV] at hc3
                refine hK _ _ ?_
                clear hK K
                refine wpAnyIn_ready (rs := [6]) (by kernel_rfl) (by simp) ?_
                refine AllReadyIn.cons rfl (fun K hK => ?_) ?_
                · go_simp
                  refine hK _ _ ?_
                  clear hK K
                  refine wpAnyIn_ready (rs := [7]) (by kernel_rfl) (by simp) ?_
                  refine AllReadyIn.cons rfl (fun K hK => ?_) ?_
                  · go_simp
                    refine hK _ _ ?_
                    clear hK K
                    refine wpAnyIn_done (by kernel_rfl) ?_ _
                    exact ⟨(hkeep.trans h4).from _, trivial, ⟨⟨_, by simpa [pathV] using h2, by simpa [strsV] using h3⟩, hr2⟩, hB1.trans h5⟩
                  exact AllReadyIn.nil
                exact AllReadyIn.nil
              exact AllReadyIn.nil
            exact AllReadyIn.nil
          exact AllReadyIn.nil
        exact AllReadyIn.nil
      exact AllReadyIn.nil
    exact AllReadyIn.nil
  case done =>
    rintro D ys W hD hys ⟨⟨⟨v, hv, hrow⟩, hr⟩, hB⟩ hK
    have hlen : ys.length = (namesB p).length := by rw [← hys, List.length_map]
    rw [hys, hlen] at hrow
    clear hlen
    obtain ⟨av, cap, rfl⟩ : ∃ av cap, v = .slice av (namesB p).length cap := by
      rcases hrow.2 with ⟨rfl, h0⟩ | ⟨g, cap, cur, rfl, _⟩
      · exact ⟨none, 0, by rw [h0]⟩
      · exact ⟨_, _, rfl⟩
    have c0 := hv.cell 0
    have c1 := hv.cell 1
    have c2 := hv.cell 2
    have f2 := hv.frozen 2
    have d0 := hr.cell 0
    have d1 := hr.cell 1
    have d2 := hr.cell 2
    have e0 := hr.frozen 0
    have e1 := hr.frozen 1
    have e2 := hr.frozen 2
    simp [pathV] at c0 c1 c2 d0 d1 d2
    by_cases hn : 0 < (namesB p).length
    · have hS := Lib.hid (show Lib.hasSuffix p [47] = slashB p from by
        rw [endB_suffix]
        have : (namesB p).isEmpty = false := by rw [List.isEmpty_eq_false_iff]; intro e; rw [e] at hn; simp at hn
        simp [slashB, this])
      gi_wp2_with fail
      refine ⟨trivial, ?_⟩
      gi_at_call 97
      refine (callsIn_wide.2 (Tryz.strings_HasSuffix ⟨p.toArray⟩ ⟨#[47]⟩ _ (by simp [ByteArray.size]; omega))).mono ?_
      rintro e w3 ⟨rfl, rfl⟩
      rw [show Lib.hasSuffix (ByteArray.mk p.toArray).data.toList (ByteArray.mk #[47]).data.toList = slashB p from hS.out]
      gi_wp2
      obtain ⟨W', hW', hK', hb', hrow', hB'⟩ := four_set (a := absB p) (s := (slashB p)) hv hr hrow (by decide) hK
      rw [← hW']
      have hb2 := hb'.putObj (.deferred none) hK' rfl
      have g0 := hb2.cell 0
      have g1 := hb2.cell 1
      have g2 := hb2.cell 2
      simp [pathV] at g0 g1 g2
      refine ⟨by simp, .inl ⟨_, _, rfl, run_takeDeferred hK', ?_⟩⟩
      refine ⟨.agg (pathV (absB p) (.slice av (namesB p).length cap) (slashB p)), ?_, _, rfl, ownsRow_putObj hrow' _ hK' rfl, (hB.trans hB').trans (belowK_b (w := w) (Nat.le_refl _) _ D _ _ (by simp at hD; omega) hK' rfl rfl)⟩
      simp [results, Tryz.f70, go_sem, g0, g1, g2]
    · have hS := Lib.hid (show slashB p = false from by
        have : (namesB p).isEmpty = true := by rw [List.isEmpty_iff]; exact List.eq_nil_of_length_eq_zero (by omega)
        simp [slashB, this])
      gi_wp2
      refine ⟨trivial, ?_⟩
      gi_wp2
      obtain ⟨W', hW', hK', hb', hrow', hB'⟩ := four_set (a := absB p) (s := false) hv hr hrow (by decide) hK
      rw [← hW']
      have hb2 := hb'.putObj (.deferred none) hK' rfl
      have g0 := hb2.cell 0
      have g1 := hb2.cell 1
      have g2 := hb2.cell 2
      simp [pathV] at g0 g1 g2
      refine ⟨by simp, .inl ⟨_, _, rfl, run_takeDeferred hK', ?_⟩⟩
      refine ⟨.agg (pathV (absB p) (.slice av (namesB p).length cap) false), ?_, _, by rw [hS.out], ownsRow_putObj hrow' _ hK' rfl, (hB.trans hB').trans (belowK_b (w := w) (Nat.le_refl _) _ D _ _ (by simp at hD; omega) hK' rfl rfl)⟩
      simp [results, Tryz.f70, go_sem, g0, g1, g2]
  case stop =>
    rintro D c pre W _ _ h _
    exact h.elim
end Go.Proofs.YtkdmfeikikmiiaaGreat
namespace Go.Proofs.YtkdmfeikikmiiaaGreat
open Go.RowKit Go.Shelf
set_option maxHeartbeats 1000000 in
set_option maxRecDepth 100000 in
theorem copyCheck_used (b : Nat) (w : World) (h0 : w.cell? ⟨b, 0, none⟩ = some (.pointer (some ⟨b, 0, none⟩))) :
    Calls Tryz.prog 170 #[.pointer (some ⟨b, 0, none⟩)] w fun e w' => e = .returned (.tuple #[]) ∧ w' = w := by
  obtain ⟨j, hj, _⟩ := Option.map_eq_some_iff.1 (show (Tryz.prog.info? 179).map (·.size) = some 2 from by kernel_rfl)
  go_enter Tryz.func170, Tryz.ntmps170
  go_wp2
  rw [Lib.run_neq_ptr_same w _ Tryz.underlying177 hj]
  go_wp2
  go_end0
  exact ⟨rfl, rfl⟩
set_option maxHeartbeats 1000000 in
set_option maxRecDepth 100000 in
theorem copyCheck_fresh (b : Nat) (w : World) (h0 : w.cell? ⟨b, 0, none⟩ = some (.pointer none)) (hsh : w.shape? b = some (179, 2)) (hfz : w.frozen? ⟨b, 0, none⟩ = false) :
    Calls Tryz.prog 170 #[.pointer (some ⟨b, 0, none⟩)] w fun e w' => e = .returned (.tuple #[]) ∧ w' = w.setCell ⟨b, 0, none⟩ (.pointer (some ⟨b, 0, none⟩)) := by
  obtain ⟨j, hj, hjs⟩ := Option.map_eq_some_iff.1 (show (Tryz.prog.info? 179).map (·.size) = some 2 from by kernel_rfl)
  have hlies : liesAt Tryz.prog Tryz.prog.depth 179 (2 / Tryz.prog.cellsOf 179) 0 179 1 = true := by kernel_rfl
  go_enter Tryz.func170, Tryz.ntmps170
  go_wp2
  rw [Lib.run_to_unsafe w ⟨b, 0, none⟩ Tryz.underlying177 Tryz.underlying185 hj (by rw [hjs]; decide) hsh (Nat.zero_lt_succ 1)]
  simp only [Result.andThen]
  rw [Oper.upon_value]
  go_wp2
  rw [run_callFunc_extern Tryz.func171 (by kernel_rfl) (by kernel_rfl) (by kernel_rfl) (e := Extern.AbiNoEscape.same) (by kernel_rfl)]
  rw [Lib.run_noEscape]
  simp only [Result.andThen]
  rw [Oper.upon_value]
  go_wp2
  rw [Lib.run_from_unsafe w ⟨b, 0, none⟩ Tryz.underlying185 Tryz.underlying177 hj hsh hlies]
  simp only [Result.andThen]
  rw [Oper.upon_value]
  go_wp2
  go_end0
  exact ⟨rfl, rfl⟩
/-- A writing method's check: behind it the builder is used. -/
theorem copyCheck_any (B b : Nat) (bs : List Value) (w : World) (h : Lib.IsBuilder 179 5 B b bs w) :
    Calls Tryz.prog 170 #[.pointer (some ⟨b, 0, none⟩)] w fun e w' => e = .returned (.tuple #[]) ∧ (Lib.BuilderAt 179 5 B b (.pointer (some ⟨b, 0, none⟩)) bs w' ∧ Below B w w') := by
  rcases h with h | h
  · refine (copyCheck_fresh b w h.cell0 h.shape h.frozen0).mono ?_
    rintro e w' ⟨rfl, rfl⟩
    exact ⟨rfl, h.used _, (Below.refl B w).setCell (p := ⟨b, 0, none⟩) h.1 _⟩
  · refine (copyCheck_used b w h.cell0).mono ?_
    rintro e w' ⟨rfl, rfl⟩
    exact ⟨rfl, h, Below.refl B _⟩
theorem Tryz.infoByte : (Tryz.prog.info? 5).map (fun i => (i.zero, i.size, i.bytes)) = some (some (.int .u8 0), 1, 1) := by kernel_rfl
set_option maxHeartbeats 2000000 in
set_option maxRecDepth 100000 in
theorem WriteString_any (B b : Nat) (bs : List UInt8) (l : List UInt8) (w : World) (h : Lib.IsBuilder 179 5 B b (bytesV bs) w) (hlen : bs.length + l.length ≤ 1000000000) (hBw : B ≤ w.heap.size) :
    Calls Tryz.prog 168 #[.pointer (some ⟨b, 0, none⟩), .string ⟨l.toArray⟩] w fun e w' => e = .returned (.tuple #[.int .i64 l.length, .nilIface]) ∧ (Lib.IsBuilder 179 5 B b (bytesV (bs ++ l)) w' ∧ Below B w w') := by
  obtain ⟨i0, hi, hz0, hz1, hz2⟩ := info_parts Tryz.infoByte
  go_enter Tryz.func168, Tryz.ntmps168
  go_wp2_with fail
  refine (copyCheck_any B b _ _ h).mono ?_
  rintro e w1 ⟨rfl, h1, hb1⟩
  obtain ⟨hB, v, hbk, hown, hne⟩ := h1
  have c0 : w1.cell? ⟨b, 0, none⟩ = some (.pointer (some ⟨b, 0, none⟩)) := by rw [Lib.cell_of_heap hbk]; rfl
  have c1 : w1.cell? ⟨b, 1, none⟩ = some v := by rw [Lib.cell_of_heap hbk]; rfl
  go_wp2_with (at_builtin; refine Lib.wpList_append_own_string _ rfl _ _ 143 9 rfl B 5 i0 Tryz.underlying143 Tryz.underlying9 hi hz0 hz1 hz2 _ _ _ rfl hown ⟨l.toArray⟩ rfl ?c3 ?c4 ?c5 ?_)
  case c3 => simp [bytesV, ByteArray.size]; unfold maxLen; omega
  case c4 => simp [bytesV, ByteArray.size]; omega
  case c5 => have := hb1.size; omega
  intro v' w2 hown' hgrow _
  have hlt : b < w1.heap.size := by
    rcases Nat.lt_or_ge b w1.heap.size with h' | h'
    · exact h'
    · simp [Array.getElem?_eq_none h'] at hbk
  have hb2 : w2.heap[b]? = some (.cells #[.pointer (some ⟨b, 0, none⟩), v] 179 (0, 0)) := by
    rw [hgrow.block b hlt (fun e => hne e.symm)]
    exact hbk
  have d0 : w2.cell? ⟨b, 0, none⟩ = some (.pointer (some ⟨b, 0, none⟩)) := by rw [Lib.cell_of_heap hb2]; rfl
  have d1 : w2.cell? ⟨b, 1, none⟩ = some v := by rw [Lib.cell_of_heap hb2]; rfl
  have f1 : w2.frozen? ⟨b, 1, none⟩ = false := Lib.frozen_of_heap hb2 1
  obtain ⟨ao, n', cap, rfl⟩ : ∃ ao n' cap, v' = .slice ao n' cap := by
    rcases hown'.2 with ⟨hv, _⟩ | ⟨g, cap, cur, hv, _⟩
    · exact ⟨_, _, _, hv⟩
    · exact ⟨_, _, _, hv⟩
  go_wp2
  go_ret2
  refine ⟨by simp [ByteArray.size], .inr ?_, ?_⟩
  · exact Lib.BuilderAt.put (T := 179) (e := 5) hB hb2 (bs' := bytesV (bs ++ l)) (by simpa [bytesV, Lib.strCells, ByteArray.size] using hown') (by decide)
  · exact (hb1.grown hgrow (by have := hb1.size; omega) (fun k hk => (hown.lt k hk).1)).setCell (p := ⟨b, 1, none⟩) hB _
/-- A builder as 'var b strings.Builder' lays it. -/
theorem builder_new (w : World) : Lib.IsBuilder 179 5 w.heap.size w.heap.size (bytesV []) (w.alloc (.cells #[.pointer none, .slice none 0 0] 179)) := by
  refine .inl ⟨Nat.le_refl _, .slice none 0 0, World.alloc_heap_new w _, World.ownsRow_nil _ _ _ _, by simp [Value.ownBlock]⟩
theorem builder_String (B b : Nat) (l : List UInt8) (w : World) (h : Lib.IsBuilder 179 5 B b (bytesV l) w) (hBw : B ≤ w.heap.size) :
    Calls Tryz.prog 169 #[.pointer (some ⟨b, 0, none⟩)] w fun e w' => e = .returned (.string ⟨l.toArray⟩) ∧ Below B w w' := Tryz.Builder_String_any B b l w h hBw
end Go.Proofs.YtkdmfeikikmiiaaGreat
namespace Go.Proofs.YtkdmfeikikmiiaaGreat
open Go.RowKit
abbrev pathA (a : Bool) (v : Value) (s : Bool) : Array Value := #[.bool a, v, .bool s]
theorem interB_next (ns : List (List UInt8)) (k : Nat) (h : k < ns.length) : interB (ns.take (k + 1)) = if k = 0 then ns[k] else interB (ns.take k) ++ 47 :: ns[k] := by
  rw [List.take_succ_eq_append_getElem h, interB_snoc]
  by_cases hk : k = 0
  · subst hk; simp
  · rw [if_neg hk, if_neg (by cases ns <;> cases k <;> simp_all)]
theorem putB_no (a s : Bool) (ns : List (List UInt8)) (h : s = false ∨ ns = []) : putB a ns s = (if a then [47] else []) ++ interB ns := by
  rcases h with rfl | rfl <;> simp [putB]
theorem putB_yes (a : Bool) (ns : List (List UInt8)) (h : 0 < ns.length) : putB a ns true = (if a then [47] else []) ++ interB ns ++ [47] := by
  have : ns.isEmpty = false := by rw [List.isEmpty_eq_false_iff]; rintro rfl; simp at h
  simp [putB, this]
set_option maxRecDepth 100000 in
set_option maxHeartbeats 4000000 in
theorem Put_true (s : Bool) (ns : List (List UInt8)) (v : Value) (w : World) (hv : Strs w v ns) (hl : ns.length ≤ 1000000) (hj : (interB ns).length ≤ 1000000) :
    Calls Tryz.prog 166 #[.agg (pathA true v s)] w fun e w' => e = .returned (.string ⟨(putB true ns s).toArray⟩) ∧ Below w.heap.size w w' := by
  obtain ⟨ad, ca, rfl, hm, HA0⟩ := hv
  have HA := Lib.hid HA0
  have HJ := Lib.hid hj
  clear HA0 hm hj
  have b0 := Blk.new w 86 (pathA true (.slice ad ns.length ca) s)
  have bb := builder_new (w.alloc (.cells (pathA true (.slice ad ns.length ca) s) 86))
  rw [World.size_alloc] at bb
  have hB0 : Below (w.heap.size + 1) (w.alloc (.cells (pathA true (.slice ad ns.length ca) s) 86)) ((w.alloc (.cells (pathA true (.slice ad ns.length ca) s) 86)).alloc (.cells #[.pointer none, .slice none 0 0] 179)) := (Below.refl _ _).alloc (by simp) _
  have hW0 : Below w.heap.size w (w.alloc (.cells (pathA true (.slice ad ns.length ca) s) 86)) := (Below.refl _ w).alloc (Nat.le_refl _) _
  have hs1 : (w.alloc (.cells (pathA true (.slice ad ns.length ca) s) 86)).heap.size = w.heap.size + 1 := by simp
  go_enter Tryz.func166, Tryz.ntmps166
  go_wp2_with fail
  refine (WriteString_any (w.heap.size + 1) (w.heap.size + 1) [] [47] _ bb (by decide) (by simp)).mono ?_
  rintro e w1 ⟨rfl, hb, h1⟩
  replace h1 := hB0.trans h1
  have bz : w1.cell? ⟨w.heap.size, 1, none⟩ = some (.slice ad ns.length ca) := (b0.below h1 (by simp)).cell 1
  go_wp2
  go_loopw [12] (fun i wr => ∃ k : Nat, k ≤ ns.length ∧ i = .int .i64 k ∧ Lib.IsBuilder 179 5 (w.heap.size + 1) (w.heap.size + 1) (bytesV ([47] ++ interB (ns.take k))) wr ∧ Below (w.heap.size + 1) (w.alloc (.cells (pathA true (.slice ad ns.length ca) s) 86)) wr) (fun i _ => ns.length - (intOf i).toNat)
  case atStart => exact ⟨0, Nat.zero_le _, rfl, by simpa [interB] using hb, h1⟩
  case round =>
    obtain ⟨k, hk, rfl, hbl, hBl⟩ := hrel
    have hsz := hBl.size
    rw [World.size_alloc] at hsz
    have hlen := Nat.le_trans (interB_take ns k) HJ.out
    by_cases hlt : k < ns.length
    · obtain ⟨ba, oa, rfl, hba, hca⟩ := HA.out (by omega)
      have c1 : wr.cell? ⟨ba, oa + k, none⟩ = some (.string ⟨ns[k].toArray⟩) := (hBl.cell (p := ⟨ba, oa + k, none⟩) (by simp; omega)).trans ((hW0.cell (p := ⟨ba, oa + k, none⟩) hba).trans (hca k hlt))
      clear hca
      have HN := Lib.hid (interB_next ns k hlt)
      have hlen2 := Nat.le_trans (interB_take ns (k + 1)) HJ.out
      by_cases h0 : 0 < k
      · have hkz : Hid (¬ k = 0) := by (show ¬ _); omega
        have hN2 := Lib.hid (HN.out.trans (if_neg hkz.out))
        rw [hN2.out, List.length_append, List.length_cons] at hlen2
        go_wp2_with fail
        refine (WriteString_any (w.heap.size + 1) (w.heap.size + 1) _ [47] _ hbl (by simp; omega) (by omega)).mono ?_
        rintro e w2 ⟨rfl, hb2, hB2⟩
        have c2 : w2.cell? ⟨ba, oa + k, none⟩ = some (.string ⟨ns[k].toArray⟩) := (hB2.cell (p := ⟨ba, oa + k, none⟩) (by simp; omega)).trans c1
        have hs2 := hB2.size
        clear c1
        go_wp2_with fail
        refine (WriteString_any (w.heap.size + 1) (w.heap.size + 1) _ ns[k] _ hb2 (by simp; omega) (by omega)).mono ?_
        rintro e w3 ⟨rfl, hb3, hB3⟩
        go_wp2
        go_roundw
        case rel => exact ⟨k + 1, by omega, by go_num, by rw [hN2.out]; simpa using hb3, (hBl.trans hB2).trans hB3⟩
        case measure => simp [intOf]; omega
      · obtain rfl : k = 0 := by omega
        have hN2 := Lib.hid (HN.out.trans (if_pos rfl))
        have c0 : wr.cell? ⟨ba, oa, none⟩ = some (.string ⟨ns[0].toArray⟩) := c1
        clear c1
        rw [hN2.out] at hlen2
        go_wp2_with fail
        refine (WriteString_any (w.heap.size + 1) (w.heap.size + 1) _ ns[0] _ hbl (by simp [interB]; omega) (by omega)).mono ?_
        rintro e w3 ⟨rfl, hb3, hB3⟩
        go_wp2
        go_roundw
        case rel => exact ⟨1, by omega, by go_num, by rw [hN2.out]; simpa [interB] using hb3, hBl.trans hB3⟩
        case measure => simp [intOf]; omega
    · obtain rfl : k = ns.length := by omega
      rw [List.take_length] at hbl hlen
      have bx := b0.below hBl (by simp)
      have x1 := bx.cell 1
      have x2 := bx.cell 2
      simp at x1 x2
      cases s
      · have HP := Lib.hid (putB_no true false ns (.inl rfl))
        go_wp2_with fail
        refine (builder_String (w.heap.size + 1) (w.heap.size + 1) _ _ hbl (by omega)).mono ?_
        rintro e w3 ⟨rfl, hB3⟩
        go_wp2
        go_ret
        exact ⟨ret_str (by rw [HP.out]; rfl), hW0.trans ((hBl.trans hB3).mono (by simp))⟩
      · by_cases hn : 0 < ns.length
        · have HP := Lib.hid (putB_yes true ns hn)
          go_wp2_with fail
          refine (WriteString_any (w.heap.size + 1) (w.heap.size + 1) _ [47] _ hbl (by simp; omega) (by omega)).mono ?_
          rintro e w2 ⟨rfl, hb2, hB2⟩
          have hs2 := hB2.size
          go_wp2_with fail
          refine (builder_String (w.heap.size + 1) (w.heap.size + 1) _ _ hb2 (by omega)).mono ?_
          rintro e w3 ⟨rfl, hB3⟩
          go_wp2
          go_ret
          exact ⟨ret_str (by rw [HP.out]; rfl), hW0.trans (((hBl.trans hB2).trans hB3).mono (by simp))⟩
        · have HP := Lib.hid (putB_no true true ns (.inr (List.eq_nil_of_length_eq_zero (by omega))))
          go_wp2_with fail
          refine (builder_String (w.heap.size + 1) (w.heap.size + 1) _ _ hbl (by omega)).mono ?_
          rintro e w3 ⟨rfl, hB3⟩
          go_wp2
          go_ret
          exact ⟨ret_str (by rw [HP.out]; rfl), hW0.trans ((hBl.trans hB3).mono (by simp))⟩
set_option maxRecDepth 100000 in
set_option maxHeartbeats 4000000 in
theorem Put_false (s : Bool) (ns : List (List UInt8)) (v : Value) (w : World) (hv : Strs w v ns) (hl : ns.length ≤ 1000000) (hj : (interB ns).length ≤ 1000000) :
    Calls Tryz.prog 166 #[.agg (pathA false v s)] w fun e w' => e = .returned (.string ⟨(putB false ns s).toArray⟩) ∧ Below w.heap.size w w' := by
  obtain ⟨ad, ca, rfl, hm, HA0⟩ := hv
  have HA := Lib.hid HA0
  have HJ := Lib.hid hj
  clear HA0 hm hj
  have b0 := Blk.new w 86 (pathA false (.slice ad ns.length ca) s)
  have bb := builder_new (w.alloc (.cells (pathA false (.slice ad ns.length ca) s) 86))
  rw [World.size_alloc] at bb
  have hB0 : Below (w.heap.size + 1) (w.alloc (.cells (pathA false (.slice ad ns.length ca) s) 86)) ((w.alloc (.cells (pathA false (.slice ad ns.length ca) s) 86)).alloc (.cells #[.pointer none, .slice none 0 0] 179)) := (Below.refl _ _).alloc (by simp) _
  have hW0 : Below w.heap.size w (w.alloc (.cells (pathA false (.slice ad ns.length ca) s) 86)) := (Below.refl _ w).alloc (Nat.le_refl _) _
  have hs1 : (w.alloc (.cells (pathA false (.slice ad ns.length ca) s) 86)).heap.size = w.heap.size + 1 := by simp
  go_enter Tryz.func166, Tryz.ntmps166
  have h1 := hB0
  have hb := bb
  go_wp2
  go_loopw [12] (fun i wr => ∃ k : Nat, k ≤ ns.length ∧ i = .int .i64 k ∧ Lib.IsBuilder 179 5 (w.heap.size + 1) (w.heap.size + 1) (bytesV ([] ++ interB (ns.take k))) wr ∧ Below (w.heap.size + 1) (w.alloc (.cells (pathA false (.slice ad ns.length ca) s) 86)) wr) (fun i _ => ns.length - (intOf i).toNat)
  case atStart => exact ⟨0, Nat.zero_le _, rfl, by simpa [interB] using hb, h1⟩
  case round =>
    obtain ⟨k, hk, rfl, hbl, hBl⟩ := hrel
    have hsz := hBl.size
    rw [World.size_alloc] at hsz
    have hlen := Nat.le_trans (interB_take ns k) HJ.out
    by_cases hlt : k < ns.length
    · obtain ⟨ba, oa, rfl, hba, hca⟩ := HA.out (by omega)
      have c1 : wr.cell? ⟨ba, oa + k, none⟩ = some (.string ⟨ns[k].toArray⟩) := (hBl.cell (p := ⟨ba, oa + k, none⟩) (by simp; omega)).trans ((hW0.cell (p := ⟨ba, oa + k, none⟩) hba).trans (hca k hlt))
      clear hca
      have HN := Lib.hid (interB_next ns k hlt)
      have hlen2 := Nat.le_trans (interB_take ns (k + 1)) HJ.out
      by_cases h0 : 0 < k
      · have hkz : Hid (¬ k = 0) := by (show ¬ _); omega
        have hN2 := Lib.hid (HN.out.trans (if_neg hkz.out))
        rw [hN2.out, List.length_append, List.length_cons] at hlen2
        go_wp2_with fail
        refine (WriteString_any (w.heap.size + 1) (w.heap.size + 1) _ [47] _ hbl (by simp; omega) (by omega)).mono ?_
        rintro e w2 ⟨rfl, hb2, hB2⟩
        have c2 : w2.cell? ⟨ba, oa + k, none⟩ = some (.string ⟨ns[k].toArray⟩) := (hB2.cell (p := ⟨ba, oa + k, none⟩) (by simp; omega)).trans c1
        have hs2 := hB2.size
        clear c1
        go_wp2_with fail
        refine (WriteString_any (w.heap.size + 1) (w.heap.size + 1) _ ns[k] _ hb2 (by simp; omega) (by omega)).mono ?_
        rintro e w3 ⟨rfl, hb3, hB3⟩
        go_wp2
        go_roundw
        case rel => exact ⟨k + 1, by omega, by go_num, by rw [hN2.out]; simpa using hb3, (hBl.trans hB2).trans hB3⟩
        case measure => simp [intOf]; omega
      · obtain rfl : k = 0 := by omega
        have hN2 := Lib.hid (HN.out.trans (if_pos rfl))
        have c0 : wr.cell? ⟨ba, oa, none⟩ = some (.string ⟨ns[0].toArray⟩) := c1
        clear c1
        rw [hN2.out] at hlen2
        go_wp2_with fail
        refine (WriteString_any (w.heap.size + 1) (w.heap.size + 1) _ ns[0] _ hbl (by simp [interB]; omega) (by omega)).mono ?_
        rintro e w3 ⟨rfl, hb3, hB3⟩
        go_wp2
        go_roundw
        case rel => exact ⟨1, by omega, by go_num, by rw [hN2.out]; simpa [interB] using hb3, hBl.trans hB3⟩
        case measure => simp [intOf]; omega
    · obtain rfl : k = ns.length := by omega
      rw [List.take_length] at hbl hlen
      have bx := b0.below hBl (by simp)
      have x1 := bx.cell 1
      have x2 := bx.cell 2
      simp at x1 x2
      cases s
      · have HP := Lib.hid (putB_no false false ns (.inl rfl))
        go_wp2_with fail
        refine (builder_String (w.heap.size + 1) (w.heap.size + 1) _ _ hbl (by omega)).mono ?_
        rintro e w3 ⟨rfl, hB3⟩
        go_wp2
        go_ret
        exact ⟨ret_str (by rw [HP.out]; rfl), hW0.trans ((hBl.trans hB3).mono (by simp))⟩
      · by_cases hn : 0 < ns.length
        · have HP := Lib.hid (putB_yes false ns hn)
          go_wp2_with fail
          refine (WriteString_any (w.heap.size + 1) (w.heap.size + 1) _ [47] _ hbl (by simp; omega) (by omega)).mono ?_
          rintro e w2 ⟨rfl, hb2, hB2⟩
          have hs2 := hB2.size
          go_wp2_with fail
          refine (builder_String (w.heap.size + 1) (w.heap.size + 1) _ _ hb2 (by omega)).mono ?_
          rintro e w3 ⟨rfl, hB3⟩
          go_wp2
          go_ret
          exact ⟨ret_str (by rw [HP.out]; rfl), hW0.trans (((hBl.trans hB2).trans hB3).mono (by simp))⟩
        · have HP := Lib.hid (putB_no false true ns (.inr (List.eq_nil_of_length_eq_zero (by omega))))
          go_wp2_with fail
          refine (builder_String (w.heap.size + 1) (w.heap.size + 1) _ _ hbl (by omega)).mono ?_
          rintro e w3 ⟨rfl, hB3⟩
          go_wp2
          go_ret
          exact ⟨ret_str (by rw [HP.out]; rfl), hW0.trans ((hBl.trans hB3).mono (by simp))⟩
theorem Put_any (a s : Bool) (ns : List (List UInt8)) (v : Value) (w : World) (hv : Strs w v ns) (hl : ns.length ≤ 1000000) (hj : (interB ns).length ≤ 1000000) :
    Calls Tryz.prog 166 #[.agg (pathA a v s)] w fun e w' => e = .returned (.string ⟨(putB a ns s).toArray⟩) ∧ Below w.heap.size w w' := by
  cases a
  · exact Put_false s ns v w hv hl hj
  · exact Put_true s ns v w hv hl hj
theorem Join_any (ns : List (List UInt8)) (v : Value) (w : World) (hv : Strs w v ns) (hl : ns.length ≤ 1000000) (hj : (interB ns).length ≤ 1000000) :
    Calls Tryz.prog 164 #[v] w fun e w' => e = .returned (.string ⟨(joinB ns).toArray⟩) ∧ Below w.heap.size w w' := by
  have hv2 := hv
  obtain ⟨ad, ca, rfl, hm, HA0⟩ := hv
  clear HA0
  go_enter Tryz.func164, Tryz.ntmps164
  go_wp2_with fail; refine (Put_any true false ns _ _ hv2 hl hj).mono ?_; rintro e w' ⟨rfl, hB⟩
  go_wp2
  go_ret
  exact ⟨ret_str (joinB_put ns), hB⟩
theorem hold_any (e : Ent) (n : List UInt8) (w : World) :
    Calls Tryz.prog 159 #[.agg (entC e), .string ⟨n.toArray⟩] w fun x w' => x = .returned (.int .i64 (Lib.compareBytes e.1 n)) ∧ Below w.heap.size w w' := by
  go_enter Tryz.func159, Tryz.ntmps159
  have hb : Below w.heap.size w (w.alloc (.cells (entC e) 71)) := (Below.refl _ w).alloc (Nat.le_refl _) _
  go_wp2_with fail; refine (Tryz.strings_Compare _ _ _).mono ?_; rintro e w' ⟨rfl, rfl⟩
  go_wp2
  go_ret
  exact ⟨rfl, hb⟩
set_option maxHeartbeats 2000000 in
theorem halves_any (l : List Ent) (n : List UInt8) (v : Value) (w : World) (hv : Ents w v l) (hs : sortP l) (hl : l.length ≤ 1000000) :
    Calls Tryz.prog 158 #[v, .string ⟨n.toArray⟩, .func (.func 159) #[] #[]] w fun e w' =>
      ∃ lo : Nat, e = .returned (.tuple #[.int .i64 lo, .bool (hasB l n)]) ∧ SrchP l n lo ∧ Below w.heap.size w w' := by
  obtain ⟨a, ca, rfl, hc, hm, HA0⟩ := hv
  unfold maxLen at hm
  have HA := Lib.hid HA0
  have HS := Lib.hid hs
  clear HA0 hs
  go_enter Tryz.func158, Tryz.ntmps158
  go_wp2
  go_loopg [9, 10] l.length (fun g s9 s10 wr => ∃ lo hi : Nat, s9 = .int .i64 lo ∧ s10 = .int .i64 hi ∧ lo ≤ hi ∧ hi ≤ l.length ∧ hi - lo ≤ g ∧ Below w.heap.size w wr ∧
    Aside ((∀ t (ht : t < l.length), t < lo → ltB l[t].1 n = true) ∧ (∀ t (ht : t < l.length), hi ≤ t → ltB l[t].1 n = false)))
  case atStart => exact ⟨0, l.length, rfl, rfl, Nat.zero_le _, Nat.le_refl _, by omega, Below.refl _ _, ⟨fun t ht h => by omega, fun t ht h => by omega⟩⟩
  case round =>
    obtain ⟨lo, hi, rfl, rfl, hlh, hin, hg, hbw, I⟩ := hrel
    by_cases hlt : lo < hi
    · obtain ⟨b, o, rfl, hb, hcl⟩ := HA.out (by omega)
      have hmid : (lo + hi) / 2 < l.length := by omega
      have c1 : wr.cell? ⟨b, o + (lo + hi) / 2 * 2, none⟩ = some (.string ⟨l[(lo + hi) / 2].1.toArray⟩) := (hbw.cell (p := ⟨b, o + (lo + hi) / 2 * 2, none⟩) hb).trans (hcl _ hmid).1
      have c2 : wr.cell? ⟨b, o + (lo + hi) / 2 * 2 + 1, none⟩ = some (.int .i64 l[(lo + hi) / 2].2) := (hbw.cell (p := ⟨b, o + (lo + hi) / 2 * 2 + 1, none⟩) hb).trans (hcl _ hmid).2
      clear hcl
      generalize hy : l[(lo + hi) / 2] = y at c1 c2
      have Y := Lib.hid hy
      clear hy
      have CM := Lib.hid (cmp_lt y.1 n)
      go_wp2_with fail
      refine (hold_any y n _).mono ?_
      rintro e w2 ⟨rfl, b2⟩
      replace hbw := hbw.trans (b2.mono hbw.size)
      cases hl1 : ltB y.1 n
      · have hcm : decide (Lib.compareBytes y.1 n < 0) = false := CM.out.trans hl1
        have I2 := Lib.hid (show (∀ t (ht : t < l.length), t < lo → ltB l[t].1 n = true) ∧ (∀ t (ht : t < l.length), (lo + hi) / 2 ≤ t → ltB l[t].1 n = false) from ⟨I.out.1, fun t ht h => by
          rw [Bool.eq_false_iff]; intro h2
          have := sort_upto HS.out ht h h2
          rw [Y.out, hl1] at this; cases this⟩)
        go_wp2
        go_roundg ((lo + hi) / 2 - lo)
        case measure => omega
        case rel => exact ⟨lo, (lo + hi) / 2, rfl, by rw [show ((lo : Int) + (hi : Int)) / 2 = (((lo + hi) / 2 : Nat) : Int) by omega], by omega, by omega, Nat.le_refl _, hbw, I2.out⟩
      · have hcm : decide (Lib.compareBytes y.1 n < 0) = true := CM.out.trans hl1
        have I2 := Lib.hid (show (∀ t (ht : t < l.length), t < (lo + hi) / 2 + 1 → ltB l[t].1 n = true) ∧ (∀ t (ht : t < l.length), hi ≤ t → ltB l[t].1 n = false) from ⟨fun t ht h => sort_upto HS.out hmid (by omega) (by rw [Y.out]; exact hl1), I.out.2⟩)
        go_wp2
        go_roundg (hi - ((lo + hi) / 2 + 1))
        case measure => omega
        case rel => exact ⟨(lo + hi) / 2 + 1, hi, by rw [show ((lo : Int) + (hi : Int)) / 2 + 1 = (((lo + hi) / 2 + 1 : Nat) : Int) by omega], rfl, by omega, hin, Nat.le_refl _, hbw, I2.out⟩
    · obtain rfl : hi = lo := by omega
      have SE := Lib.hid (srch_end HS.out hin I.out.1 I.out.2)
      by_cases hn : hi < l.length
      · obtain ⟨b, o, rfl, hb, hcl⟩ := HA.out (by omega)
        have c1 : wr.cell? ⟨b, o + hi * 2, none⟩ = some (.string ⟨l[hi].1.toArray⟩) := (hbw.cell (p := ⟨b, o + hi * 2, none⟩) hb).trans (hcl _ hn).1
        have c2 : wr.cell? ⟨b, o + hi * 2 + 1, none⟩ = some (.int .i64 l[hi].2) := (hbw.cell (p := ⟨b, o + hi * 2 + 1, none⟩) hb).trans (hcl _ hn).2
        clear hcl
        have SH : Hid (hasB l n = (l[hi].1 == n)) := by (show _ = _); rw [SE.out.2, dif_pos hn]
        generalize hy : l[hi] = y at c1 c2 SH
        clear hy
        have CM := Lib.hid (cmp_eq0 y.1 n)
        go_wp2_with fail
        refine (hold_any y n _).mono ?_
        rintro e w2 ⟨rfl, b2⟩
        replace hbw := hbw.trans (b2.mono hbw.size)
        go_wp2
        go_ret2
        exact ⟨hi, by rw [SH.out, ← CM.out]; rfl, SE.out.1, hbw⟩
      · have SH : Hid (hasB l n = false) := by (show _ = _); rw [SE.out.2, dif_neg hn]
        go_wp2
        go_ret2
        exact ⟨hi, by rw [SH.out]; rfl, SE.out.1, hbw⟩
theorem search_any (l : List Ent) (n : List UInt8) (v : Value) (w : World) (hv : Ents w v l) (hs : sortP l) (hl : l.length ≤ 1000000) :
    Calls Tryz.prog 147 #[v, .string ⟨n.toArray⟩] w fun e w' =>
      ∃ lo : Nat, e = .returned (.tuple #[.int .i64 lo, .bool (hasB l n)]) ∧ SrchP l n lo ∧ Below w.heap.size w w' := by
  obtain ⟨a, ca, rfl, hc, hm, HA0⟩ := id hv
  clear HA0
  go_enter Tryz.func147, Tryz.ntmps147
  go_wp2_with fail; refine (halves_any l n _ _ hv hs hl).mono ?_; rintro e w1 ⟨lo, rfl, hS, hb⟩
  go_wp2
  go_ret2
  exact ⟨lo, rfl, hS, hb⟩
theorem Find_any (l : List Ent) (n : List UInt8) (v : Value) (w : World) (hv : Ents w v l) (hs : sortP l) (hl : l.length ≤ 1000000) :
    Calls Tryz.prog 141 #[v, .string ⟨n.toArray⟩] w fun e w' => e = .returned (.tuple #[.int .i64 (numB l n), .bool (hasB l n)]) ∧ Below w.heap.size w w' := by
  obtain ⟨a, ca, rfl, hc, hm, HA0⟩ := id hv
  unfold maxLen at hm
  have HA := Lib.hid HA0
  clear HA0
  go_enter Tryz.func141, Tryz.ntmps141
  go_wp2_with fail; refine (search_any l n _ _ hv hs hl).mono ?_; rintro e w1 ⟨lo, rfl, hS, hb⟩
  cases hh : hasB l n
  · have HF := Lib.hid (find_none hh)
    go_wp2
    go_ret2
    exact ⟨by rw [HF.out.1, HF.out.2]; rfl, hb⟩
  · obtain ⟨hk, hn⟩ := find_srch hS hh
    have HN := Lib.hid hn
    clear hn
    obtain ⟨b, o, rfl, hbl, hcl⟩ := HA.out (by omega)
    have c2 : w1.cell? ⟨b, o + lo * 2 + 1, none⟩ = some (.int .i64 l[lo].2) := (hb.cell (p := ⟨b, o + lo * 2 + 1, none⟩) hbl).trans (hcl _ hk).2
    clear hcl hS
    go_wp2
    go_ret2
    exact ⟨by rw [HN.out, hh]; rfl, hb⟩
def TwoEnts (w : World) (A B : List Ent) (e : Ending) (w' : World) : Prop := ∃ x y, e = .returned (.tuple #[x, y]) ∧ Ents w' x A ∧ Ents w' y B ∧ Below w.heap.size w w'
set_option maxHeartbeats 2000000 in
theorem around_any (l : List Ent) (n : List UInt8) (v : Value) (w : World) (hv : Ents w v l) (hs : sortP l) (hl : l.length ≤ 1000000) :
    Calls Tryz.prog 129 #[v, .string ⟨n.toArray⟩] w (TwoEnts w (aheadB l n) (behindB l n)) := by
  obtain ⟨a, ca, rfl, hc, hm, HA0⟩ := id hv
  have HM := Lib.hid hm
  unfold maxLen at hm
  clear HA0
  go_enter Tryz.func129, Tryz.ntmps129
  go_wp2_with fail; refine (search_any l n _ _ hv hs hl).mono ?_; rintro e w1 ⟨lo, rfl, hS, hb⟩
  have HV := Lib.hid (hv.below hb)
  have HS := Lib.hid hS
  have hlo := hS.1
  have h0 : (0 : Int) ≤ (lo : Int) := by omega
  have h1 : (lo : Int) ≤ (l.length : Int) := by omega
  have h2 : (lo : Int) ≤ (ca : Int) := by omega
  clear hv hS
  have hbd : ∀ q, Below w.heap.size w (w1.drewN q) := fun q => below_drewN hb q
  have HT := Lib.hid HS.out.2.1
  cases hh : hasB l n
  · have HB := Lib.hid (HS.out.2.2.2 hh)
    go_wp2
    go_quiet (fail)
    all_goals go_wp2
    all_goals go_ret2
    all_goals refine ⟨_, _, rfl, ?_, ?_, hbd _⟩
    all_goals first
      | (rw [← HT.out]; exact Ents.head (HV.out.below (below_drewN (Below.refl _ _) _)) lo _ hlo (by omega) (by have := HM.out; omega))
      | (rw [← HB.out]; exact Ents.tail (HV.out.below (below_drewN (Below.refl _ _) _)) lo _ _ _ hlo rfl (by omega) (by have := HM.out; omega) (fun h => by first | rfl | omega))
  · obtain ⟨hk, _, hB⟩ := HS.out.2.2.1 hh
    have HB := Lib.hid hB
    clear hB
    have h3 : (lo : Int) + 1 ≤ (l.length : Int) := by omega
    have h4 : (lo : Int) + 1 ≤ (ca : Int) := by omega
    have h5 : ((lo : Int) + 1).toNat = lo + 1 := by omega
    go_wp2
    go_quiet (fail)
    all_goals go_wp2
    all_goals go_ret2
    all_goals refine ⟨_, _, rfl, ?_, ?_, hbd _⟩
    all_goals first
      | (rw [← HT.out]; exact Ents.head (HV.out.below (below_drewN (Below.refl _ _) _)) lo _ hlo (by omega) (by have := HM.out; omega))
      | (rw [← HB.out]; exact Ents.tail (HV.out.below (below_drewN (Below.refl _ _) _)) (lo + 1) _ _ _ hk rfl (by omega) (by have := HM.out; omega) (fun h => by first | rfl | omega))
theorem parts_two {w : World} {x y : Value} {A B : List Ent} (hx : Ents w x A) (hy : Ents w y B) (t : TypeId) : Parts (w.alloc (.cells #[x, y] t)) (.slice (some ⟨w.heap.size, 0, none⟩) 2 2) [A, B] := by
  have hb : Below w.heap.size w (w.alloc (.cells #[x, y] t)) := (Below.refl _ w).alloc (Nat.le_refl _) _
  have hB := Blk.new w t #[x, y]
  refine ⟨_, 2, rfl, fun _ => ⟨w.heap.size, 0, rfl, hB.lt, fun i hi => ?_⟩⟩
  have : i = 0 ∨ i = 1 := by simp at hi; omega
  rcases this with rfl | rfl
  · exact ⟨x, (hB.cell 0).trans rfl, hx.below hb⟩
  · exact ⟨y, (hB.cell 1).trans rfl, hy.below hb⟩
theorem parts_three {w : World} {x y z : Value} {A B C : List Ent} (hx : Ents w x A) (hy : Ents w y B) (hz : Ents w z C) (t : TypeId) (n : Nat) (hn : n = w.heap.size) : Parts (w.alloc (.cells #[x, y, z] t)) (.slice (some ⟨n, 0, none⟩) 3 3) [A, B, C] := by
  subst hn
  have hb : Below w.heap.size w (w.alloc (.cells #[x, y, z] t)) := (Below.refl _ w).alloc (Nat.le_refl _) _
  have hB := Blk.new w t #[x, y, z]
  refine ⟨_, 3, rfl, fun _ => ⟨w.heap.size, 0, rfl, hB.lt, fun i hi => ?_⟩⟩
  have : i = 0 ∨ i = 1 ∨ i = 2 := by simp at hi; omega
  rcases this with rfl | rfl | rfl
  · exact ⟨x, (hB.cell 0).trans rfl, hx.below hb⟩
  · exact ⟨y, (hB.cell 1).trans rfl, hy.below hb⟩
  · exact ⟨z, (hB.cell 2).trans rfl, hz.below hb⟩
set_option maxHeartbeats 1000000 in
theorem Without_any (l : List Ent) (n : List UInt8) (v : Value) (w : World) (hv : Ents w v l) (hs : sortP l) (hl : l.length ≤ 1000000) (hsh : shortP 100000000 l) :
    Calls Tryz.prog 107 #[v, .string ⟨n.toArray⟩] w (NewEnts w (withoutB l n)) := by
  obtain ⟨a, ca, rfl, hc, hm, HA0⟩ := id hv
  clear HA0
  go_enter Tryz.func107, Tryz.ntmps107
  go_wp2_with fail; refine (around_any l n _ _ hv hs hl).mono ?_; rintro e w1 ⟨x, y, rfl, hx, hy, hb⟩
  have hp := parts_two hx hy 47
  have hb2 : Below w.heap.size w (w1.alloc (.cells #[x, y] 47)) := hb.alloc hb.size _
  have hfl : [aheadB l n, behindB l n].flatten = withoutB l n := by simp [withoutB]
  have hle := without_len l n
  have hsw := without_short n hsh
  obtain ⟨a1, c1, rfl, _, _, _⟩ := hx
  obtain ⟨a2, c2, rfl, _, _, _⟩ := hy
  go_wp2_with fail
  refine (join_any _ _ _ hp (by simp) (by rw [hfl]; omega) (by rw [hfl]; exact hsw)).mono ?_
  rintro e w2 ⟨g, rfl, hg, hB, hb3⟩
  rw [hfl] at hB ⊢
  go_wp2
  go_ret
  exact ⟨g, rfl, Nat.le_trans hb2.size hg, hB, hb2.trans (hb3.mono hb2.size)⟩
set_option maxHeartbeats 1000000 in
theorem With_any (l : List Ent) (n : List UInt8) (i : Int) (v : Value) (w : World) (hv : Ents w v l) (hs : sortP l) (hl : l.length ≤ 999999) (hsh : shortP 100000000 l) (hn : n.length ≤ 100000000) :
    Calls Tryz.prog 106 #[v, .string ⟨n.toArray⟩, .int .i64 i] w (NewEnts w (withB l n i)) := by
  obtain ⟨a, ca, rfl, hc, hm, HA0⟩ := id hv
  clear HA0
  go_enter Tryz.func106, Tryz.ntmps106
  go_wp2_with fail; refine (around_any l n _ _ hv hs (by omega)).mono ?_; rintro e w1 ⟨x, y, rfl, hx, hy, hb⟩
  have hbo : Below w1.heap.size w1 (w1.alloc (.cells (entC (n, i)) 71)) := (Below.refl _ w1).alloc (Nat.le_refl _) _
  have hone : Ents (w1.alloc (.cells (entC (n, i)) 71)) (.slice (some ⟨w1.heap.size, 0, none⟩) 1 1) [(n, i)] := blk_ents (L := [(n, i)]) (Blk.new w1 71 (entC (n, i))) (by simp [maxLen])
  have hb1 := hb.trans (hbo.mono hb.size)
  have hp := parts_three (hx.below hbo) hone (hy.below hbo) 47 (w1.heap.size + 1) (by simp)
  have hb2 := hb1.alloc hb1.size (.cells #[x, .slice (some ⟨w1.heap.size, 0, none⟩) 1 1, y] 47)
  have hfl : [aheadB l n, [(n, i)], behindB l n].flatten = withB l n i := by simp [withB]
  have hle := with_len l n i
  have hsw := with_short i hsh hn
  obtain ⟨a1, c1, rfl, _, _, _⟩ := hx
  obtain ⟨a2, c2, rfl, _, _, _⟩ := hy
  go_wp2_with fail
  refine (join_any _ _ _ hp (by simp) (by rw [hfl]; omega) (by rw [hfl]; exact hsw)).mono ?_
  rintro e w2 ⟨g, rfl, hg, hB, hb3⟩
  rw [hfl] at hB ⊢
  go_wp2
  go_ret
  exact ⟨g, rfl, Nat.le_trans hb2.size hg, hB, hb2.trans (hb3.mono hb2.size)⟩
end Go.Proofs.YtkdmfeikikmiiaaGreat
namespace Go.Proofs.YtkdmfeikikmiiaaGreat
/-- A name stands for one entry. -/
theorem sort_one {es : List Ent} (hs : sortP es) {n : List UInt8} {a b : Int} (ha : (n, a) ∈ es) (hb : (n, b) ∈ es) : a = b := by
  obtain ⟨i, hi, e1⟩ := List.getElem_of_mem ha
  obtain ⟨j, hj, e2⟩ := List.getElem_of_mem hb
  rcases Nat.lt_trichotomy i j with h | h | h
  · have := List.pairwise_iff_getElem.1 hs i j hi hj h
    rw [e1, e2] at this
    exact absurd rfl (lt_ne this)
  · subst h
    rw [e1] at e2
    exact congrArg Prod.snd e2
  · have := List.pairwise_iff_getElem.1 hs j i hj hi h
    rw [e1, e2] at this
    exact absurd rfl (lt_ne this)
section
variable {mi mb nx : Int} {l l' : List Nd} {ad : Int} {an : List UInt8} {ai bd : Int} {bn : List UInt8}
/-- What stays where it was. -/
theorem moved_keep (h : SoundP mi mb nx l) (hv : Mv l ad an ai bd bn) (m : Moved l l' ad an ai bd bn) {k i : Int} {n : List UInt8} (he : (n, i) ∈ (getN l k).ents) (hne : i ≠ ai) : (n, i) ∈ (getN l' k).ents := by
  refine (m.ents k _).2 (.inr ⟨he, fun ⟨hk, hn⟩ => hne ?_⟩)
  subst hk
  have hn' : n = an := hn
  subst hn'
  exact sort_one (dir_sort h k) he hv.ent
theorem mv_one (h : SoundP mi mb nx l) (hv : Mv l ad an ai bd bn) : ai ≠ 1 := by
  intro e
  have := names_pos hv.ent
  rw [e, h.noRoot] at this
  omega
theorem mv_out (h : SoundP mi mb nx l) (hv : Mv l ad an ai bd bn) (k : Nat) : parN l k bd ≠ ai := by
  cases hd : isDir l ai
  · intro e
    have := par_dirs h hv.dir k
    rw [e, hd] at this; cases this
  · exact hv.out hd k
/-- The directories that don't lie in it are come to as before. -/
theorem moved_dirs (h : SoundP mi mb nx l) (hv : Mv l ad an ai bd bn) (m : Moved l l' ad an ai bd bn) (q : Nat) : ∀ d, isDir l d = true → d ∈ lvN l q [1] → (∀ k, parN l k d ≠ ai) → Reach l' d := by
  induction q with
  | zero => intro d _ hm _; rw [List.mem_singleton.1 hm]; exact .root
  | succ q ih =>
    intro d hd hm ho
    by_cases h1 : d = 1
    · rw [h1]; exact .root
    obtain ⟨hh, hk⟩ := dir_parts hd
    have hg := get_mem hh
    obtain ⟨_, n, hn⟩ := h.once _ hg.1 hk (by rw [hg.2]; exact h1)
    rw [hg.2] at hn
    have hp := ih _ (par_dir h hd) (lv_par h hd hm) (fun k => ho (k + 1))
    exact .step hp (moved_keep h hv m hn (fun e => ho 0 e))
theorem moved_reach (h : SoundP mi mb nx l) (hv : Mv l ad an ai bd bn) (m : Moved l l' ad an ai bd bn) {k : Int} (hk : Reach l k) : Reach l' k := by
  obtain ⟨q, _, hq⟩ := on_level h.tree (dir_parts hv.dir).1
  have hbd := moved_dirs h hv m q bd hv.dir hq (mv_out h hv)
  have hai : Reach l' ai := .step (e := (bn, ai)) hbd ((m.ents bd _).2 (.inl ⟨rfl, rfl⟩))
  induction hk with
  | root => exact .root
  | @step i e _ he ih =>
    by_cases hne : e.2 = ai
    · rw [hne]; exact hai
    · exact .step ih (moved_keep h hv m (show (e.1, e.2) ∈ _ from he) hne)
theorem moved_get (m : Moved l l' ad an ai bd bn) {x : Nd} (hx : x ∈ l') : getN l' x.ino = x ∧ hasN l x.ino = true := by
  have := getN_of m.rise hx
  exact ⟨this.1, by rw [← m.has]; exact this.2⟩
theorem moved_sound (h : SoundP mi mb nx l) (hv : Mv l ad an ai bd bn) (m : Moved l l' ad an ai bd bn) : SoundP mi mb nx l' := by
  have hai1 := mv_one h hv
  have had : isDir l ad = true := by
    cases hd : isDir l ad
    · have hh := ents_has hv.ent
      have := h.tree.files _ (get_mem hh).1 (fun hk => by rw [dir_mk hh hk] at hd; cases hd)
      have he := hv.ent
      rw [this] at he; cases he
    · rfl
  have hold : ∀ x ∈ l', ∃ y ∈ l, y = getN l x.ino ∧ y.ino = x.ino ∧ y.kind = x.kind ∧ y.links = x.links ∧ y.data = x.data := by
    intro x hx
    obtain ⟨hg, hh⟩ := moved_get m hx
    obtain ⟨s1, s2, s3, s4⟩ := m.same x.ino
    rw [hg] at s1 s2 s3 s4
    exact ⟨_, (get_mem hh).1, rfl, s1.symm, s2.symm, s3.symm, s4.symm⟩
  have hpar : ∀ x ∈ l', x.parent = if x.ino = ai ∧ (getN l ai).kind = 2 then bd else (getN l x.ino).parent := fun x hx => by
    have := m.par x.ino
    rwa [(moved_get m hx).1] at this
  refine ⟨h.lim, ?_, m.rise, by rw [m.has]; exact h.root, by rw [(m.same 1).2.1]; exact h.rootDir, ?_, ?_, ?_, by rw [m.names]; exact h.noRoot, ?_, ?_, ?_, ?_, ?_⟩
  · intro x hx
    obtain ⟨y, hy, _, e1, _⟩ := hold x hx
    rw [← e1]; exact h.ino y hy
  · intro x hx
    obtain ⟨y, hy, ey, e1, e2, e3, e4⟩ := hold x hx
    have hs := h.kind y hy
    have hg := (moved_get m hx).1
    by_cases hk : x.kind = 2
    · unfold secondX at hs ⊢
      rw [if_pos (e2.trans hk), Bool.and_eq_true] at hs
      rw [if_pos hk, Bool.and_eq_true, ← e4]
      refine ⟨hs.1, ?_⟩
      have := m.right x.ino (by rw [← ey]; exact hs.2)
      rwa [hg] at this
    · have hne : ∀ d, isDir l d = true → x.ino ≠ d := fun d hd e => hk (by
        rw [← e2, ey, e]; exact (dir_parts hd).2)
      have hb := m.bare x.ino (hne ad had) (hne bd hv.dir)
      rw [hg, ← ey] at hb
      have hp := hpar x hx
      rw [if_neg (fun hc => hk (by rw [← e2, ey, hc.1]; exact hc.2)), ← ey] at hp
      unfold secondX at hs ⊢
      rw [if_neg (by rw [e2]; exact hk)] at hs
      rw [if_neg hk, hb, hp, ← e4, ← e2]
      exact hs
  · intro x hx e he
    rw [m.has]
    have hg := (moved_get m hx).1
    rw [← hg] at he
    rcases (m.ents x.ino e).1 he with ⟨_, rfl⟩ | ⟨he, _⟩
    · exact (h.there _ (get_mem (ents_has hv.ent)).1 (an, ai) hv.ent :)
    · exact h.there _ (get_mem (ents_has (show (e.1, e.2) ∈ _ from he))).1 e he
  · intro x hx
    obtain ⟨y, hy, _, e1, _, e3, _⟩ := hold x hx
    rw [m.names, ← e3, ← e1]; exact h.links y hy
  · rw [m.par, if_neg (fun hc => hai1 hc.1.symm)]; exact h.rootPar
  · intro x hx h1
    obtain ⟨y, hy, _, e1, _⟩ := hold x hx
    rw [m.names, ← e1]; exact h.named y hy (by rw [e1]; exact h1)
  · intro x hx hk h1
    obtain ⟨y, hy, ey, e1, e2, _⟩ := hold x hx
    obtain ⟨h7, n, hn⟩ := h.once y hy (e2.trans hk) (by rw [e1]; exact h1)
    rw [m.names, hpar x hx, ← e1]
    refine ⟨h7, ?_⟩
    by_cases hc : y.ino = ai
    · have hyk : (getN l y.ino).kind = 2 := by rw [(getN_of h.rise hy).1]; exact e2.trans hk
      rw [if_pos ⟨hc, by rw [← hc]; exact hyk⟩, hc]
      exact ⟨bn, (m.ents bd _).2 (.inl ⟨rfl, rfl⟩)⟩
    · rw [if_neg (fun h => hc h.1), (getN_of h.rise hy).1]
      exact ⟨n, moved_keep h hv m hn hc⟩
  · intro x hx
    obtain ⟨y, hy, _, e1, _⟩ := hold x hx
    rw [← e1]; exact moved_reach h hv m (h.reach y hy)
  · have := h.fits
    unfold fitsB at this ⊢
    rw [m.len, m.bytes]; exact this
end
end Go.Proofs.YtkdmfeikikmiiaaGreat
namespace Go.Proofs.YtkdmfeikikmiiaaGreat
section
variable {mi mb nx : Int} {l l' : List Nd} {ad : Int} {an : List UInt8} {ai bd : Int} {bn : List UInt8}
end
end Go.Proofs.YtkdmfeikikmiiaaGreat
namespace Go.Proofs.YtkdmfeikikmiiaaGreat
section
variable {mi mb nx : Int} {l l' : List Nd} {ad : Int} {an : List UInt8} {ai bd o : Int} {bn : List UInt8} {ev : Go.Value}
/-- What is bare is nobody's parent. -/
theorem par_bare (h : SoundP mi mb nx l) {o : Int} (hb : (getN l o).ents = []) {d : Int} (hd : isDir l d = true) (hne : d ≠ o) : ∀ k, parN l k d ≠ o := by
  intro k
  induction k with
  | zero => exact hne
  | succ k ih =>
    rw [par_add l k 1 d]
    show (getN l (parN l k d)).parent ≠ o
    have hx := par_dirs h hd k
    generalize parN l k d = x at *
    by_cases h1 : x = 1
    · rw [h1, h.rootPar, ← h1]; exact ih
    · obtain ⟨hh, hk⟩ := dir_parts hx
      obtain ⟨_, n, hn⟩ := h.once _ (get_mem hh).1 hk (by rw [(get_mem hh).2]; exact h1)
      rw [(get_mem hh).2] at hn
      rintro e
      rw [e, hb] at hn
      cases hn
theorem un_par (h : SoundP mi mb nx l) (hg : Gone l bd bn o) (k : Nat) : ∀ d, (∀ j, parN l j d ≠ o) → parN (unL l bd bn o ev) k d = parN l k d := by
  induction k with
  | zero => intro d _; rfl
  | succ k ih =>
    intro d hd
    show parN (unL l bd bn o ev) k (getN (unL l bd bn o ev) d).parent = parN l k (getN l d).parent
    have e : (getN (unL l bd bn o ev) d).parent = (getN l d).parent := by
      have h0 : d ≠ o := hd 0
      rw [un_get h hg, if_neg h0]
      split
      · rename_i e; subst e; rfl
      · rfl
    rw [e]
    exact ih _ fun j => hd (j + 1)
/-- What is moved to where something lay, that being away: a move to where nothing is. -/
theorem un_mv (h : SoundP mi mb nx l) (hg : Gone l bd bn o) (he : (an, ai) ∈ (getN l ad).ents) (ha : ai ≠ o) (hm : mayB bn = true) (ho : ∀ k, parN l k bd ≠ ai) : Mv (unL l bd bn o ev) ad an ai bd bn where
  ent := un_keep h hg he ha
  dir := by
    obtain ⟨h1, h2⟩ := dir_parts (gone_dir h hg)
    have hne := gone_ne hg
    refine dir_mk ?_ ?_
    · rw [un_has h hg, if_neg (fun e => hne e.symm)]; exact h1
    · rw [un_get h hg, if_neg (fun e => hne e.symm), if_pos rfl]; exact h2
  gone := by
    rw [un_get h hg, if_neg (fun e => gone_ne hg e.symm), if_pos rfl]
    show hasB (withoutB (getN l bd).ents bn) bn = false
    rw [(num_without (dir_sort h bd) bn bn).2]
    simp
  may := hm
  out := fun _ k => by
    rw [un_par h hg k bd (par_bare h hg.bare (gone_dir h hg) (fun e => gone_ne hg e.symm))]
    exact ho k
end
end Go.Proofs.YtkdmfeikikmiiaaGreat
namespace Go.Proofs.YtkdmfeikikmiiaaGreat
section
variable {mi mb nx : Int} {l l' : List Nd} {ad : Int} {an : List UInt8} {ai bd : Int} {bn : List UInt8}
end
end Go.Proofs.YtkdmfeikikmiiaaGreat
namespace Go.Proofs.YtkdmfeikikmiiaaGreat
section
variable {mi mb nx : Int} {l l' : List Nd} {ad : Int} {an : List UInt8} {ai bd : Int} {bn : List UInt8} {o : Int} {ev : Go.Value}
end
/-- What a rename moves. -/
theorem ren_mv {mi mb nx : Int} {l : List Nd} (h : SoundP mi mb nx l) {A B : Sp} (sA : Spot l A) (sB : Spot l B) (t : RenT l A B) (ev : Go.Value) : Mv (tL l B ev) A.dir A.name A.ino B.dir B.name := by
  obtain ⟨a1, a2, a3⟩ := sA.entry t.aname
  obtain ⟨b1, b2, b3⟩ := sB.entry t.bname
  rw [decide_eq_true t.aino] at a3
  have hent := (has_num h.tree a3).1
  rw [a2] at hent
  have hho : ∀ k, parN l k B.dir ≠ A.ino := by
    intro k e
    cases hd : isDir l A.ino
    · have := par_dirs h b1 k
      rw [e, hd] at this; cases this
    · exact t.out ⟨(dir_parts hd).2, (inside_iff h b1).2 ⟨k, e⟩⟩
  unfold tL
  by_cases hb : B.ino = 0
  · rw [if_neg (by simp [hb])]
    exact ⟨hent, b1, by rw [b3, hb]; rfl, t.may hb, fun _ => hho⟩
  · rw [if_pos hb]
    rw [decide_eq_true hb] at b3
    have hbe := (has_num h.tree b3).1
    have hm : mayB B.name = true := by
      obtain ⟨g1, g2⟩ := dir_parts b1
      have g := ((rightB_iff _).1 (h.tree.rights _ (get_mem g1).1 g2)).1 _ hbe
      unfold goodE at g
      rw [Bool.and_eq_true] at g
      exact g.1
    exact un_mv h (spot_gone h sB hb t.bname (t.bare hb)) hent t.ne hm hho
end Go.Proofs.YtkdmfeikikmiiaaGreat
namespace Go.Proofs.YtkdmfeikikmiiaaGreat
theorem stat_of {l : List Nd} {base p : List UInt8} {fo : Bool} {s : Sp} (h : seekP l base p fo = (s, 0)) (hh : hasN l s.ino = true) : statF l base p fo = (getN l s.ino, 0) := by
  unfold statF
  rw [h]
  dsimp only
  rw [if_neg (by simp), hh, if_neg (by simp)]
theorem kind_some {mi mb nx : Int} {l : List Nd} (h : SoundP mi mb nx l) {i : Int} (hi : hasN l i = true) : (getN l i).kind = 1 ∨ (getN l i).kind = 2 ∨ (getN l i).kind = 3 := by
  have := h.kind _ (get_mem hi).1
  unfold secondX at this
  split at this
  · rename_i e; exact .inr (.inl e)
  split at this
  · rename_i e; exact .inl e
  split at this
  · rename_i e; exact .inr (.inr e)
  · cases this
/-- What is read is a file's. -/
theorem read_ok {mi mb nx : Int} {l : List Nd} (h : OkS mi mb nx l) {base p : List UInt8} (h0 : (readF l base p).2 = 0) : ∃ i d n, seekP l base p true = (⟨d, n, i⟩, 0) ∧ hasN l i = true ∧ (getN l i).kind = 1 ∧ statF l base p true = (getN l i, 0) ∧ (readF l base p).1 = (getN l i).data := by
  have hs := sound_of h.check
  have hg := seek_good h base p
  unfold readF at h0 ⊢
  split at h0
  · rename_i c1; exact absurd h0 c1
  rename_i c1
  rw [if_neg c1]
  split at h0
  · cases h0
  rename_i c2
  rw [if_neg c2]
  have c1' : (statF l base p true).2 = 0 := by simpa using c1
  have e1 : (seekP l base p true).2 = 0 := by
    refine Decidable.byContradiction fun hn => ?_
    unfold statF at c1'
    rw [if_pos hn] at c1'
    exact hn c1'
  have e2 : hasN l (seekP l base p true).1.ino = true := by
    cases hh : hasN l (seekP l base p true).1.ino
    · unfold statF at c1'
      rw [if_neg (by simp [e1]), hh, if_pos rfl] at c1'
      cases c1'
    · rfl
  have hst := stat_of (s := (seekP l base p true).1) (Prod.ext rfl e1) e2
  have hgood := hg.1 e1
  generalize seekP l base p true = q at *
  obtain ⟨⟨d, n, i⟩, e⟩ := q
  dsimp only at e1 e2 hst hgood
  subst e1
  rw [hst] at c2
  dsimp only at c2
  have hk3 : (getN l i).kind ≠ 3 := by
    by_cases hn : n = []
    · exact fun _ => c2 (dir_parts (hgood.bare hn).1).2
    · exact (hgood.entry hn).2.2.2
  refine ⟨i, d, n, rfl, e2, ?_, hst, by rw [hst]⟩
  rcases kind_some hs e2 with h1 | h1 | h1
  · exact h1
  · exact absurd h1 c2
  · exact absurd h1 hk3
theorem write_bad {mi mb : Int} {l : List Nd} {base p d : List UInt8} (h0 : (writeF mi mb l base p d).2 ≠ 0) : (writeF mi mb l base p d).1 = l := by
  unfold writeF setF at h0 ⊢
  split
  · rfl
  split
  · rfl
  · rename_i c1 c2
    rw [if_neg c1, if_neg c2] at h0
    exact absurd rfl h0
theorem write_of {mi mb : Int} {l : List Nd} {base p d : List UInt8} {i : Int} (hi : hasN l i = true) (h : statF l base p true = (getN l i, 0)) (hk : (getN l i).kind = 1) : writeF mi mb l base p d = setF mi mb l i d := by
  have h1 : (readF l base p).2 = 0 := by
    unfold readF
    rw [h]
    dsimp only
    rw [if_neg (by simp), if_neg (by rw [hk]; decide)]
  unfold writeF
  rw [if_neg (by simp [h1]), h]
  dsimp only
  rw [(get_mem hi).2]
theorem set_good {mi mb : Int} {l : List Nd} {i : Int} {d : List UInt8} (h : (setF mi mb l i d).2 = 0) : setF mi mb l i d = (dataL l i d, 0) ∧ fitsB mi mb l 0 ((d.length : Int) - ((getN l i).data.length : Int)) = true := by
  unfold setF at h ⊢
  split at h
  · cases h
  · rename_i c; rw [if_neg c]; exact ⟨rfl, by simpa using c⟩
theorem ren_bad {l : List Nd} {base src dst : List UInt8} {ev e1 e2 : Go.Value} (h0 : (renameF l base src dst ev e1 e2).2 ≠ 0) : (renameF l base src dst ev e1 e2).1 = l := by
  unfold renameF at h0 ⊢
  by_cases c0 : (seekP l base src false).2 ≠ 0
  · rw [if_pos c0]
  rw [if_neg c0] at h0 ⊢
  by_cases c1 : (seekP l base src false).1.ino = 0
  · rw [if_pos c1]
  rw [if_neg c1] at h0 ⊢
  by_cases c2 : (seekP l base src false).1.name = []
  · rw [if_pos c2]
  rw [if_neg c2] at h0 ⊢
  by_cases c3 : (seekP l base dst false).2 ≠ 0
  · rw [if_pos c3]
  rw [if_neg c3] at h0 ⊢
  by_cases c4 : (seekP l base dst false).1.name = []
  · rw [if_pos c4]
  rw [if_neg c4] at h0 ⊢
  by_cases c5 : (seekP l base src false).1.ino = (seekP l base dst false).1.ino
  · rw [if_pos c5]
  rw [if_neg c5] at h0 ⊢
  by_cases c6 : (getN l (seekP l base src false).1.ino).kind = 2 ∧ insideN l (seekP l base dst false).1.dir (seekP l base src false).1.ino = true
  · rw [if_pos c6]
  rw [if_neg c6] at h0 ⊢
  by_cases c7 : (seekP l base dst false).1.ino = 0
  · rw [if_pos c7] at h0 ⊢
    by_cases c8 : slashB dst = true ∧ (getN l (seekP l base src false).1.ino).kind ≠ 2
    · rw [if_pos c8]
    rw [if_neg c8] at h0 ⊢
    by_cases c9 : mayB (seekP l base dst false).1.name = false
    · rw [if_pos c9]
    rw [if_neg c9] at h0 ⊢
    exact absurd rfl h0
  · rw [if_neg c7] at h0 ⊢
    by_cases c8 : (getN l (seekP l base src false).1.ino).kind = 2 ∧ (getN l (seekP l base dst false).1.ino).kind ≠ 2
    · rw [if_pos c8]
    rw [if_neg c8] at h0 ⊢
    by_cases c9 : (getN l (seekP l base dst false).1.ino).kind = 2 ∧ (getN l (seekP l base src false).1.ino).kind ≠ 2
    · rw [if_pos c9]
    rw [if_neg c9] at h0 ⊢
    by_cases c10 : (getN l (seekP l base dst false).1.ino).ents.length > 0
    · rw [if_pos c10]
    rw [if_neg c10] at h0 ⊢
    exact absurd rfl h0
end Go.Proofs.YtkdmfeikikmiiaaGreat
