/- Walks: Read. -/
import Derived.Test.YtobepdmpacdakaaGreatQB
set_option linter.unusedVariables false
set_option linter.unusedSimpArgs false
namespace Go.Proofs.YtobepdmpacdakaaGreat
open Go.RowKit Go.Shelf
attribute [local go_sem] Oper.semAt_some

theorem Tryz.infoS : (Tryz.prog.info? 9).map (fun i => (i.zero, i.size, i.bytes)) = some (some (.string ByteArray.empty), 1, 16) := by kernel_rfl
abbrev pathV (a : Bool) (v : Value) (s : Bool) : Array Value := #[.bool a, v, .bool s]

theorem endB_suffix (l : List UInt8) : Lib.hasSuffix l [47] = endB l := by
  unfold Lib.hasSuffix endB
  rw [Bool.eq_iff_iff, List.isSuffixOf_iff_suffix, beq_iff_eq]
  constructor
  · rintro ⟨r, rfl⟩; simp
  · intro h
    obtain ⟨ys, rfl⟩ := List.getLast?_eq_some_iff.1 h
    exact ⟨ys, rfl⟩
/-- The stores at the end: the field, then the whole result. -/
theorem four_set {W : World} {n D : Nat} {t e : TypeId} {cs : Array Value} {a s : Bool} {v : Value} {k : Nat} {xs : List Value} (hv : Blk W (n + 1) t cs) (hr : Blk W n t (pathV false (.slice none 0 0) false))
    (hrow : W.ownsRow n e 1 v k xs) (hte : t ≠ e) (hK : W.heap[D]? = some (.deferred (some []))) :
    ∃ W', W' = (((W.setCell ⟨n + 1, 2, none⟩ (.bool s)).setCell ⟨n, 0, none⟩ (.bool a)).setCell ⟨n, 1, none⟩ v).setCell ⟨n, 2, none⟩ (.bool s) ∧
      W'.heap[D]? = some (.deferred (some [])) ∧ Blk W' n t (pathV a v s) ∧ W'.ownsRow n e 1 v k xs ∧ Below n W W' := by
  refine ⟨_, rfl, ?_, ?_, ?_, ?_⟩
  · exact ((((KeepsOthers.setCell W _ _).trans (KeepsOthers.setCell _ _ _)).trans (KeepsOthers.setCell _ _ _)).trans (KeepsOthers.setCell _ _ _)).same D _ hK rfl
  · simpa [pathV] using (((hr.other (B2 := n + 1) (i := 2) (by omega) (.bool s)).set 0 (.bool a)).set 1 v).set 2 (.bool s)
  · have r1 := hrow.kept (grownBy_set W (n + 1) 2 (.bool s)) (.inr (hv.not_row hte hrow).symm)
    have q1 := hr.other (B2 := n + 1) (i := 2) (by omega) (.bool s)
    have r2 := r1.kept (grownBy_set _ n 0 (.bool a)) (.inr (q1.not_row hte r1).symm)
    have q2 := q1.set 0 (.bool a)
    have r3 := r2.kept (grownBy_set _ n 1 v) (.inr (q2.not_row hte r2).symm)
    have q3 := q2.set 1 v
    exact r3.kept (grownBy_set _ n 2 (.bool s)) (.inr (q3.not_row hte r3).symm)
  · exact ((((Below.refl n W).setCell (p := ⟨n + 1, 2, none⟩) (by simp) _).setCell (p := ⟨n, 0, none⟩) (Nat.le_refl _) _).setCell (p := ⟨n, 1, none⟩) (Nat.le_refl _) _).setCell (p := ⟨n, 2, none⟩) (Nat.le_refl _) _
theorem Blk.putObj {W : World} {B D : Nat} {t : TypeId} {cs : Array Value} (h : Blk W B t cs) {o : Obj} (o' : Obj) (hD : W.heap[D]? = some o) (ho : o.isCells = false) : Blk (W.putObj D o') B t cs :=
  h.kept (grownBy_putObj' W D o') (fun e => by
    obtain rfl : B = D := by simpa using e
    rw [show W.heap[B]? = _ from h] at hD; cases hD; cases ho)
set_option maxRecDepth 100000 in
set_option maxHeartbeats 4000000 in
theorem Read_any (p : List UInt8) (hp : p.length ≤ 1000000) (w : World) :
    Calls Tryz.prog 32 #[.string ⟨p.toArray⟩] w fun e w' => ∃ v, e = .returned (.agg (pathV (absB p) v (slashB p))) ∧ w'.ownsRow w.heap.size 9 1 v (namesB p).length (strsV (namesB p)) ∧ Below w.heap.size w w' := by
  obtain ⟨is, hsi, hs0, hs1, hs2⟩ := info_parts Tryz.infoS
  refine (callsIn_wide (n := 3)).1 ?_
  (refine callsIn_of_wp_marks Tryz.func32 rfl trivial ?_ rfl; simp only [Tryz.ntmps32, List.size_toArray, List.length_cons, List.length_nil, Nat.reduceAdd, Nat.reduceSub, Array.replicate_succ, Array.replicate_zero, List.push_toArray, List.append_toArray, List.nil_append, List.cons_append])
  gi_wp2_with fail
  refine ⟨trivial, ?_⟩
  gi_at_call 55
  refine (callsIn_wide.2 (absolute_any p _)).mono ?_
  rintro e w' ⟨rfl, rfl⟩
  gi_wp2_with fail
  refine ⟨trivial, ?_⟩
  gi_at_call 56
  refine (namesOf_in p _).mono ?_
  rintro e w' ⟨rfl, rfl⟩
  gi_wp2
  have b0 := Blk.new w 62 (pathV false (.slice none 0 0) false)
  have b1 := Blk.new (w.alloc (.cells (pathV false (.slice none 0 0) false) 62)) 62 (pathV (absB p) (.slice none 0 0) false)
  have b2 := Blk.new ((w.alloc (.cells (pathV false (.slice none 0 0) false) 62)).alloc (.cells (pathV (absB p) (.slice none 0 0) false) 62)) 9 #[.string ⟨p.toArray⟩]
  simp only [World.size_alloc] at b1 b2
  have hB0 : Below w.heap.size w (((w.alloc (.cells (pathV false (.slice none 0 0) false) 62)).alloc (.cells (pathV (absB p) (.slice none 0 0) false) 62)).alloc (.cells #[.string ⟨p.toArray⟩] 9)) := (((Below.refl _ w).alloc (Nat.le_refl _) _).alloc (by simp) _).alloc (by simp; omega) _
  refine wpIn_rangeFunc_ownG rfl (by omega) (gf := 82) (lb := #[.pointer (some ⟨w.heap.size + 1 + 1, 0, none⟩)]) rfl trivial (enters_of Tryz.func82 (by kernel_rfl) rfl)
    (names_stops (w.heap.size + 1 + 1) p hp _ (by simp) (b2.cell 0)) (fun _ _ => trivial) (fun _ _ _ _ _ _ _ _ => trivial) (Below.refl _ _) (fun _ => rfl)
    (fun pre W => ((∃ v, Blk W (w.heap.size + 1) 62 (pathV (absB p) v false) ∧ W.ownsRow w.heap.size 9 1 v pre.length (strsV (pre.map (·.1)))) ∧ Blk W w.heap.size 62 (pathV false (.slice none 0 0) false)) ∧ Below w.heap.size w W)
    (fun _ _ _ => False)
    (OwnFrom.and (Own.from (fun s A B row hs hg hr => ⟨blkRow_own (β := List Txt) w.heap.size (w.heap.size + 1) 62 9 1 (fun pre => pre.length) (fun pre => strsV (pre.map (·.1))) (fun v => pathV (absB p) v false) s A B row hs.1 hg hr, blk_own (β := Unit) _ _ (fun _ => pathV false (.slice none 0 0) false) () A B row hs.2 hg hr⟩) _) (ownFrom_below (Nat.le_refl _) (by simp; omega)))
    (fun _ _ _ _ _ hs _ _ => hs)
    ⟨⟨⟨_, b1.alloc _, World.ownsRow_nil _ _ _ _⟩, (b0.alloc _).alloc _⟩, hB0⟩
    (fun x => { tmps := #[.string ⟨p.toArray⟩, undef, .pointer (some ⟨w.heap.size, 0, none⟩), .pointer (some ⟨w.heap.size + 1, 0, none⟩), .string ⟨x.1.toArray⟩, .string ⟨p.toArray⟩, .bool (absB p), .agg (pathV (absB p) (.slice none 0 0) false), .string ⟨p.toArray⟩,
      .func (.func 82) #[] #[.pointer (some ⟨w.heap.size + 1 + 1, 0, none⟩)], .string ⟨x.1.toArray⟩, undef, undef, undef, undef, undef, undef, undef, undef, undef, undef, undef, undef, undef, undef, undef, undef, undef], defers := [] }) ?assign ?body ?done ?stop
  case assign =>
    intro l x W K hK
    gi_wp2
    exact hK
  case body =>
    rintro l pre x W ⟨⟨⟨v, hv, hrow⟩, hr0⟩, hB⟩ hlen
    have hmx : Tryz.prog.follows .mixedOrders = true := by kernel_rfl
    gi_wp2
    refine wpIn_region_any hmx ?_
    try (change wpAnyIn _ _ _ _ _ _ _ _ _ (World.drew _))
    have hB1 : Below w.heap.size w W.drew := hB.drew
    have hv1 : Blk W.drew (w.heap.size + 1) 62 (pathV (absB p) v false) := hv
    have hr1 : Blk W.drew w.heap.size 62 (pathV false (.slice none 0 0) false) := hr0
    have hrow1 : W.drew.ownsRow w.heap.size 9 1 v pre.length (strsV (pre.map (·.1))) := hrow
    have hkeep : KeepsOthers W W.drew := KeepsOthers.drew _
    generalize W.drew = Wd at *
    clear hv hrow hr0 hB
    have hc := hv1.cell 1
    simp [pathV] at hc
    -- THE ORDERS
    refine wpAnyIn_ready (rs := [0, 2]) (by kernel_rfl) (by simp) ?_
    refine AllReadyIn.cons rfl (fun K hK => ?_) ?_
    · go_simp
      refine hK _ _ ?_
      clear hK K
      refine wpAnyIn_ready (rs := [1, 2]) (by kernel_rfl) (by simp) ?_
      refine AllReadyIn.cons rfl (fun K hK => ?_) ?_
      · go_simp
        refine hK _ _ ?_
        clear hK K
        refine wpAnyIn_ready (rs := [2]) (by kernel_rfl) (by simp) ?_
        refine AllReadyIn.cons rfl (fun K hK => ?_) ?_
        · go_simp
          refine hK _ _ ?_
          clear hK K
          refine wpAnyIn_ready (rs := [3]) (by kernel_rfl) (by simp) ?_
          refine AllReadyIn.cons rfl (fun K hK => ?_) ?_
          · go_simp
            gi_wp2_with (refine ⟨trivial, ?_⟩; gi_at_call 57; refine (CallsIn.inRound l (callsIn_wide.2 (Clone_any x.1 _ (Nat.le_trans x.2 (by decide))))).mono ?_; rintro e w2 ⟨rfl, hC⟩; have hc2 : w2.cell? ⟨w.heap.size + 1, 1, none⟩ = some v := (hC.cell (p := ⟨w.heap.size + 1, 1, none⟩) hv1.lt).trans hc; have hc4 : ∀ o, (w2.alloc o).cell? ⟨w.heap.size + 1, 1, none⟩ = some v := fun o => ((hv1.next hC).alloc o).cell 1; have hrow2 := own_keep hrow1 hC)
            refine wpAnyIn_ready (rs := [4]) (by kernel_rfl) (by simp) ?_
            refine AllReadyIn.cons rfl (fun K hK => ?_) ?_
            · go_simp
              refine hK _ _ ?_
              clear hK K
              refine wpAnyIn_ready (rs := [5]) (by kernel_rfl) (by simp) ?_
              refine AllReadyIn.cons rfl (fun K hK => ?_) ?_
              · refine stepIn_append_own rfl (.tmp 12) (.tmp 15) 60 9 rfl Tryz.underlying60 hsi hs0 hs1 hs2 rfl (by decide) w.heap.size ⟨w2.heap.size, 0, none⟩ 1 [.string ⟨x.1.toArray⟩] rfl rfl (hrow2.alloc _) rfl (cell_one_new _ _ _) (by simp [Value.oneCell']) (by unfold maxLen; omega) (by omega) (by have := hC.size; have := hB1.size; simp; omega) ?_
                intro v' w1 hown' hgrow
                have hr2 := (((hr1.next hC).alloc _).kept hgrow ((hr1.next hC).not_row (by decide) hrow2)).other (B2 := w.heap.size + 1) (i := 1) (by omega) v'
                obtain ⟨g', cap', rfl⟩ := ownsRow_succ hown'
                obtain ⟨h1, h2, h3, h4, h5⟩ := hv1.appended (i := 1) (by decide) hrow1 hB1.size (by omega) hC hown' hgrow
                have hc3 := h1.cell 1
                have hf3 := h1.frozen 1
                simp [pathV] at hc3
                refine hK _ _ ?_
                clear hK K
                refine wpAnyIn_ready (rs := [6]) (by kernel_rfl) (by simp) ?_
                refine AllReadyIn.cons rfl (fun K hK => ?_) ?_
                · go_simp
                  refine hK _ _ ?_
                  clear hK K
                  refine wpAnyIn_ready (rs := [7]) (by kernel_rfl) (by simp) ?_
                  refine AllReadyIn.cons rfl (fun K hK => ?_) ?_
                  · go_simp
                    refine hK _ _ ?_
                    clear hK K
                    refine wpAnyIn_done (by kernel_rfl) ?_ _
                    exact ⟨(hkeep.trans h4).from _, trivial, ⟨⟨_, by simpa [pathV] using h2, by simpa [strsV] using h3⟩, hr2⟩, hB1.trans h5⟩
                  exact AllReadyIn.nil
                exact AllReadyIn.nil
              exact AllReadyIn.nil
            exact AllReadyIn.nil
          exact AllReadyIn.nil
        exact AllReadyIn.nil
      refine AllReadyIn.cons rfl (fun K hK => ?_) ?_
      · go_simp
        refine hK _ _ ?_
        clear hK K
        refine wpAnyIn_ready (rs := [1, 3]) (by kernel_rfl) (by simp) ?_
        refine AllReadyIn.cons rfl (fun K hK => ?_) ?_
        · go_simp
          refine hK _ _ ?_
          clear hK K
          refine wpAnyIn_ready (rs := [3]) (by kernel_rfl) (by simp) ?_
          refine AllReadyIn.cons rfl (fun K hK => ?_) ?_
          · go_simp
            gi_wp2_with (refine ⟨trivial, ?_⟩; gi_at_call 57; refine (CallsIn.inRound l (callsIn_wide.2 (Clone_any x.1 _ (Nat.le_trans x.2 (by decide))))).mono ?_; rintro e w2 ⟨rfl, hC⟩; have hc2 : w2.cell? ⟨w.heap.size + 1, 1, none⟩ = some v := (hC.cell (p := ⟨w.heap.size + 1, 1, none⟩) hv1.lt).trans hc; have hc4 : ∀ o, (w2.alloc o).cell? ⟨w.heap.size + 1, 1, none⟩ = some v := fun o => ((hv1.next hC).alloc o).cell 1; have hrow2 := own_keep hrow1 hC)
            refine wpAnyIn_ready (rs := [4]) (by kernel_rfl) (by simp) ?_
            refine AllReadyIn.cons rfl (fun K hK => ?_) ?_
            · go_simp
              refine hK _ _ ?_
              clear hK K
              refine wpAnyIn_ready (rs := [5]) (by kernel_rfl) (by simp) ?_
              refine AllReadyIn.cons rfl (fun K hK => ?_) ?_
              · refine stepIn_append_own rfl (.tmp 12) (.tmp 15) 60 9 rfl Tryz.underlying60 hsi hs0 hs1 hs2 rfl (by decide) w.heap.size ⟨w2.heap.size, 0, none⟩ 1 [.string ⟨x.1.toArray⟩] rfl rfl (hrow2.alloc _) rfl (cell_one_new _ _ _) (by simp [Value.oneCell']) (by unfold maxLen; omega) (by omega) (by have := hC.size; have := hB1.size; simp; omega) ?_
                intro v' w1 hown' hgrow
                have hr2 := (((hr1.next hC).alloc _).kept hgrow ((hr1.next hC).not_row (by decide) hrow2)).other (B2 := w.heap.size + 1) (i := 1) (by omega) v'
                obtain ⟨g', cap', rfl⟩ := ownsRow_succ hown'
                obtain ⟨h1, h2, h3, h4, h5⟩ := hv1.appended (i := 1) (by decide) hrow1 hB1.size (by omega) hC hown' hgrow
                have hc3 := h1.cell 1
                have hf3 := h1.frozen 1
                simp [pathV] at hc3
                refine hK _ _ ?_
                clear hK K
                refine wpAnyIn_ready (rs := [6]) (by kernel_rfl) (by simp) ?_
                refine AllReadyIn.cons rfl (fun K hK => ?_) ?_
                · go_simp
                  refine hK _ _ ?_
                  clear hK K
                  refine wpAnyIn_ready (rs := [7]) (by kernel_rfl) (by simp) ?_
                  refine AllReadyIn.cons rfl (fun K hK => ?_) ?_
                  · go_simp
                    refine hK _ _ ?_
                    clear hK K
                    refine wpAnyIn_done (by kernel_rfl) ?_ _
                    exact ⟨(hkeep.trans h4).from _, trivial, ⟨⟨_, by simpa [pathV] using h2, by simpa [strsV] using h3⟩, hr2⟩, hB1.trans h5⟩
                  exact AllReadyIn.nil
                exact AllReadyIn.nil
              exact AllReadyIn.nil
            exact AllReadyIn.nil
          exact AllReadyIn.nil
        refine AllReadyIn.cons rfl (fun K hK => ?_) ?_
        · go_simp
          gi_wp2_with (refine ⟨trivial, ?_⟩; gi_at_call 57; refine (CallsIn.inRound l (callsIn_wide.2 (Clone_any x.1 _ (Nat.le_trans x.2 (by decide))))).mono ?_; rintro e w2 ⟨rfl, hC⟩; have hc2 : w2.cell? ⟨w.heap.size + 1, 1, none⟩ = some v := (hC.cell (p := ⟨w.heap.size + 1, 1, none⟩) hv1.lt).trans hc; have hc4 : ∀ o, (w2.alloc o).cell? ⟨w.heap.size + 1, 1, none⟩ = some v := fun o => ((hv1.next hC).alloc o).cell 1; have hrow2 := own_keep hrow1 hC)
          refine wpAnyIn_ready (rs := [1, 4]) (by kernel_rfl) (by simp) ?_
          refine AllReadyIn.cons rfl (fun K hK => ?_) ?_
          · go_simp
            refine hK _ _ ?_
            clear hK K
            refine wpAnyIn_ready (rs := [4]) (by kernel_rfl) (by simp) ?_
            refine AllReadyIn.cons rfl (fun K hK => ?_) ?_
            · go_simp
              refine hK _ _ ?_
              clear hK K
              refine wpAnyIn_ready (rs := [5]) (by kernel_rfl) (by simp) ?_
              refine AllReadyIn.cons rfl (fun K hK => ?_) ?_
              · refine stepIn_append_own rfl (.tmp 12) (.tmp 15) 60 9 rfl Tryz.underlying60 hsi hs0 hs1 hs2 rfl (by decide) w.heap.size ⟨w2.heap.size, 0, none⟩ 1 [.string ⟨x.1.toArray⟩] rfl rfl (hrow2.alloc _) rfl (cell_one_new _ _ _) (by simp [Value.oneCell']) (by unfold maxLen; omega) (by omega) (by have := hC.size; have := hB1.size; simp; omega) ?_
                intro v' w1 hown' hgrow
                have hr2 := (((hr1.next hC).alloc _).kept hgrow ((hr1.next hC).not_row (by decide) hrow2)).other (B2 := w.heap.size + 1) (i := 1) (by omega) v'
                obtain ⟨g', cap', rfl⟩ := ownsRow_succ hown'
                obtain ⟨h1, h2, h3, h4, h5⟩ := hv1.appended (i := 1) (by decide) hrow1 hB1.size (by omega) hC hown' hgrow
                have hc3 := h1.cell 1
                have hf3 := h1.frozen 1
                simp [pathV] at hc3
                refine hK _ _ ?_
                clear hK K
                refine wpAnyIn_ready (rs := [6]) (by kernel_rfl) (by simp) ?_
                refine AllReadyIn.cons rfl (fun K hK => ?_) ?_
                · go_simp
                  refine hK _ _ ?_
                  clear hK K
                  refine wpAnyIn_ready (rs := [7]) (by kernel_rfl) (by simp) ?_
                  refine AllReadyIn.cons rfl (fun K hK => ?_) ?_
                  · go_simp
                    refine hK _ _ ?_
                    clear hK K
                    refine wpAnyIn_done (by kernel_rfl) ?_ _
                    exact ⟨(hkeep.trans h4).from _, trivial, ⟨⟨_, by simpa [pathV] using h2, by simpa [strsV] using h3⟩, hr2⟩, hB1.trans h5⟩
                  exact AllReadyIn.nil
                exact AllReadyIn.nil
              exact AllReadyIn.nil
            exact AllReadyIn.nil
          refine AllReadyIn.cons rfl (fun K hK => ?_) ?_
          · go_simp
            refine hK _ _ ?_
            clear hK K
            refine wpAnyIn_ready (rs := [1]) (by kernel_rfl) (by simp) ?_
            refine AllReadyIn.cons rfl (fun K hK => ?_) ?_
            · go_simp
              refine hK _ _ ?_
              clear hK K
              refine wpAnyIn_ready (rs := [5]) (by kernel_rfl) (by simp) ?_
              refine AllReadyIn.cons rfl (fun K hK => ?_) ?_
              · refine stepIn_append_own rfl (.tmp 12) (.tmp 15) 60 9 rfl Tryz.underlying60 hsi hs0 hs1 hs2 rfl (by decide) w.heap.size ⟨w2.heap.size, 0, none⟩ 1 [.string ⟨x.1.toArray⟩] rfl rfl (hrow2.alloc _) rfl (cell_one_new _ _ _) (by simp [Value.oneCell']) (by unfold maxLen; omega) (by omega) (by have := hC.size; have := hB1.size; simp; omega) ?_
                intro v' w1 hown' hgrow
                have hr2 := (((hr1.next hC).alloc _).kept hgrow ((hr1.next hC).not_row (by decide) hrow2)).other (B2 := w.heap.size + 1) (i := 1) (by omega) v'
                obtain ⟨g', cap', rfl⟩ := ownsRow_succ hown'
                obtain ⟨h1, h2, h3, h4, h5⟩ := hv1.appended (i := 1) (by decide) hrow1 hB1.size (by omega) hC hown' hgrow
                have hc3 := h1.cell 1
                have hf3 := h1.frozen 1
                simp [pathV] at hc3
                refine hK _ _ ?_
                clear hK K
                refine wpAnyIn_ready (rs := [6]) (by kernel_rfl) (by simp) ?_
                refine AllReadyIn.cons rfl (fun K hK => ?_) ?_
                · go_simp
                  refine hK _ _ ?_
                  clear hK K
                  refine wpAnyIn_ready (rs := [7]) (by kernel_rfl) (by simp) ?_
                  refine AllReadyIn.cons rfl (fun K hK => ?_) ?_
                  · go_simp
                    refine hK _ _ ?_
                    clear hK K
                    refine wpAnyIn_done (by kernel_rfl) ?_ _
                    exact ⟨(hkeep.trans h4).from _, trivial, ⟨⟨_, by simpa [pathV] using h2, by simpa [strsV] using h3⟩, hr2⟩, hB1.trans h5⟩
                  exact AllReadyIn.nil
                exact AllReadyIn.nil
              exact AllReadyIn.nil
            exact AllReadyIn.nil
          exact AllReadyIn.nil
        exact AllReadyIn.nil
      exact AllReadyIn.nil
    refine AllReadyIn.cons rfl (fun K hK => ?_) ?_
    · go_simp
      refine hK _ _ ?_
      clear hK K
      refine wpAnyIn_ready (rs := [0, 3]) (by kernel_rfl) (by simp) ?_
      refine AllReadyIn.cons rfl (fun K hK => ?_) ?_
      · go_simp
        refine hK _ _ ?_
        clear hK K
        refine wpAnyIn_ready (rs := [1, 3]) (by kernel_rfl) (by simp) ?_
        refine AllReadyIn.cons rfl (fun K hK => ?_) ?_
        · go_simp
          refine hK _ _ ?_
          clear hK K
          refine wpAnyIn_ready (rs := [3]) (by kernel_rfl) (by simp) ?_
          refine AllReadyIn.cons rfl (fun K hK => ?_) ?_
          · go_simp
            gi_wp2_with (refine ⟨trivial, ?_⟩; gi_at_call 57; refine (CallsIn.inRound l (callsIn_wide.2 (Clone_any x.1 _ (Nat.le_trans x.2 (by decide))))).mono ?_; rintro e w2 ⟨rfl, hC⟩; have hc2 : w2.cell? ⟨w.heap.size + 1, 1, none⟩ = some v := (hC.cell (p := ⟨w.heap.size + 1, 1, none⟩) hv1.lt).trans hc; have hc4 : ∀ o, (w2.alloc o).cell? ⟨w.heap.size + 1, 1, none⟩ = some v := fun o => ((hv1.next hC).alloc o).cell 1; have hrow2 := own_keep hrow1 hC)
            refine wpAnyIn_ready (rs := [4]) (by kernel_rfl) (by simp) ?_
            refine AllReadyIn.cons rfl (fun K hK => ?_) ?_
            · go_simp
              refine hK _ _ ?_
              clear hK K
              refine wpAnyIn_ready (rs := [5]) (by kernel_rfl) (by simp) ?_
              refine AllReadyIn.cons rfl (fun K hK => ?_) ?_
              · refine stepIn_append_own rfl (.tmp 12) (.tmp 15) 60 9 rfl Tryz.underlying60 hsi hs0 hs1 hs2 rfl (by decide) w.heap.size ⟨w2.heap.size, 0, none⟩ 1 [.string ⟨x.1.toArray⟩] rfl rfl (hrow2.alloc _) rfl (cell_one_new _ _ _) (by simp [Value.oneCell']) (by unfold maxLen; omega) (by omega) (by have := hC.size; have := hB1.size; simp; omega) ?_
                intro v' w1 hown' hgrow
                have hr2 := (((hr1.next hC).alloc _).kept hgrow ((hr1.next hC).not_row (by decide) hrow2)).other (B2 := w.heap.size + 1) (i := 1) (by omega) v'
                obtain ⟨g', cap', rfl⟩ := ownsRow_succ hown'
                obtain ⟨h1, h2, h3, h4, h5⟩ := hv1.appended (i := 1) (by decide) hrow1 hB1.size (by omega) hC hown' hgrow
                have hc3 := h1.cell 1
                have hf3 := h1.frozen 1
                simp [pathV] at hc3
                refine hK _ _ ?_
                clear hK K
                refine wpAnyIn_ready (rs := [6]) (by kernel_rfl) (by simp) ?_
                refine AllReadyIn.cons rfl (fun K hK => ?_) ?_
                · go_simp
                  refine hK _ _ ?_
                  clear hK K
                  refine wpAnyIn_ready (rs := [7]) (by kernel_rfl) (by simp) ?_
                  refine AllReadyIn.cons rfl (fun K hK => ?_) ?_
                  · go_simp
                    refine hK _ _ ?_
                    clear hK K
                    refine wpAnyIn_done (by kernel_rfl) ?_ _
                    exact ⟨(hkeep.trans h4).from _, trivial, ⟨⟨_, by simpa [pathV] using h2, by simpa [strsV] using h3⟩, hr2⟩, hB1.trans h5⟩
                  exact AllReadyIn.nil
                exact AllReadyIn.nil
              exact AllReadyIn.nil
            exact AllReadyIn.nil
          exact AllReadyIn.nil
        refine AllReadyIn.cons rfl (fun K hK => ?_) ?_
        · go_simp
          gi_wp2_with (refine ⟨trivial, ?_⟩; gi_at_call 57; refine (CallsIn.inRound l (callsIn_wide.2 (Clone_any x.1 _ (Nat.le_trans x.2 (by decide))))).mono ?_; rintro e w2 ⟨rfl, hC⟩; have hc2 : w2.cell? ⟨w.heap.size + 1, 1, none⟩ = some v := (hC.cell (p := ⟨w.heap.size + 1, 1, none⟩) hv1.lt).trans hc; have hc4 : ∀ o, (w2.alloc o).cell? ⟨w.heap.size + 1, 1, none⟩ = some v := fun o => ((hv1.next hC).alloc o).cell 1; have hrow2 := own_keep hrow1 hC)
          refine wpAnyIn_ready (rs := [1, 4]) (by kernel_rfl) (by simp) ?_
          refine AllReadyIn.cons rfl (fun K hK => ?_) ?_
          · go_simp
            refine hK _ _ ?_
            clear hK K
            refine wpAnyIn_ready (rs := [4]) (by kernel_rfl) (by simp) ?_
            refine AllReadyIn.cons rfl (fun K hK => ?_) ?_
            · go_simp
              refine hK _ _ ?_
              clear hK K
              refine wpAnyIn_ready (rs := [5]) (by kernel_rfl) (by simp) ?_
              refine AllReadyIn.cons rfl (fun K hK => ?_) ?_
              · refine stepIn_append_own rfl (.tmp 12) (.tmp 15) 60 9 rfl Tryz.underlying60 hsi hs0 hs1 hs2 rfl (by decide) w.heap.size ⟨w2.heap.size, 0, none⟩ 1 [.string ⟨x.1.toArray⟩] rfl rfl (hrow2.alloc _) rfl (cell_one_new _ _ _) (by simp [Value.oneCell']) (by unfold maxLen; omega) (by omega) (by have := hC.size; have := hB1.size; simp; omega) ?_
                intro v' w1 hown' hgrow
                have hr2 := (((hr1.next hC).alloc _).kept hgrow ((hr1.next hC).not_row (by decide) hrow2)).other (B2 := w.heap.size + 1) (i := 1) (by omega) v'
                obtain ⟨g', cap', rfl⟩ := ownsRow_succ hown'
                obtain ⟨h1, h2, h3, h4, h5⟩ := hv1.appended (i := 1) (by decide) hrow1 hB1.size (by omega) hC hown' hgrow
                have hc3 := h1.cell 1
                have hf3 := h1.frozen 1
                simp [pathV] at hc3
                refine hK _ _ ?_
                clear hK K
                refine wpAnyIn_ready (rs := [6]) (by kernel_rfl) (by simp) ?_
                refine AllReadyIn.cons rfl (fun K hK => ?_) ?_
                · go_simp
                  refine hK _ _ ?_
                  clear hK K
                  refine wpAnyIn_ready (rs := [7]) (by kernel_rfl) (by simp) ?_
                  refine AllReadyIn.cons rfl (fun K hK => ?_) ?_
                  · go_simp
                    refine hK _ _ ?_
                    clear hK K
                    refine wpAnyIn_done (by kernel_rfl) ?_ _
                    exact ⟨(hkeep.trans h4).from _, trivial, ⟨⟨_, by simpa [pathV] using h2, by simpa [strsV] using h3⟩, hr2⟩, hB1.trans h5⟩
                  exact AllReadyIn.nil
                exact AllReadyIn.nil
              exact AllReadyIn.nil
            exact AllReadyIn.nil
          refine AllReadyIn.cons rfl (fun K hK => ?_) ?_
          · go_simp
            refine hK _ _ ?_
            clear hK K
            refine wpAnyIn_ready (rs := [1]) (by kernel_rfl) (by simp) ?_
            refine AllReadyIn.cons rfl (fun K hK => ?_) ?_
            · go_simp
              refine hK _ _ ?_
              clear hK K
              refine wpAnyIn_ready (rs := [5]) (by kernel_rfl) (by simp) ?_
              refine AllReadyIn.cons rfl (fun K hK => ?_) ?_
              · refine stepIn_append_own rfl (.tmp 12) (.tmp 15) 60 9 rfl Tryz.underlying60 hsi hs0 hs1 hs2 rfl (by decide) w.heap.size ⟨w2.heap.size, 0, none⟩ 1 [.string ⟨x.1.toArray⟩] rfl rfl (hrow2.alloc _) rfl (cell_one_new _ _ _) (by simp [Value.oneCell']) (by unfold maxLen; omega) (by omega) (by have := hC.size; have := hB1.size; simp; omega) ?_
                intro v' w1 hown' hgrow
                have hr2 := (((hr1.next hC).alloc _).kept hgrow ((hr1.next hC).not_row (by decide) hrow2)).other (B2 := w.heap.size + 1) (i := 1) (by omega) v'
                obtain ⟨g', cap', rfl⟩ := ownsRow_succ hown'
                obtain ⟨h1, h2, h3, h4, h5⟩ := hv1.appended (i := 1) (by decide) hrow1 hB1.size (by omega) hC hown' hgrow
                have hc3 := h1.cell 1
                have hf3 := h1.frozen 1
                simp [pathV] at hc3
                refine hK _ _ ?_
                clear hK K
                refine wpAnyIn_ready (rs := [6]) (by kernel_rfl) (by simp) ?_
                refine AllReadyIn.cons rfl (fun K hK => ?_) ?_
                · go_simp
                  refine hK _ _ ?_
                  clear hK K
                  refine wpAnyIn_ready (rs := [7]) (by kernel_rfl) (by simp) ?_
                  refine AllReadyIn.cons rfl (fun K hK => ?_) ?_
                  · go_simp
                    refine hK _ _ ?_
                    clear hK K
                    refine wpAnyIn_done (by kernel_rfl) ?_ _
                    exact ⟨(hkeep.trans h4).from _, trivial, ⟨⟨_, by simpa [pathV] using h2, by simpa [strsV] using h3⟩, hr2⟩, hB1.trans h5⟩
                  exact AllReadyIn.nil
                exact AllReadyIn.nil
              exact AllReadyIn.nil
            exact AllReadyIn.nil
          exact AllReadyIn.nil
        exact AllReadyIn.nil
      refine AllReadyIn.cons rfl (fun K hK => ?_) ?_
      · go_simp
        gi_wp2_with (refine ⟨trivial, ?_⟩; gi_at_call 57; refine (CallsIn.inRound l (callsIn_wide.2 (Clone_any x.1 _ (Nat.le_trans x.2 (by decide))))).mono ?_; rintro e w2 ⟨rfl, hC⟩; have hc2 : w2.cell? ⟨w.heap.size + 1, 1, none⟩ = some v := (hC.cell (p := ⟨w.heap.size + 1, 1, none⟩) hv1.lt).trans hc; have hc4 : ∀ o, (w2.alloc o).cell? ⟨w.heap.size + 1, 1, none⟩ = some v := fun o => ((hv1.next hC).alloc o).cell 1; have hrow2 := own_keep hrow1 hC)
        refine wpAnyIn_ready (rs := [0, 4]) (by kernel_rfl) (by simp) ?_
        refine AllReadyIn.cons rfl (fun K hK => ?_) ?_
        · go_simp
          refine hK _ _ ?_
          clear hK K
          refine wpAnyIn_ready (rs := [1, 4]) (by kernel_rfl) (by simp) ?_
          refine AllReadyIn.cons rfl (fun K hK => ?_) ?_
          · go_simp
            refine hK _ _ ?_
            clear hK K
            refine wpAnyIn_ready (rs := [4]) (by kernel_rfl) (by simp) ?_
            refine AllReadyIn.cons rfl (fun K hK => ?_) ?_
            · go_simp
              refine hK _ _ ?_
              clear hK K
              refine wpAnyIn_ready (rs := [5]) (by kernel_rfl) (by simp) ?_
              refine AllReadyIn.cons rfl (fun K hK => ?_) ?_
              · refine stepIn_append_own rfl (.tmp 12) (.tmp 15) 60 9 rfl Tryz.underlying60 hsi hs0 hs1 hs2 rfl (by decide) w.heap.size ⟨w2.heap.size, 0, none⟩ 1 [.string ⟨x.1.toArray⟩] rfl rfl (hrow2.alloc _) rfl (cell_one_new _ _ _) (by simp [Value.oneCell']) (by unfold maxLen; omega) (by omega) (by have := hC.size; have := hB1.size; simp; omega) ?_
                intro v' w1 hown' hgrow
                have hr2 := (((hr1.next hC).alloc _).kept hgrow ((hr1.next hC).not_row (by decide) hrow2)).other (B2 := w.heap.size + 1) (i := 1) (by omega) v'
                obtain ⟨g', cap', rfl⟩ := ownsRow_succ hown'
                obtain ⟨h1, h2, h3, h4, h5⟩ := hv1.appended (i := 1) (by decide) hrow1 hB1.size (by omega) hC hown' hgrow
                have hc3 := h1.cell 1
                have hf3 := h1.frozen 1
                simp [pathV] at hc3
                refine hK _ _ ?_
                clear hK K
                refine wpAnyIn_ready (rs := [6]) (by kernel_rfl) (by simp) ?_
                refine AllReadyIn.cons rfl (fun K hK => ?_) ?_
                · go_simp
                  refine hK _ _ ?_
                  clear hK K
                  refine wpAnyIn_ready (rs := [7]) (by kernel_rfl) (by simp) ?_
                  refine AllReadyIn.cons rfl (fun K hK => ?_) ?_
                  · go_simp
                    refine hK _ _ ?_
                    clear hK K
                    refine wpAnyIn_done (by kernel_rfl) ?_ _
                    exact ⟨(hkeep.trans h4).from _, trivial, ⟨⟨_, by simpa [pathV] using h2, by simpa [strsV] using h3⟩, hr2⟩, hB1.trans h5⟩
                  exact AllReadyIn.nil
                exact AllReadyIn.nil
              exact AllReadyIn.nil
            exact AllReadyIn.nil
          refine AllReadyIn.cons rfl (fun K hK => ?_) ?_
          · go_simp
            refine hK _ _ ?_
            clear hK K
            refine wpAnyIn_ready (rs := [1]) (by kernel_rfl) (by simp) ?_
            refine AllReadyIn.cons rfl (fun K hK => ?_) ?_
            · go_simp
              refine hK _ _ ?_
              clear hK K
              refine wpAnyIn_ready (rs := [5]) (by kernel_rfl) (by simp) ?_
              refine AllReadyIn.cons rfl (fun K hK => ?_) ?_
              · refine stepIn_append_own rfl (.tmp 12) (.tmp 15) 60 9 rfl Tryz.underlying60 hsi hs0 hs1 hs2 rfl (by decide) w.heap.size ⟨w2.heap.size, 0, none⟩ 1 [.string ⟨x.1.toArray⟩] rfl rfl (hrow2.alloc _) rfl (cell_one_new _ _ _) (by simp [Value.oneCell']) (by unfold maxLen; omega) (by omega) (by have := hC.size; have := hB1.size; simp; omega) ?_
                intro v' w1 hown' hgrow
                have hr2 := (((hr1.next hC).alloc _).kept hgrow ((hr1.next hC).not_row (by decide) hrow2)).other (B2 := w.heap.size + 1) (i := 1) (by omega) v'
                obtain ⟨g', cap', rfl⟩ := ownsRow_succ hown'
                obtain ⟨h1, h2, h3, h4, h5⟩ := hv1.appended (i := 1) (by decide) hrow1 hB1.size (by omega) hC hown' hgrow
                have hc3 := h1.cell 1
                have hf3 := h1.frozen 1
                simp [pathV] at hc3
                refine hK _ _ ?_
                clear hK K
                refine wpAnyIn_ready (rs := [6]) (by kernel_rfl) (by simp) ?_
                refine AllReadyIn.cons rfl (fun K hK => ?_) ?_
                · go_simp
                  refine hK _ _ ?_
                  clear hK K
                  refine wpAnyIn_ready (rs := [7]) (by kernel_rfl) (by simp) ?_
                  refine AllReadyIn.cons rfl (fun K hK => ?_) ?_
                  · go_simp
                    refine hK _ _ ?_
                    clear hK K
                    refine wpAnyIn_done (by kernel_rfl) ?_ _
                    exact ⟨(hkeep.trans h4).from _, trivial, ⟨⟨_, by simpa [pathV] using h2, by simpa [strsV] using h3⟩, hr2⟩, hB1.trans h5⟩
                  exact AllReadyIn.nil
                exact AllReadyIn.nil
              exact AllReadyIn.nil
            exact AllReadyIn.nil
          exact AllReadyIn.nil
        refine AllReadyIn.cons rfl (fun K hK => ?_) ?_
        · go_simp
          refine hK _ _ ?_
          clear hK K
          refine wpAnyIn_ready (rs := [0]) (by kernel_rfl) (by simp) ?_
          refine AllReadyIn.cons rfl (fun K hK => ?_) ?_
          · go_simp
            refine hK _ _ ?_
            clear hK K
            refine wpAnyIn_ready (rs := [1]) (by kernel_rfl) (by simp) ?_
            refine AllReadyIn.cons rfl (fun K hK => ?_) ?_
            · go_simp
              refine hK _ _ ?_
              clear hK K
              refine wpAnyIn_ready (rs := [5]) (by kernel_rfl) (by simp) ?_
              refine AllReadyIn.cons rfl (fun K hK => ?_) ?_
              · refine stepIn_append_own rfl (.tmp 12) (.tmp 15) 60 9 rfl Tryz.underlying60 hsi hs0 hs1 hs2 rfl (by decide) w.heap.size ⟨w2.heap.size, 0, none⟩ 1 [.string ⟨x.1.toArray⟩] rfl rfl (hrow2.alloc _) rfl (cell_one_new _ _ _) (by simp [Value.oneCell']) (by unfold maxLen; omega) (by omega) (by have := hC.size; have := hB1.size; simp; omega) ?_
                intro v' w1 hown' hgrow
                have hr2 := (((hr1.next hC).alloc _).kept hgrow ((hr1.next hC).not_row (by decide) hrow2)).other (B2 := w.heap.size + 1) (i := 1) (by omega) v'
                obtain ⟨g', cap', rfl⟩ := ownsRow_succ hown'
                obtain ⟨h1, h2, h3, h4, h5⟩ := hv1.appended (i := 1) (by decide) hrow1 hB1.size (by omega) hC hown' hgrow
                have hc3 := h1.cell 1
                have hf3 := h1.frozen 1
                simp [pathV] at hc3
                refine hK _ _ ?_
                clear hK K
                refine wpAnyIn_ready (rs := [6]) (by kernel_rfl) (by simp) ?_
                refine AllReadyIn.cons rfl (fun K hK => ?_) ?_
                · go_simp
                  refine hK _ _ ?_
                  clear hK K
                  refine wpAnyIn_ready (rs := [7]) (by kernel_rfl) (by simp) ?_
                  refine AllReadyIn.cons rfl (fun K hK => ?_) ?_
                  · go_simp
                    refine hK _ _ ?_
                    clear hK K
                    refine wpAnyIn_done (by kernel_rfl) ?_ _
                    exact ⟨(hkeep.trans h4).from _, trivial, ⟨⟨_, by simpa [pathV] using h2, by simpa [strsV] using h3⟩, hr2⟩, hB1.trans h5⟩
                  exact AllReadyIn.nil
                exact AllReadyIn.nil
              exact AllReadyIn.nil
            exact AllReadyIn.nil
          exact AllReadyIn.nil
        exact AllReadyIn.nil
      exact AllReadyIn.nil
    exact AllReadyIn.nil
  case done =>
    rintro D ys W hD hys ⟨⟨⟨v, hv, hrow⟩, hr⟩, hB⟩ hK
    have hlen : ys.length = (namesB p).length := by rw [← hys, List.length_map]
    rw [hys, hlen] at hrow
    clear hlen
    obtain ⟨av, cap, rfl⟩ : ∃ av cap, v = .slice av (namesB p).length cap := by
      rcases hrow.2 with ⟨rfl, h0⟩ | ⟨g, cap, cur, rfl, _⟩
      · exact ⟨none, 0, by rw [h0]⟩
      · exact ⟨_, _, rfl⟩
    have c0 := hv.cell 0
    have c1 := hv.cell 1
    have c2 := hv.cell 2
    have f2 := hv.frozen 2
    have d0 := hr.cell 0
    have d1 := hr.cell 1
    have d2 := hr.cell 2
    have e0 := hr.frozen 0
    have e1 := hr.frozen 1
    have e2 := hr.frozen 2
    simp [pathV] at c0 c1 c2 d0 d1 d2
    by_cases hn : 0 < (namesB p).length
    · have hS := Lib.hid (show Lib.hasSuffix p [47] = slashB p from by
        rw [endB_suffix]
        have : (namesB p).isEmpty = false := by rw [List.isEmpty_eq_false_iff]; intro e; rw [e] at hn; simp at hn
        simp [slashB, this])
      gi_wp2_with fail
      refine ⟨trivial, ?_⟩
      gi_at_call 58
      refine (callsIn_wide.2 (Tryz.strings_HasSuffix ⟨p.toArray⟩ ⟨#[47]⟩ _ (by simp [ByteArray.size]; omega))).mono ?_
      rintro e w3 ⟨rfl, rfl⟩
      rw [show Lib.hasSuffix (ByteArray.mk p.toArray).data.toList (ByteArray.mk #[47]).data.toList = slashB p from hS.out]
      gi_wp2
      obtain ⟨W', hW', hK', hb', hrow', hB'⟩ := four_set (a := absB p) (s := (slashB p)) hv hr hrow (by decide) hK
      rw [← hW']
      have hb2 := hb'.putObj (.deferred none) hK' rfl
      have g0 := hb2.cell 0
      have g1 := hb2.cell 1
      have g2 := hb2.cell 2
      simp [pathV] at g0 g1 g2
      refine ⟨by simp, .inl ⟨_, _, rfl, run_takeDeferred hK', ?_⟩⟩
      refine ⟨.agg (pathV (absB p) (.slice av (namesB p).length cap) (slashB p)), ?_, _, rfl, ownsRow_putObj hrow' _ hK' rfl, (hB.trans hB').trans (belowK_b (w := w) (Nat.le_refl _) _ D _ _ (by simp at hD; omega) hK' rfl rfl)⟩
      simp [results, Tryz.f32, go_sem, g0, g1, g2]
    · have hS := Lib.hid (show slashB p = false from by
        have : (namesB p).isEmpty = true := by rw [List.isEmpty_iff]; exact List.eq_nil_of_length_eq_zero (by omega)
        simp [slashB, this])
      gi_wp2
      refine ⟨trivial, ?_⟩
      gi_wp2
      obtain ⟨W', hW', hK', hb', hrow', hB'⟩ := four_set (a := absB p) (s := false) hv hr hrow (by decide) hK
      rw [← hW']
      have hb2 := hb'.putObj (.deferred none) hK' rfl
      have g0 := hb2.cell 0
      have g1 := hb2.cell 1
      have g2 := hb2.cell 2
      simp [pathV] at g0 g1 g2
      refine ⟨by simp, .inl ⟨_, _, rfl, run_takeDeferred hK', ?_⟩⟩
      refine ⟨.agg (pathV (absB p) (.slice av (namesB p).length cap) false), ?_, _, by rw [hS.out], ownsRow_putObj hrow' _ hK' rfl, (hB.trans hB').trans (belowK_b (w := w) (Nat.le_refl _) _ D _ _ (by simp at hD; omega) hK' rfl rfl)⟩
      simp [results, Tryz.f32, go_sem, g0, g1, g2]
  case stop =>
    rintro D c pre W _ _ h _
    exact h.elim
end Go.Proofs.YtobepdmpacdakaaGreat
