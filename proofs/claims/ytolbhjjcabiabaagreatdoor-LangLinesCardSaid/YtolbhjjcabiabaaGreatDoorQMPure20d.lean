/- Texts put together: WalkD03, Builder, WalkE03, Few, PureQ, PureQb, PureQc, PureQe, PureQf, Pure20, Pure20b, Pure20c, Pure20d. -/
import Derived.Test.YtolbhjjcabiabaaGreatDoorQMWalkB03
import Derived.Test.YtolbhjjcabiabaaGreatDoorChecked
import Derived.Shelf.Strings.Builder1
import Derived.Lib.Builder
import Derived.Lib.AppendStr
import Derived.RangeFuncRecord
import Derived.Deep.LoopGhost
import Derived.Lib.ItoaNum
import Derived.Lib.AtoiAllCases
set_option linter.unusedVariables false
set_option linter.unusedSimpArgs false
/- Walks: Read. -/
set_option linter.unusedVariables false
set_option linter.unusedSimpArgs false
namespace Go.Proofs.YtolbhjjcabiabaaGreatDoor
open Go.RowKit Go.Shelf
attribute [local go_sem] Oper.semAt_some

theorem Tryz.infoS : (Tryz.prog.info? 9).map (fun i => (i.zero, i.size, i.bytes)) = some (some (.string ByteArray.empty), 1, 16) := by kernel_rfl
abbrev pathV (a : Bool) (v : Value) (s : Bool) : Array Value := #[.bool a, v, .bool s]

theorem endB_suffix (l : List UInt8) : Lib.hasSuffix l [47] = endB l := by
  unfold Lib.hasSuffix endB
  rw [Bool.eq_iff_iff, List.isSuffixOf_iff_suffix, beq_iff_eq]
  constructor
  · rintro ⟨r, rfl⟩; simp
  · intro h
    obtain ⟨ys, rfl⟩ := List.getLast?_eq_some_iff.1 h
    exact ⟨ys, rfl⟩
/-- The stores at the end: the field, then the whole result. -/
theorem four_set {W : World} {n D : Nat} {t e : TypeId} {cs : Array Value} {a s : Bool} {v : Value} {k : Nat} {xs : List Value} (hv : Blk W (n + 1) t cs) (hr : Blk W n t (pathV false (.slice none 0 0) false))
    (hrow : W.ownsRow n e 1 v k xs) (hte : t ≠ e) (hK : W.heap[D]? = some (.deferred (some []))) :
    ∃ W', W' = (((W.setCell ⟨n + 1, 2, none⟩ (.bool s)).setCell ⟨n, 0, none⟩ (.bool a)).setCell ⟨n, 1, none⟩ v).setCell ⟨n, 2, none⟩ (.bool s) ∧
      W'.heap[D]? = some (.deferred (some [])) ∧ Blk W' n t (pathV a v s) ∧ W'.ownsRow n e 1 v k xs ∧ Below n W W' := by
  refine ⟨_, rfl, ?_, ?_, ?_, ?_⟩
  · exact ((((KeepsOthers.setCell W _ _).trans (KeepsOthers.setCell _ _ _)).trans (KeepsOthers.setCell _ _ _)).trans (KeepsOthers.setCell _ _ _)).same D _ hK rfl
  · simpa [pathV] using (((hr.other (B2 := n + 1) (i := 2) (by omega) (.bool s)).set 0 (.bool a)).set 1 v).set 2 (.bool s)
  · have r1 := hrow.kept (grownBy_set W (n + 1) 2 (.bool s)) (.inr (hv.not_row hte hrow).symm)
    have q1 := hr.other (B2 := n + 1) (i := 2) (by omega) (.bool s)
    have r2 := r1.kept (grownBy_set _ n 0 (.bool a)) (.inr (q1.not_row hte r1).symm)
    have q2 := q1.set 0 (.bool a)
    have r3 := r2.kept (grownBy_set _ n 1 v) (.inr (q2.not_row hte r2).symm)
    have q3 := q2.set 1 v
    exact r3.kept (grownBy_set _ n 2 (.bool s)) (.inr (q3.not_row hte r3).symm)
  · exact ((((Below.refl n W).setCell (p := ⟨n + 1, 2, none⟩) (by simp) _).setCell (p := ⟨n, 0, none⟩) (Nat.le_refl _) _).setCell (p := ⟨n, 1, none⟩) (Nat.le_refl _) _).setCell (p := ⟨n, 2, none⟩) (Nat.le_refl _) _
theorem Blk.putObj {W : World} {B D : Nat} {t : TypeId} {cs : Array Value} (h : Blk W B t cs) {o : Obj} (o' : Obj) (hD : W.heap[D]? = some o) (ho : o.isCells = false) : Blk (W.putObj D o') B t cs :=
  h.kept (grownBy_putObj' W D o') (fun e => by
    obtain rfl : B = D := by simpa using e
    rw [show W.heap[B]? = _ from h] at hD; cases hD; cases ho)
set_option maxRecDepth 100000 in
set_option maxHeartbeats 4000000 in
theorem Read_any (p : List UInt8) (hp : p.length ≤ 1000000) (w : World) :
    Calls Tryz.prog 97 #[.string ⟨p.toArray⟩] w fun e w' => ∃ v, e = .returned (.agg (pathV (absB p) v (slashB p))) ∧ w'.ownsRow w.heap.size 9 1 v (namesB p).length (strsV (namesB p)) ∧ Below w.heap.size w w' := by
  obtain ⟨is, hsi, hs0, hs1, hs2⟩ := info_parts Tryz.infoS
  refine (callsIn_wide (n := 3)).1 ?_
  (refine callsIn_of_wp_marks Tryz.func97 rfl trivial ?_ rfl; simp only [Tryz.ntmps97, List.size_toArray, List.length_cons, List.length_nil, Nat.reduceAdd, Nat.reduceSub, Array.replicate_succ, Array.replicate_zero, List.push_toArray, List.append_toArray, List.nil_append, List.cons_append])
  gi_wp2_with fail
  refine ⟨trivial, ?_⟩
  gi_at_call 116
  refine (callsIn_wide.2 (absolute_any p _)).mono ?_
  rintro e w' ⟨rfl, rfl⟩
  gi_wp2_with fail
  refine ⟨trivial, ?_⟩
  gi_at_call 117
  refine (namesOf_in p _).mono ?_
  rintro e w' ⟨rfl, rfl⟩
  gi_wp2
  have b0 := Blk.new w 114 (pathV false (.slice none 0 0) false)
  have b1 := Blk.new (w.alloc (.cells (pathV false (.slice none 0 0) false) 114)) 114 (pathV (absB p) (.slice none 0 0) false)
  have b2 := Blk.new ((w.alloc (.cells (pathV false (.slice none 0 0) false) 114)).alloc (.cells (pathV (absB p) (.slice none 0 0) false) 114)) 9 #[.string ⟨p.toArray⟩]
  simp only [World.size_alloc] at b1 b2
  have hB0 : Below w.heap.size w (((w.alloc (.cells (pathV false (.slice none 0 0) false) 114)).alloc (.cells (pathV (absB p) (.slice none 0 0) false) 114)).alloc (.cells #[.string ⟨p.toArray⟩] 9)) := (((Below.refl _ w).alloc (Nat.le_refl _) _).alloc (by simp) _).alloc (by simp; omega) _
  refine wpIn_rangeFunc_ownG rfl (by omega) (gf := 134) (lb := #[.pointer (some ⟨w.heap.size + 1 + 1, 0, none⟩)]) rfl trivial (enters_of Tryz.func134 (by kernel_rfl) rfl)
    (names_stops (w.heap.size + 1 + 1) p hp _ (by simp) (b2.cell 0)) (fun _ _ => trivial) (fun _ _ _ _ _ _ _ _ => trivial) (Below.refl _ _) (fun _ => rfl)
    (fun pre W => ((∃ v, Blk W (w.heap.size + 1) 114 (pathV (absB p) v false) ∧ W.ownsRow w.heap.size 9 1 v pre.length (strsV (pre.map (·.1)))) ∧ Blk W w.heap.size 114 (pathV false (.slice none 0 0) false)) ∧ Below w.heap.size w W)
    (fun _ _ _ => False)
    (OwnFrom.and (Own.from (fun s A B row hs hg hr => ⟨blkRow_own (β := List Txt) w.heap.size (w.heap.size + 1) 114 9 1 (fun pre => pre.length) (fun pre => strsV (pre.map (·.1))) (fun v => pathV (absB p) v false) s A B row hs.1 hg hr, blk_own (β := Unit) _ _ (fun _ => pathV false (.slice none 0 0) false) () A B row hs.2 hg hr⟩) _) (ownFrom_below (Nat.le_refl _) (by simp; omega)))
    (fun _ _ _ _ _ hs _ _ => hs)
    ⟨⟨⟨_, b1.alloc _, World.ownsRow_nil _ _ _ _⟩, (b0.alloc _).alloc _⟩, hB0⟩
    (fun x => { tmps := #[.string ⟨p.toArray⟩, undef, .pointer (some ⟨w.heap.size, 0, none⟩), .pointer (some ⟨w.heap.size + 1, 0, none⟩), .string ⟨x.1.toArray⟩, .string ⟨p.toArray⟩, .bool (absB p), .agg (pathV (absB p) (.slice none 0 0) false), .string ⟨p.toArray⟩,
      .func (.func 134) #[] #[.pointer (some ⟨w.heap.size + 1 + 1, 0, none⟩)], .string ⟨x.1.toArray⟩, undef, undef, undef, undef, undef, undef, undef, undef, undef, undef, undef, undef, undef, undef, undef, undef, undef], defers := [] }) ?assign ?body ?done ?stop
  case assign =>
    intro l x W K hK
    gi_wp2
    exact hK
  case body =>
    rintro l pre x W ⟨⟨⟨v, hv, hrow⟩, hr0⟩, hB⟩ hlen
    have hmx : Tryz.prog.follows .mixedOrders = true := by kernel_rfl
    gi_wp2
    refine wpIn_region_any hmx ?_
    try (change wpAnyIn _ _ _ _ _ _ _ _ _ (World.drew _))
    have hB1 : Below w.heap.size w W.drew := hB.drew
    have hv1 : Blk W.drew (w.heap.size + 1) 114 (pathV (absB p) v false) := hv
    have hr1 : Blk W.drew w.heap.size 114 (pathV false (.slice none 0 0) false) := hr0
    have hrow1 : W.drew.ownsRow w.heap.size 9 1 v pre.length (strsV (pre.map (·.1))) := hrow
    have hkeep : KeepsOthers W W.drew := KeepsOthers.drew _
    generalize W.drew = Wd at *
    clear hv hrow hr0 hB
    have hc := hv1.cell 1
    simp [pathV] at hc
    -- THE ORDERS
    refine wpAnyIn_ready (rs := [0, 2]) (by kernel_rfl) (by simp) ?_
    refine AllReadyIn.cons rfl (fun K hK => ?_) ?_
    · go_simp
      refine hK _ _ ?_
      clear hK K
      refine wpAnyIn_ready (rs := [1, 2]) (by kernel_rfl) (by simp) ?_
      refine AllReadyIn.cons rfl (fun K hK => ?_) ?_
      · go_simp
        refine hK _ _ ?_
        clear hK K
        refine wpAnyIn_ready (rs := [2]) (by kernel_rfl) (by simp) ?_
        refine AllReadyIn.cons rfl (fun K hK => ?_) ?_
        · go_simp
          refine hK _ _ ?_
          clear hK K
          refine wpAnyIn_ready (rs := [3]) (by kernel_rfl) (by simp) ?_
          refine AllReadyIn.cons rfl (fun K hK => ?_) ?_
          · go_simp
            gi_wp2_with (refine ⟨trivial, ?_⟩; gi_at_call 72; refine (CallsIn.inRound l (callsIn_wide.2 (Clone_any x.1 _ (Nat.le_trans x.2 (by decide))))).mono ?_; rintro e w2 ⟨rfl, hC⟩; have hc2 : w2.cell? ⟨w.heap.size + 1, 1, none⟩ = some v := (hC.cell (p := ⟨w.heap.size + 1, 1, none⟩) hv1.lt).trans hc; have hc4 : ∀ o, (w2.alloc o).cell? ⟨w.heap.size + 1, 1, none⟩ = some v := fun o => ((hv1.next hC).alloc o).cell 1; have hrow2 := own_keep hrow1 hC)
            refine wpAnyIn_ready (rs := [4]) (by kernel_rfl) (by simp) ?_
            refine AllReadyIn.cons rfl (fun K hK => ?_) ?_
            · go_simp
              refine hK _ _ ?_
              clear hK K
              refine wpAnyIn_ready (rs := [5]) (by kernel_rfl) (by simp) ?_
              refine AllReadyIn.cons rfl (fun K hK => ?_) ?_
              · refine stepIn_append_own rfl (.tmp 12) (.tmp 15) 49 9 rfl Tryz.underlying49 hsi hs0 hs1 hs2 rfl (by decide) w.heap.size ⟨w2.heap.size, 0, none⟩ 1 [.string ⟨x.1.toArray⟩] rfl rfl (hrow2.alloc _) rfl (cell_one_new _ _ _) (by simp [Value.oneCell']) (by unfold maxLen; omega) (by omega) (by have := hC.size; have := hB1.size; simp; omega) ?_
                intro v' w1 hown' hgrow
                have hr2 := (((hr1.next hC).alloc _).kept hgrow ((hr1.next hC).not_row (by decide) hrow2)).other (B2 := w.heap.size + 1) (i := 1) (by omega) v'
                obtain ⟨g', cap', rfl⟩ := ownsRow_succ hown'
                obtain ⟨h1, h2, h3, h4, h5⟩ := hv1.appended (i := 1) (by decide) hrow1 hB1.size (by omega) hC hown' hgrow
                have hc3 := h1.cell 1
                have hf3 := h1.frozen 1
                simp [pathV] at hc3
                refine hK _ _ ?_
                clear hK K
                refine wpAnyIn_ready (rs := [6]) (by kernel_rfl) (by simp) ?_
                refine AllReadyIn.cons rfl (fun K hK => ?_) ?_
                · go_simp
                  refine hK _ _ ?_
                  clear hK K
                  refine wpAnyIn_ready (rs := [7]) (by kernel_rfl) (by simp) ?_
                  refine AllReadyIn.cons rfl (fun K hK => ?_) ?_
                  · go_simp
                    refine hK _ _ ?_
                    clear hK K
                    refine wpAnyIn_done (by kernel_rfl) ?_ _
                    exact ⟨(hkeep.trans h4).from _, trivial, ⟨⟨_, by simpa [pathV] using h2, by simpa [strsV] using h3⟩, hr2⟩, hB1.trans h5⟩
                  exact AllReadyIn.nil
                exact AllReadyIn.nil
              exact AllReadyIn.nil
            exact AllReadyIn.nil
          exact AllReadyIn.nil
        exact AllReadyIn.nil
      refine AllReadyIn.cons rfl (fun K hK => ?_) ?_
      · go_simp
        refine hK _ _ ?_
        clear hK K
        refine wpAnyIn_ready (rs := [1, 3]) (by kernel_rfl) (by simp) ?_
        refine AllReadyIn.cons rfl (fun K hK => ?_) ?_
        · go_simp
          refine hK _ _ ?_
          clear hK K
          refine wpAnyIn_ready (rs := [3]) (by kernel_rfl) (by simp) ?_
          refine AllReadyIn.cons rfl (fun K hK => ?_) ?_
          · go_simp
            gi_wp2_with (refine ⟨trivial, ?_⟩; gi_at_call 72; refine (CallsIn.inRound l (callsIn_wide.2 (Clone_any x.1 _ (Nat.le_trans x.2 (by decide))))).mono ?_; rintro e w2 ⟨rfl, hC⟩; have hc2 : w2.cell? ⟨w.heap.size + 1, 1, none⟩ = some v := (hC.cell (p := ⟨w.heap.size + 1, 1, none⟩) hv1.lt).trans hc; have hc4 : ∀ o, (w2.alloc o).cell? ⟨w.heap.size + 1, 1, none⟩ = some v := fun o => ((hv1.next hC).alloc o).cell 1; have hrow2 := own_keep hrow1 hC)
            refine wpAnyIn_ready (rs := [4]) (by kernel_rfl) (by simp) ?_
            refine AllReadyIn.cons rfl (fun K hK => ?_) ?_
            · go_simp
              refine hK _ _ ?_
              clear hK K
              refine wpAnyIn_ready (rs := [5]) (by kernel_rfl) (by simp) ?_
              refine AllReadyIn.cons rfl (fun K hK => ?_) ?_
              · refine stepIn_append_own rfl (.tmp 12) (.tmp 15) 49 9 rfl Tryz.underlying49 hsi hs0 hs1 hs2 rfl (by decide) w.heap.size ⟨w2.heap.size, 0, none⟩ 1 [.string ⟨x.1.toArray⟩] rfl rfl (hrow2.alloc _) rfl (cell_one_new _ _ _) (by simp [Value.oneCell']) (by unfold maxLen; omega) (by omega) (by have := hC.size; have := hB1.size; simp; omega) ?_
                intro v' w1 hown' hgrow
                have hr2 := (((hr1.next hC).alloc _).kept hgrow ((hr1.next hC).not_row (by decide) hrow2)).other (B2 := w.heap.size + 1) (i := 1) (by omega) v'
                obtain ⟨g', cap', rfl⟩ := ownsRow_succ hown'
                obtain ⟨h1, h2, h3, h4, h5⟩ := hv1.appended (i := 1) (by decide) hrow1 hB1.size (by omega) hC hown' hgrow
                have hc3 := h1.cell 1
                have hf3 := h1.frozen 1
                simp [pathV] at hc3
                refine hK _ _ ?_
                clear hK K
                refine wpAnyIn_ready (rs := [6]) (by kernel_rfl) (by simp) ?_
                refine AllReadyIn.cons rfl (fun K hK => ?_) ?_
                · go_simp
                  refine hK _ _ ?_
                  clear hK K
                  refine wpAnyIn_ready (rs := [7]) (by kernel_rfl) (by simp) ?_
                  refine AllReadyIn.cons rfl (fun K hK => ?_) ?_
                  · go_simp
                    refine hK _ _ ?_
                    clear hK K
                    refine wpAnyIn_done (by kernel_rfl) ?_ _
                    exact ⟨(hkeep.trans h4).from _, trivial, ⟨⟨_, by simpa [pathV] using h2, by simpa [strsV] using h3⟩, hr2⟩, hB1.trans h5⟩
                  exact AllReadyIn.nil
                exact AllReadyIn.nil
              exact AllReadyIn.nil
            exact AllReadyIn.nil
          exact AllReadyIn.nil
        refine AllReadyIn.cons rfl (fun K hK => ?_) ?_
        · go_simp
          gi_wp2_with (refine ⟨trivial, ?_⟩; gi_at_call 72; refine (CallsIn.inRound l (callsIn_wide.2 (Clone_any x.1 _ (Nat.le_trans x.2 (by decide))))).mono ?_; rintro e w2 ⟨rfl, hC⟩; have hc2 : w2.cell? ⟨w.heap.size + 1, 1, none⟩ = some v := (hC.cell (p := ⟨w.heap.size + 1, 1, none⟩) hv1.lt).trans hc; have hc4 : ∀ o, (w2.alloc o).cell? ⟨w.heap.size + 1, 1, none⟩ = some v := fun o => ((hv1.next hC).alloc o).cell 1; have hrow2 := own_keep hrow1 hC)
          refine wpAnyIn_ready (rs := [1, 4]) (by kernel_rfl) (by simp) ?_
          refine AllReadyIn.cons rfl (fun K hK => ?_) ?_
          · go_simp
            refine hK _ _ ?_
            clear hK K
            refine wpAnyIn_ready (rs := [4]) (by kernel_rfl) (by simp) ?_
            refine AllReadyIn.cons rfl (fun K hK => ?_) ?_
            · go_simp
              refine hK _ _ ?_
              clear hK K
              refine wpAnyIn_ready (rs := [5]) (by kernel_rfl) (by simp) ?_
              refine AllReadyIn.cons rfl (fun K hK => ?_) ?_
              · refine stepIn_append_own rfl (.tmp 12) (.tmp 15) 49 9 rfl Tryz.underlying49 hsi hs0 hs1 hs2 rfl (by decide) w.heap.size ⟨w2.heap.size, 0, none⟩ 1 [.string ⟨x.1.toArray⟩] rfl rfl (hrow2.alloc _) rfl (cell_one_new _ _ _) (by simp [Value.oneCell']) (by unfold maxLen; omega) (by omega) (by have := hC.size; have := hB1.size; simp; omega) ?_
                intro v' w1 hown' hgrow
                have hr2 := (((hr1.next hC).alloc _).kept hgrow ((hr1.next hC).not_row (by decide) hrow2)).other (B2 := w.heap.size + 1) (i := 1) (by omega) v'
                obtain ⟨g', cap', rfl⟩ := ownsRow_succ hown'
                obtain ⟨h1, h2, h3, h4, h5⟩ := hv1.appended (i := 1) (by decide) hrow1 hB1.size (by omega) hC hown' hgrow
                have hc3 := h1.cell 1
                have hf3 := h1.frozen 1
                simp [pathV] at hc3
                refine hK _ _ ?_
                clear hK K
                refine wpAnyIn_ready (rs := [6]) (by kernel_rfl) (by simp) ?_
                refine AllReadyIn.cons rfl (fun K hK => ?_) ?_
                · go_simp
                  refine hK _ _ ?_
                  clear hK K
                  refine wpAnyIn_ready (rs := [7]) (by kernel_rfl) (by simp) ?_
                  refine AllReadyIn.cons rfl (fun K hK => ?_) ?_
                  · go_simp
                    refine hK _ _ ?_
                    clear hK K
                    refine wpAnyIn_done (by kernel_rfl) ?_ _
                    exact ⟨(hkeep.trans h4).from _, trivial, ⟨⟨_, by simpa [pathV] using h2, by simpa [strsV] using h3⟩, hr2⟩, hB1.trans h5⟩
                  exact AllReadyIn.nil
                exact AllReadyIn.nil
              exact AllReadyIn.nil
            exact AllReadyIn.nil
          refine AllReadyIn.cons rfl (fun K hK => ?_) ?_
          · go_simp
            refine hK _ _ ?_
            clear hK K
            refine wpAnyIn_ready (rs := [1]) (by kernel_rfl) (by simp) ?_
            refine AllReadyIn.cons rfl (fun K hK => ?_) ?_
            · go_simp
              refine hK _ _ ?_
              clear hK K
              refine wpAnyIn_ready (rs := [5]) (by kernel_rfl) (by simp) ?_
              refine AllReadyIn.cons rfl (fun K hK => ?_) ?_
              · refine stepIn_append_own rfl (.tmp 12) (.tmp 15) 49 9 rfl Tryz.underlying49 hsi hs0 hs1 hs2 rfl (by decide) w.heap.size ⟨w2.heap.size, 0, none⟩ 1 [.string ⟨x.1.toArray⟩] rfl rfl (hrow2.alloc _) rfl (cell_one_new _ _ _) (by simp [Value.oneCell']) (by unfold maxLen; omega) (by omega) (by have := hC.size; have := hB1.size; simp; omega) ?_
                intro v' w1 hown' hgrow
                have hr2 := (((hr1.next hC).alloc _).kept hgrow ((hr1.next hC).not_row (by decide) hrow2)).other (B2 := w.heap.size + 1) (i := 1) (by omega) v'
                obtain ⟨g', cap', rfl⟩ := ownsRow_succ hown'
                obtain ⟨h1, h2, h3, h4, h5⟩ := hv1.appended (i := 1) (by decide) hrow1 hB1.size (by omega) hC hown' hgrow
                have hc3 := h1.cell 1
                have hf3 := h1.frozen 1
                simp [pathV] at hc3
                refine hK _ _ ?_
                clear hK K
                refine wpAnyIn_ready (rs := [6]) (by kernel_rfl) (by simp) ?_
                refine AllReadyIn.cons rfl (fun K hK => ?_) ?_
                · go_simp
                  refine hK _ _ ?_
                  clear hK K
                  refine wpAnyIn_ready (rs := [7]) (by kernel_rfl) (by simp) ?_
                  refine AllReadyIn.cons rfl (fun K hK => ?_) ?_
                  · go_simp
                    refine hK _ _ ?_
                    clear hK K
                    refine wpAnyIn_done (by kernel_rfl) ?_ _
                    exact ⟨(hkeep.trans h4).from _, trivial, ⟨⟨_, by simpa [pathV] using h2, by simpa [strsV] using h3⟩, hr2⟩, hB1.trans h5⟩
                  exact AllReadyIn.nil
                exact AllReadyIn.nil
              exact AllReadyIn.nil
            exact AllReadyIn.nil
          exact AllReadyIn.nil
        exact AllReadyIn.nil
      exact AllReadyIn.nil
    refine AllReadyIn.cons rfl (fun K hK => ?_) ?_
    · go_simp
      refine hK _ _ ?_
      clear hK K
      refine wpAnyIn_ready (rs := [0, 3]) (by kernel_rfl) (by simp) ?_
      refine AllReadyIn.cons rfl (fun K hK => ?_) ?_
      · go_simp
        refine hK _ _ ?_
        clear hK K
        refine wpAnyIn_ready (rs := [1, 3]) (by kernel_rfl) (by simp) ?_
        refine AllReadyIn.cons rfl (fun K hK => ?_) ?_
        · go_simp
          refine hK _ _ ?_
          clear hK K
          refine wpAnyIn_ready (rs := [3]) (by kernel_rfl) (by simp) ?_
          refine AllReadyIn.cons rfl (fun K hK => ?_) ?_
          · go_simp
            gi_wp2_with (refine ⟨trivial, ?_⟩; gi_at_call 72; refine (CallsIn.inRound l (callsIn_wide.2 (Clone_any x.1 _ (Nat.le_trans x.2 (by decide))))).mono ?_; rintro e w2 ⟨rfl, hC⟩; have hc2 : w2.cell? ⟨w.heap.size + 1, 1, none⟩ = some v := (hC.cell (p := ⟨w.heap.size + 1, 1, none⟩) hv1.lt).trans hc; have hc4 : ∀ o, (w2.alloc o).cell? ⟨w.heap.size + 1, 1, none⟩ = some v := fun o => ((hv1.next hC).alloc o).cell 1; have hrow2 := own_keep hrow1 hC)
            refine wpAnyIn_ready (rs := [4]) (by kernel_rfl) (by simp) ?_
            refine AllReadyIn.cons rfl (fun K hK => ?_) ?_
            · go_simp
              refine hK _ _ ?_
              clear hK K
              refine wpAnyIn_ready (rs := [5]) (by kernel_rfl) (by simp) ?_
              refine AllReadyIn.cons rfl (fun K hK => ?_) ?_
              · refine stepIn_append_own rfl (.tmp 12) (.tmp 15) 49 9 rfl Tryz.underlying49 hsi hs0 hs1 hs2 rfl (by decide) w.heap.size ⟨w2.heap.size, 0, none⟩ 1 [.string ⟨x.1.toArray⟩] rfl rfl (hrow2.alloc _) rfl (cell_one_new _ _ _) (by simp [Value.oneCell']) (by unfold maxLen; omega) (by omega) (by have := hC.size; have := hB1.size; simp; omega) ?_
                intro v' w1 hown' hgrow
                have hr2 := (((hr1.next hC).alloc _).kept hgrow ((hr1.next hC).not_row (by decide) hrow2)).other (B2 := w.heap.size + 1) (i := 1) (by omega) v'
                obtain ⟨g', cap', rfl⟩ := ownsRow_succ hown'
                obtain ⟨h1, h2, h3, h4, h5⟩ := hv1.appended (i := 1) (by decide) hrow1 hB1.size (by omega) hC hown' hgrow
                have hc3 := h1.cell 1
                have hf3 := h1.frozen 1
                simp [pathV] at hc3
                refine hK _ _ ?_
                clear hK K
                refine wpAnyIn_ready (rs := [6]) (by kernel_rfl) (by simp) ?_
                refine AllReadyIn.cons rfl (fun K hK => ?_) ?_
                · go_simp
                  refine hK _ _ ?_
                  clear hK K
                  refine wpAnyIn_ready (rs := [7]) (by kernel_rfl) (by simp) ?_
                  refine AllReadyIn.cons rfl (fun K hK => ?_) ?_
                  · go_simp
                    refine hK _ _ ?_
                    clear hK K
                    refine wpAnyIn_done (by kernel_rfl) ?_ _
                    exact ⟨(hkeep.trans h4).from _, trivial, ⟨⟨_, by simpa [pathV] using h2, by simpa [strsV] using h3⟩, hr2⟩, hB1.trans h5⟩
                  exact AllReadyIn.nil
                exact AllReadyIn.nil
              exact AllReadyIn.nil
            exact AllReadyIn.nil
          exact AllReadyIn.nil
        refine AllReadyIn.cons rfl (fun K hK => ?_) ?_
        · go_simp
          gi_wp2_with (refine ⟨trivial, ?_⟩; gi_at_call 72; refine (CallsIn.inRound l (callsIn_wide.2 (Clone_any x.1 _ (Nat.le_trans x.2 (by decide))))).mono ?_; rintro e w2 ⟨rfl, hC⟩; have hc2 : w2.cell? ⟨w.heap.size + 1, 1, none⟩ = some v := (hC.cell (p := ⟨w.heap.size + 1, 1, none⟩) hv1.lt).trans hc; have hc4 : ∀ o, (w2.alloc o).cell? ⟨w.heap.size + 1, 1, none⟩ = some v := fun o => ((hv1.next hC).alloc o).cell 1; have hrow2 := own_keep hrow1 hC)
          refine wpAnyIn_ready (rs := [1, 4]) (by kernel_rfl) (by simp) ?_
          refine AllReadyIn.cons rfl (fun K hK => ?_) ?_
          · go_simp
            refine hK _ _ ?_
            clear hK K
            refine wpAnyIn_ready (rs := [4]) (by kernel_rfl) (by simp) ?_
            refine AllReadyIn.cons rfl (fun K hK => ?_) ?_
            · go_simp
              refine hK _ _ ?_
              clear hK K
              refine wpAnyIn_ready (rs := [5]) (by kernel_rfl) (by simp) ?_
              refine AllReadyIn.cons rfl (fun K hK => ?_) ?_
              · refine stepIn_append_own rfl (.tmp 12) (.tmp 15) 49 9 rfl Tryz.underlying49 hsi hs0 hs1 hs2 rfl (by decide) w.heap.size ⟨w2.heap.size, 0, none⟩ 1 [.string ⟨x.1.toArray⟩] rfl rfl (hrow2.alloc _) rfl (cell_one_new _ _ _) (by simp [Value.oneCell']) (by unfold maxLen; omega) (by omega) (by have := hC.size; have := hB1.size; simp; omega) ?_
                intro v' w1 hown' hgrow
                have hr2 := (((hr1.next hC).alloc _).kept hgrow ((hr1.next hC).not_row (by decide) hrow2)).other (B2 := w.heap.size + 1) (i := 1) (by omega) v'
                obtain ⟨g', cap', rfl⟩ := ownsRow_succ hown'
                obtain ⟨h1, h2, h3, h4, h5⟩ := hv1.appended (i := 1) (by decide) hrow1 hB1.size (by omega) hC hown' hgrow
                have hc3 := h1.cell 1
                have hf3 := h1.frozen 1
                simp [pathV] at hc3
                refine hK _ _ ?_
                clear hK K
                refine wpAnyIn_ready (rs := [6]) (by kernel_rfl) (by simp) ?_
                refine AllReadyIn.cons rfl (fun K hK => ?_) ?_
                · go_simp
                  refine hK _ _ ?_
                  clear hK K
                  refine wpAnyIn_ready (rs := [7]) (by kernel_rfl) (by simp) ?_
                  refine AllReadyIn.cons rfl (fun K hK => ?_) ?_
                  · go_simp
                    refine hK _ _ ?_
                    clear hK K
                    refine wpAnyIn_done (by kernel_rfl) ?_ _
                    exact ⟨(hkeep.trans h4).from _, trivial, ⟨⟨_, by simpa [pathV] using h2, by simpa [strsV] using h3⟩, hr2⟩, hB1.trans h5⟩
                  exact AllReadyIn.nil
                exact AllReadyIn.nil
              exact AllReadyIn.nil
            exact AllReadyIn.nil
          refine AllReadyIn.cons rfl (fun K hK => ?_) ?_
          · go_simp
            refine hK _ _ ?_
            clear hK K
            refine wpAnyIn_ready (rs := [1]) (by kernel_rfl) (by simp) ?_
            refine AllReadyIn.cons rfl (fun K hK => ?_) ?_
            · go_simp
              refine hK _ _ ?_
              clear hK K
              refine wpAnyIn_ready (rs := [5]) (by kernel_rfl) (by simp) ?_
              refine AllReadyIn.cons rfl (fun K hK => ?_) ?_
              · refine stepIn_append_own rfl (.tmp 12) (.tmp 15) 49 9 rfl Tryz.underlying49 hsi hs0 hs1 hs2 rfl (by decide) w.heap.size ⟨w2.heap.size, 0, none⟩ 1 [.string ⟨x.1.toArray⟩] rfl rfl (hrow2.alloc _) rfl (cell_one_new _ _ _) (by simp [Value.oneCell']) (by unfold maxLen; omega) (by omega) (by have := hC.size; have := hB1.size; simp; omega) ?_
                intro v' w1 hown' hgrow
                have hr2 := (((hr1.next hC).alloc _).kept hgrow ((hr1.next hC).not_row (by decide) hrow2)).other (B2 := w.heap.size + 1) (i := 1) (by omega) v'
                obtain ⟨g', cap', rfl⟩ := ownsRow_succ hown'
                obtain ⟨h1, h2, h3, h4, h5⟩ := hv1.appended (i := 1) (by decide) hrow1 hB1.size (by omega) hC hown' hgrow
                have hc3 := h1.cell 1
                have hf3 := h1.frozen 1
                simp [pathV] at hc3
                refine hK _ _ ?_
                clear hK K
                refine wpAnyIn_ready (rs := [6]) (by kernel_rfl) (by simp) ?_
                refine AllReadyIn.cons rfl (fun K hK => ?_) ?_
                · go_simp
                  refine hK _ _ ?_
                  clear hK K
                  refine wpAnyIn_ready (rs := [7]) (by kernel_rfl) (by simp) ?_
                  refine AllReadyIn.cons rfl (fun K hK => ?_) ?_
                  · go_simp
                    refine hK _ _ ?_
                    clear hK K
                    refine wpAnyIn_done (by kernel_rfl) ?_ _
                    exact ⟨(hkeep.trans h4).from _, trivial, ⟨⟨_, by simpa [pathV] using h2, by simpa [strsV] using h3⟩, hr2⟩, hB1.trans h5⟩
                  exact AllReadyIn.nil
                exact AllReadyIn.nil
              exact AllReadyIn.nil
            exact AllReadyIn.nil
          exact AllReadyIn.nil
        exact AllReadyIn.nil
      refine AllReadyIn.cons rfl (fun K hK => ?_) ?_
      · go_simp
        gi_wp2_with (refine ⟨trivial, ?_⟩; gi_at_call 72; refine (CallsIn.inRound l (callsIn_wide.2 (Clone_any x.1 _ (Nat.le_trans x.2 (by decide))))).mono ?_; rintro e w2 ⟨rfl, hC⟩; have hc2 : w2.cell? ⟨w.heap.size + 1, 1, none⟩ = some v := (hC.cell (p := ⟨w.heap.size + 1, 1, none⟩) hv1.lt).trans hc; have hc4 : ∀ o, (w2.alloc o).cell? ⟨w.heap.size + 1, 1, none⟩ = some v := fun o => ((hv1.next hC).alloc o).cell 1; have hrow2 := own_keep hrow1 hC)
        refine wpAnyIn_ready (rs := [0, 4]) (by kernel_rfl) (by simp) ?_
        refine AllReadyIn.cons rfl (fun K hK => ?_) ?_
        · go_simp
          refine hK _ _ ?_
          clear hK K
          refine wpAnyIn_ready (rs := [1, 4]) (by kernel_rfl) (by simp) ?_
          refine AllReadyIn.cons rfl (fun K hK => ?_) ?_
          · go_simp
            refine hK _ _ ?_
            clear hK K
            refine wpAnyIn_ready (rs := [4]) (by kernel_rfl) (by simp) ?_
            refine AllReadyIn.cons rfl (fun K hK => ?_) ?_
            · go_simp
              refine hK _ _ ?_
              clear hK K
              refine wpAnyIn_ready (rs := [5]) (by kernel_rfl) (by simp) ?_
              refine AllReadyIn.cons rfl (fun K hK => ?_) ?_
              · refine stepIn_append_own rfl (.tmp 12) (.tmp 15) 49 9 rfl Tryz.underlying49 hsi hs0 hs1 hs2 rfl (by decide) w.heap.size ⟨w2.heap.size, 0, none⟩ 1 [.string ⟨x.1.toArray⟩] rfl rfl (hrow2.alloc _) rfl (cell_one_new _ _ _) (by simp [Value.oneCell']) (by unfold maxLen; omega) (by omega) (by have := hC.size; have := hB1.size; simp; omega) ?_
                intro v' w1 hown' hgrow
                have hr2 := (((hr1.next hC).alloc _).kept hgrow ((hr1.next hC).not_row (by decide) hrow2)).other (B2 := w.heap.size + 1) (i := 1) (by omega) v'
                obtain ⟨g', cap', rfl⟩ := ownsRow_succ hown'
                obtain ⟨h1, h2, h3, h4, h5⟩ := hv1.appended (i := 1) (by decide) hrow1 hB1.size (by omega) hC hown' hgrow
                have hc3 := h1.cell 1
                have hf3 := h1.frozen 1
                simp [pathV] at hc3
                refine hK _ _ ?_
                clear hK K
                refine wpAnyIn_ready (rs := [6]) (by kernel_rfl) (by simp) ?_
                refine AllReadyIn.cons rfl (fun K hK => ?_) ?_
                · go_simp
                  refine hK _ _ ?_
                  clear hK K
                  refine wpAnyIn_ready (rs := [7]) (by kernel_rfl) (by simp) ?_
                  refine AllReadyIn.cons rfl (fun K hK => ?_) ?_
                  · go_simp
                    refine hK _ _ ?_
                    clear hK K
                    refine wpAnyIn_done (by kernel_rfl) ?_ _
                    exact ⟨(hkeep.trans h4).from _, trivial, ⟨⟨_, by simpa [pathV] using h2, by simpa [strsV] using h3⟩, hr2⟩, hB1.trans h5⟩
                  exact AllReadyIn.nil
                exact AllReadyIn.nil
              exact AllReadyIn.nil
            exact AllReadyIn.nil
          refine AllReadyIn.cons rfl (fun K hK => ?_) ?_
          · go_simp
            refine hK _ _ ?_
            clear hK K
            refine wpAnyIn_ready (rs := [1]) (by kernel_rfl) (by simp) ?_
            refine AllReadyIn.cons rfl (fun K hK => ?_) ?_
            · go_simp
              refine hK _ _ ?_
              clear hK K
              refine wpAnyIn_ready (rs := [5]) (by kernel_rfl) (by simp) ?_
              refine AllReadyIn.cons rfl (fun K hK => ?_) ?_
              · refine stepIn_append_own rfl (.tmp 12) (.tmp 15) 49 9 rfl Tryz.underlying49 hsi hs0 hs1 hs2 rfl (by decide) w.heap.size ⟨w2.heap.size, 0, none⟩ 1 [.string ⟨x.1.toArray⟩] rfl rfl (hrow2.alloc _) rfl (cell_one_new _ _ _) (by simp [Value.oneCell']) (by unfold maxLen; omega) (by omega) (by have := hC.size; have := hB1.size; simp; omega) ?_
                intro v' w1 hown' hgrow
                have hr2 := (((hr1.next hC).alloc _).kept hgrow ((hr1.next hC).not_row (by decide) hrow2)).other (B2 := w.heap.size + 1) (i := 1) (by omega) v'
                obtain ⟨g', cap', rfl⟩ := ownsRow_succ hown'
                obtain ⟨h1, h2, h3, h4, h5⟩ := hv1.appended (i := 1) (by decide) hrow1 hB1.size (by omega) hC hown' hgrow
                have hc3 := h1.cell 1
                have hf3 := h1.frozen 1
                simp [pathV] at hc3
                refine hK _ _ ?_
                clear hK K
                refine wpAnyIn_ready (rs := [6]) (by kernel_rfl) (by simp) ?_
                refine AllReadyIn.cons rfl (fun K hK => ?_) ?_
                · go_simp
                  refine hK _ _ ?_
                  clear hK K
                  refine wpAnyIn_ready (rs := [7]) (by kernel_rfl) (by simp) ?_
                  refine AllReadyIn.cons rfl (fun K hK => ?_) ?_
                  · go_simp
                    refine hK _ _ ?_
                    clear hK K
                    refine wpAnyIn_done (by kernel_rfl) ?_ _
                    exact ⟨(hkeep.trans h4).from _, trivial, ⟨⟨_, by simpa [pathV] using h2, by simpa [strsV] using h3⟩, hr2⟩, hB1.trans h5⟩
                  exact AllReadyIn.nil
                exact AllReadyIn.nil
              exact AllReadyIn.nil
            exact AllReadyIn.nil
          exact AllReadyIn.nil
        refine AllReadyIn.cons rfl (fun K hK => ?_) ?_
        · go_simp
          refine hK _ _ ?_
          clear hK K
          refine wpAnyIn_ready (rs := [0]) (by kernel_rfl) (by simp) ?_
          refine AllReadyIn.cons rfl (fun K hK => ?_) ?_
          · go_simp
            refine hK _ _ ?_
            clear hK K
            refine wpAnyIn_ready (rs := [1]) (by kernel_rfl) (by simp) ?_
            refine AllReadyIn.cons rfl (fun K hK => ?_) ?_
            · go_simp
              refine hK _ _ ?_
              clear hK K
              refine wpAnyIn_ready (rs := [5]) (by kernel_rfl) (by simp) ?_
              refine AllReadyIn.cons rfl (fun K hK => ?_) ?_
              · refine stepIn_append_own rfl (.tmp 12) (.tmp 15) 49 9 rfl Tryz.underlying49 hsi hs0 hs1 hs2 rfl (by decide) w.heap.size ⟨w2.heap.size, 0, none⟩ 1 [.string ⟨x.1.toArray⟩] rfl rfl (hrow2.alloc _) rfl (cell_one_new _ _ _) (by simp [Value.oneCell']) (by unfold maxLen; omega) (by omega) (by have := hC.size; have := hB1.size; simp; omega) ?_
                intro v' w1 hown' hgrow
                have hr2 := (((hr1.next hC).alloc _).kept hgrow ((hr1.next hC).not_row (by decide) hrow2)).other (B2 := w.heap.size + 1) (i := 1) (by omega) v'
                obtain ⟨g', cap', rfl⟩ := ownsRow_succ hown'
                obtain ⟨h1, h2, h3, h4, h5⟩ := hv1.appended (i := 1) (by decide) hrow1 hB1.size (by omega) hC hown' hgrow
                have hc3 := h1.cell 1
                have hf3 := h1.frozen 1
                simp [pathV] at hc3
                refine hK _ _ ?_
                clear hK K
                refine wpAnyIn_ready (rs := [6]) (by kernel_rfl) (by simp) ?_
                refine AllReadyIn.cons rfl (fun K hK => ?_) ?_
                · go_simp
                  refine hK _ _ ?_
                  clear hK K
                  refine wpAnyIn_ready (rs := [7]) (by kernel_rfl) (by simp) ?_
                  refine AllReadyIn.cons rfl (fun K hK => ?_) ?_
                  · go_simp
                    refine hK _ _ ?_
                    clear hK K
                    refine wpAnyIn_done (by kernel_rfl) ?_ _
                    exact ⟨(hkeep.trans h4).from _, trivial, ⟨⟨_, by simpa [pathV] using h2, by simpa [strsV] using h3⟩, hr2⟩, hB1.trans h5⟩
                  exact AllReadyIn.nil
                exact AllReadyIn.nil
              exact AllReadyIn.nil
            exact AllReadyIn.nil
          exact AllReadyIn.nil
        exact AllReadyIn.nil
      exact AllReadyIn.nil
    exact AllReadyIn.nil
  case done =>
    rintro D ys W hD hys ⟨⟨⟨v, hv, hrow⟩, hr⟩, hB⟩ hK
    have hlen : ys.length = (namesB p).length := by rw [← hys, List.length_map]
    rw [hys, hlen] at hrow
    clear hlen
    obtain ⟨av, cap, rfl⟩ : ∃ av cap, v = .slice av (namesB p).length cap := by
      rcases hrow.2 with ⟨rfl, h0⟩ | ⟨g, cap, cur, rfl, _⟩
      · exact ⟨none, 0, by rw [h0]⟩
      · exact ⟨_, _, rfl⟩
    have c0 := hv.cell 0
    have c1 := hv.cell 1
    have c2 := hv.cell 2
    have f2 := hv.frozen 2
    have d0 := hr.cell 0
    have d1 := hr.cell 1
    have d2 := hr.cell 2
    have e0 := hr.frozen 0
    have e1 := hr.frozen 1
    have e2 := hr.frozen 2
    simp [pathV] at c0 c1 c2 d0 d1 d2
    by_cases hn : 0 < (namesB p).length
    · have hS := Lib.hid (show Lib.hasSuffix p [47] = slashB p from by
        rw [endB_suffix]
        have : (namesB p).isEmpty = false := by rw [List.isEmpty_eq_false_iff]; intro e; rw [e] at hn; simp at hn
        simp [slashB, this])
      gi_wp2_with fail
      refine ⟨trivial, ?_⟩
      gi_at_call 118
      refine (callsIn_wide.2 (Tryz.strings_HasSuffix ⟨p.toArray⟩ ⟨#[47]⟩ _ (by simp [ByteArray.size]; omega))).mono ?_
      rintro e w3 ⟨rfl, rfl⟩
      rw [show Lib.hasSuffix (ByteArray.mk p.toArray).data.toList (ByteArray.mk #[47]).data.toList = slashB p from hS.out]
      gi_wp2
      obtain ⟨W', hW', hK', hb', hrow', hB'⟩ := four_set (a := absB p) (s := (slashB p)) hv hr hrow (by decide) hK
      rw [← hW']
      have hb2 := hb'.putObj (.deferred none) hK' rfl
      have g0 := hb2.cell 0
      have g1 := hb2.cell 1
      have g2 := hb2.cell 2
      simp [pathV] at g0 g1 g2
      refine ⟨by simp, .inl ⟨_, _, rfl, run_takeDeferred hK', ?_⟩⟩
      refine ⟨.agg (pathV (absB p) (.slice av (namesB p).length cap) (slashB p)), ?_, _, rfl, ownsRow_putObj hrow' _ hK' rfl, (hB.trans hB').trans (belowK_b (w := w) (Nat.le_refl _) _ D _ _ (by simp at hD; omega) hK' rfl rfl)⟩
      simp [results, Tryz.f97, go_sem, g0, g1, g2]
    · have hS := Lib.hid (show slashB p = false from by
        have : (namesB p).isEmpty = true := by rw [List.isEmpty_iff]; exact List.eq_nil_of_length_eq_zero (by omega)
        simp [slashB, this])
      gi_wp2
      refine ⟨trivial, ?_⟩
      gi_wp2
      obtain ⟨W', hW', hK', hb', hrow', hB'⟩ := four_set (a := absB p) (s := false) hv hr hrow (by decide) hK
      rw [← hW']
      have hb2 := hb'.putObj (.deferred none) hK' rfl
      have g0 := hb2.cell 0
      have g1 := hb2.cell 1
      have g2 := hb2.cell 2
      simp [pathV] at g0 g1 g2
      refine ⟨by simp, .inl ⟨_, _, rfl, run_takeDeferred hK', ?_⟩⟩
      refine ⟨.agg (pathV (absB p) (.slice av (namesB p).length cap) false), ?_, _, by rw [hS.out], ownsRow_putObj hrow' _ hK' rfl, (hB.trans hB').trans (belowK_b (w := w) (Nat.le_refl _) _ D _ _ (by simp at hD; omega) hK' rfl rfl)⟩
      simp [results, Tryz.f97, go_sem, g0, g1, g2]
  case stop =>
    rintro D c pre W _ _ h _
    exact h.elim
end Go.Proofs.YtolbhjjcabiabaaGreatDoor

/- strings.Builder: a writing method's check, and WriteString. -/
set_option linter.unusedVariables false
set_option linter.unusedSimpArgs false
namespace Go.Proofs.YtolbhjjcabiabaaGreatDoor
open Go.RowKit Go.Shelf

set_option maxHeartbeats 1000000 in
set_option maxRecDepth 100000 in
theorem copyCheck_used (b : Nat) (w : World) (h0 : w.cell? ⟨b, 0, none⟩ = some (.pointer (some ⟨b, 0, none⟩))) :
    Calls Tryz.prog 63 #[.pointer (some ⟨b, 0, none⟩)] w fun e w' => e = .returned (.tuple #[]) ∧ w' = w := by
  obtain ⟨j, hj, _⟩ := Option.map_eq_some_iff.1 (show (Tryz.prog.info? 62).map (·.size) = some 2 from by kernel_rfl)
  go_enter Tryz.func63, Tryz.ntmps63
  go_wp2
  rw [Lib.run_neq_ptr_same w _ Tryz.underlying59 hj]
  go_wp2
  go_end0
  exact ⟨rfl, rfl⟩

set_option maxHeartbeats 1000000 in
set_option maxRecDepth 100000 in
theorem copyCheck_fresh (b : Nat) (w : World) (h0 : w.cell? ⟨b, 0, none⟩ = some (.pointer none)) (hsh : w.shape? b = some (62, 2)) (hfz : w.frozen? ⟨b, 0, none⟩ = false) :
    Calls Tryz.prog 63 #[.pointer (some ⟨b, 0, none⟩)] w fun e w' => e = .returned (.tuple #[]) ∧ w' = w.setCell ⟨b, 0, none⟩ (.pointer (some ⟨b, 0, none⟩)) := by
  obtain ⟨j, hj, hjs⟩ := Option.map_eq_some_iff.1 (show (Tryz.prog.info? 62).map (·.size) = some 2 from by kernel_rfl)
  have hlies : liesAt Tryz.prog Tryz.prog.depth 62 (2 / Tryz.prog.cellsOf 62) 0 62 1 = true := by kernel_rfl
  go_enter Tryz.func63, Tryz.ntmps63
  go_wp2
  rw [Lib.run_to_unsafe w ⟨b, 0, none⟩ Tryz.underlying59 Tryz.underlying106 hj (by rw [hjs]; decide) hsh (Nat.zero_lt_succ 1)]
  simp only [Result.andThen]
  rw [Oper.upon_value]
  go_wp2
  rw [run_callFunc_extern Tryz.func86 (by kernel_rfl) (by kernel_rfl) (by kernel_rfl) (e := Extern.AbiNoEscape.same) (by kernel_rfl)]
  rw [Lib.run_noEscape]
  simp only [Result.andThen]
  rw [Oper.upon_value]
  go_wp2
  rw [Lib.run_from_unsafe w ⟨b, 0, none⟩ Tryz.underlying106 Tryz.underlying59 hj hsh hlies]
  simp only [Result.andThen]
  rw [Oper.upon_value]
  go_wp2
  go_end0
  exact ⟨rfl, rfl⟩

/-- A writing method's check: behind it the builder is used. -/
theorem copyCheck_any (B b : Nat) (bs : List Value) (w : World) (h : Lib.IsBuilder 62 5 B b bs w) :
    Calls Tryz.prog 63 #[.pointer (some ⟨b, 0, none⟩)] w fun e w' => e = .returned (.tuple #[]) ∧ (Lib.BuilderAt 62 5 B b (.pointer (some ⟨b, 0, none⟩)) bs w' ∧ Below B w w') := by
  rcases h with h | h
  · refine (copyCheck_fresh b w h.cell0 h.shape h.frozen0).mono ?_
    rintro e w' ⟨rfl, rfl⟩
    exact ⟨rfl, h.used _, (Below.refl B w).setCell (p := ⟨b, 0, none⟩) h.1 _⟩
  · refine (copyCheck_used b w h.cell0).mono ?_
    rintro e w' ⟨rfl, rfl⟩
    exact ⟨rfl, h, Below.refl B _⟩

theorem Tryz.infoByte : (Tryz.prog.info? 5).map (fun i => (i.zero, i.size, i.bytes)) = some (some (.int .u8 0), 1, 1) := by kernel_rfl

set_option maxHeartbeats 2000000 in
set_option maxRecDepth 100000 in
theorem WriteString_any (B b : Nat) (bs : List UInt8) (l : List UInt8) (w : World) (h : Lib.IsBuilder 62 5 B b (bytesV bs) w) (hlen : bs.length + l.length ≤ 1000000000) (hBw : B ≤ w.heap.size) :
    Calls Tryz.prog 37 #[.pointer (some ⟨b, 0, none⟩), .string ⟨l.toArray⟩] w fun e w' => e = .returned (.tuple #[.int .i64 l.length, .nilIface]) ∧ (Lib.IsBuilder 62 5 B b (bytesV (bs ++ l)) w' ∧ Below B w w') := by
  obtain ⟨i0, hi, hz0, hz1, hz2⟩ := info_parts Tryz.infoByte
  go_enter Tryz.func37, Tryz.ntmps37
  go_wp2_with fail
  refine (copyCheck_any B b _ _ h).mono ?_
  rintro e w1 ⟨rfl, h1, hb1⟩
  obtain ⟨hB, v, hbk, hown, hne⟩ := h1
  have c0 : w1.cell? ⟨b, 0, none⟩ = some (.pointer (some ⟨b, 0, none⟩)) := by rw [Lib.cell_of_heap hbk]; rfl
  have c1 : w1.cell? ⟨b, 1, none⟩ = some v := by rw [Lib.cell_of_heap hbk]; rfl
  go_wp2_with (at_builtin; refine Lib.wpList_append_own_string _ rfl _ _ 60 9 rfl B 5 i0 Tryz.underlying60 Tryz.underlying9 hi hz0 hz1 hz2 _ _ _ rfl hown ⟨l.toArray⟩ rfl ?c3 ?c4 ?c5 ?_)
  case c3 => simp [bytesV, ByteArray.size]; unfold maxLen; omega
  case c4 => simp [bytesV, ByteArray.size]; omega
  case c5 => have := hb1.size; omega
  intro v' w2 hown' hgrow _
  have hlt : b < w1.heap.size := by
    rcases Nat.lt_or_ge b w1.heap.size with h' | h'
    · exact h'
    · simp [Array.getElem?_eq_none h'] at hbk
  have hb2 : w2.heap[b]? = some (.cells #[.pointer (some ⟨b, 0, none⟩), v] 62 (0, 0)) := by
    rw [hgrow.block b hlt (fun e => hne e.symm)]
    exact hbk
  have d0 : w2.cell? ⟨b, 0, none⟩ = some (.pointer (some ⟨b, 0, none⟩)) := by rw [Lib.cell_of_heap hb2]; rfl
  have d1 : w2.cell? ⟨b, 1, none⟩ = some v := by rw [Lib.cell_of_heap hb2]; rfl
  have f1 : w2.frozen? ⟨b, 1, none⟩ = false := Lib.frozen_of_heap hb2 1
  obtain ⟨ao, n', cap, rfl⟩ : ∃ ao n' cap, v' = .slice ao n' cap := by
    rcases hown'.2 with ⟨hv, _⟩ | ⟨g, cap, cur, hv, _⟩
    · exact ⟨_, _, _, hv⟩
    · exact ⟨_, _, _, hv⟩
  go_wp2
  go_ret2
  refine ⟨by simp [ByteArray.size], .inr ?_, ?_⟩
  · exact Lib.BuilderAt.put (T := 62) (e := 5) hB hb2 (bs' := bytesV (bs ++ l)) (by simpa [bytesV, Lib.strCells, ByteArray.size] using hown') (by decide)
  · exact (hb1.grown hgrow (by have := hb1.size; omega) (fun k hk => (hown.lt k hk).1)).setCell (p := ⟨b, 1, none⟩) hB _

/-- A builder as 'var b strings.Builder' lays it. -/
theorem builder_new (w : World) : Lib.IsBuilder 62 5 w.heap.size w.heap.size (bytesV []) (w.alloc (.cells #[.pointer none, .slice none 0 0] 62)) := by
  refine .inl ⟨Nat.le_refl _, .slice none 0 0, World.alloc_heap_new w _, World.ownsRow_nil _ _ _ _, by simp [Value.ownBlock]⟩

theorem builder_String (B b : Nat) (l : List UInt8) (w : World) (h : Lib.IsBuilder 62 5 B b (bytesV l) w) (hBw : B ≤ w.heap.size) :
    Calls Tryz.prog 40 #[.pointer (some ⟨b, 0, none⟩)] w fun e w' => e = .returned (.string ⟨l.toArray⟩) ∧ Below B w w' := Tryz.Builder_String_any B b l w h hBw
end Go.Proofs.YtolbhjjcabiabaaGreatDoor

/- Walks: Put, Join. -/
set_option linter.unusedVariables false
set_option linter.unusedSimpArgs false
namespace Go.Proofs.YtolbhjjcabiabaaGreatDoor
open Go.RowKit

abbrev pathA (a : Bool) (v : Value) (s : Bool) : Array Value := #[.bool a, v, .bool s]
theorem str_cell {w : World} {b off : Nat} {l : List (List UInt8)} (hc : ∀ i (h : i < l.length), w.cell? ⟨b, off + i, none⟩ = some (.string ⟨l[i].toArray⟩)) {k : Nat} (h : k < l.length) : w.cell? ⟨b, off + k, none⟩ = some (.string ⟨l[k].toArray⟩) := hc k h
theorem interB_next (ns : List (List UInt8)) (k : Nat) (h : k < ns.length) : interB (ns.take (k + 1)) = if k = 0 then ns[k] else interB (ns.take k) ++ 47 :: ns[k] := by
  rw [List.take_succ_eq_append_getElem h, interB_snoc]
  by_cases hk : k = 0
  · subst hk; simp
  · rw [if_neg hk, if_neg (by cases ns <;> cases k <;> simp_all)]
theorem putB_inter (a s : Bool) (ns : List (List UInt8)) : (interB ns).length ≤ (putB a ns s).length := by simp [putB]; omega
theorem putB_no (a s : Bool) (ns : List (List UInt8)) (h : s = false ∨ ns = []) : putB a ns s = (if a then [47] else []) ++ interB ns := by
  rcases h with rfl | rfl <;> simp [putB]
theorem putB_yes (a : Bool) (ns : List (List UInt8)) (h : 0 < ns.length) : putB a ns true = (if a then [47] else []) ++ interB ns ++ [47] := by
  have : ns.isEmpty = false := by rw [List.isEmpty_eq_false_iff]; rintro rfl; simp at h
  simp [putB, this]

set_option maxRecDepth 100000 in
set_option maxHeartbeats 4000000 in
theorem Put_true (s : Bool) (ns : List (List UInt8)) (v : Value) (w : World) (hv : Strs w v ns) (hl : ns.length ≤ 1000000) (hj : (interB ns).length ≤ 1000000) :
    Calls Tryz.prog 120 #[.agg (pathA true v s)] w fun e w' => e = .returned (.string ⟨(putB true ns s).toArray⟩) ∧ Below w.heap.size w w' := by
  obtain ⟨ad, ca, rfl, hm, HA0⟩ := hv
  have HA := Lib.hid HA0
  have HJ := Lib.hid hj
  clear HA0 hm hj
  have b0 := Blk.new w 114 (pathA true (.slice ad ns.length ca) s)
  have bb := builder_new (w.alloc (.cells (pathA true (.slice ad ns.length ca) s) 114))
  rw [World.size_alloc] at bb
  have hB0 : Below (w.heap.size + 1) (w.alloc (.cells (pathA true (.slice ad ns.length ca) s) 114)) ((w.alloc (.cells (pathA true (.slice ad ns.length ca) s) 114)).alloc (.cells #[.pointer none, .slice none 0 0] 62)) := (Below.refl _ _).alloc (by simp) _
  have hW0 : Below w.heap.size w (w.alloc (.cells (pathA true (.slice ad ns.length ca) s) 114)) := (Below.refl _ w).alloc (Nat.le_refl _) _
  have hs1 : (w.alloc (.cells (pathA true (.slice ad ns.length ca) s) 114)).heap.size = w.heap.size + 1 := by simp
  go_enter Tryz.func120, Tryz.ntmps120
  go_wp2_with fail
  refine (WriteString_any (w.heap.size + 1) (w.heap.size + 1) [] [47] _ bb (by decide) (by simp)).mono ?_
  rintro e w1 ⟨rfl, hb, h1⟩
  replace h1 := hB0.trans h1
  have bz : w1.cell? ⟨w.heap.size, 1, none⟩ = some (.slice ad ns.length ca) := (b0.below h1 (by simp)).cell 1
  go_wp2
  go_loopw [12] (fun i wr => ∃ k : Nat, k ≤ ns.length ∧ i = .int .i64 k ∧ Lib.IsBuilder 62 5 (w.heap.size + 1) (w.heap.size + 1) (bytesV ([47] ++ interB (ns.take k))) wr ∧ Below (w.heap.size + 1) (w.alloc (.cells (pathA true (.slice ad ns.length ca) s) 114)) wr) (fun i _ => ns.length - (intOf i).toNat)
  case atStart => exact ⟨0, Nat.zero_le _, rfl, by simpa [interB] using hb, h1⟩
  case round =>
    obtain ⟨k, hk, rfl, hbl, hBl⟩ := hrel
    have hsz := hBl.size
    rw [World.size_alloc] at hsz
    have hlen := Nat.le_trans (interB_take ns k) HJ.out
    by_cases hlt : k < ns.length
    · obtain ⟨ba, oa, rfl, hba, hca⟩ := HA.out (by omega)
      have c1 : wr.cell? ⟨ba, oa + k, none⟩ = some (.string ⟨ns[k].toArray⟩) := (hBl.cell (p := ⟨ba, oa + k, none⟩) (by simp; omega)).trans ((hW0.cell (p := ⟨ba, oa + k, none⟩) hba).trans (hca k hlt))
      clear hca
      have HN := Lib.hid (interB_next ns k hlt)
      have hlen2 := Nat.le_trans (interB_take ns (k + 1)) HJ.out
      by_cases h0 : 0 < k
      · have hkz : Hid (¬ k = 0) := by (show ¬ _); omega
        have hN2 := Lib.hid (HN.out.trans (if_neg hkz.out))
        rw [hN2.out, List.length_append, List.length_cons] at hlen2
        go_wp2_with fail
        refine (WriteString_any (w.heap.size + 1) (w.heap.size + 1) _ [47] _ hbl (by simp; omega) (by omega)).mono ?_
        rintro e w2 ⟨rfl, hb2, hB2⟩
        have c2 : w2.cell? ⟨ba, oa + k, none⟩ = some (.string ⟨ns[k].toArray⟩) := (hB2.cell (p := ⟨ba, oa + k, none⟩) (by simp; omega)).trans c1
        have hs2 := hB2.size
        clear c1
        go_wp2_with fail
        refine (WriteString_any (w.heap.size + 1) (w.heap.size + 1) _ ns[k] _ hb2 (by simp; omega) (by omega)).mono ?_
        rintro e w3 ⟨rfl, hb3, hB3⟩
        go_wp2
        go_roundw
        case rel => exact ⟨k + 1, by omega, by go_num, by rw [hN2.out]; simpa using hb3, (hBl.trans hB2).trans hB3⟩
        case measure => simp [intOf]; omega
      · obtain rfl : k = 0 := by omega
        have hN2 := Lib.hid (HN.out.trans (if_pos rfl))
        have c0 : wr.cell? ⟨ba, oa, none⟩ = some (.string ⟨ns[0].toArray⟩) := c1
        clear c1
        rw [hN2.out] at hlen2
        go_wp2_with fail
        refine (WriteString_any (w.heap.size + 1) (w.heap.size + 1) _ ns[0] _ hbl (by simp [interB]; omega) (by omega)).mono ?_
        rintro e w3 ⟨rfl, hb3, hB3⟩
        go_wp2
        go_roundw
        case rel => exact ⟨1, by omega, by go_num, by rw [hN2.out]; simpa [interB] using hb3, hBl.trans hB3⟩
        case measure => simp [intOf]; omega
    · obtain rfl : k = ns.length := by omega
      rw [List.take_length] at hbl hlen
      have bx := b0.below hBl (by simp)
      have x1 := bx.cell 1
      have x2 := bx.cell 2
      simp at x1 x2
      cases s
      · have HP := Lib.hid (putB_no true false ns (.inl rfl))
        go_wp2_with fail
        refine (builder_String (w.heap.size + 1) (w.heap.size + 1) _ _ hbl (by omega)).mono ?_
        rintro e w3 ⟨rfl, hB3⟩
        go_wp2
        go_ret
        exact ⟨ret_str (by rw [HP.out]; rfl), hW0.trans ((hBl.trans hB3).mono (by simp))⟩
      · by_cases hn : 0 < ns.length
        · have HP := Lib.hid (putB_yes true ns hn)
          go_wp2_with fail
          refine (WriteString_any (w.heap.size + 1) (w.heap.size + 1) _ [47] _ hbl (by simp; omega) (by omega)).mono ?_
          rintro e w2 ⟨rfl, hb2, hB2⟩
          have hs2 := hB2.size
          go_wp2_with fail
          refine (builder_String (w.heap.size + 1) (w.heap.size + 1) _ _ hb2 (by omega)).mono ?_
          rintro e w3 ⟨rfl, hB3⟩
          go_wp2
          go_ret
          exact ⟨ret_str (by rw [HP.out]; rfl), hW0.trans (((hBl.trans hB2).trans hB3).mono (by simp))⟩
        · have HP := Lib.hid (putB_no true true ns (.inr (List.eq_nil_of_length_eq_zero (by omega))))
          go_wp2_with fail
          refine (builder_String (w.heap.size + 1) (w.heap.size + 1) _ _ hbl (by omega)).mono ?_
          rintro e w3 ⟨rfl, hB3⟩
          go_wp2
          go_ret
          exact ⟨ret_str (by rw [HP.out]; rfl), hW0.trans ((hBl.trans hB3).mono (by simp))⟩

set_option maxRecDepth 100000 in
set_option maxHeartbeats 4000000 in
theorem Put_false (s : Bool) (ns : List (List UInt8)) (v : Value) (w : World) (hv : Strs w v ns) (hl : ns.length ≤ 1000000) (hj : (interB ns).length ≤ 1000000) :
    Calls Tryz.prog 120 #[.agg (pathA false v s)] w fun e w' => e = .returned (.string ⟨(putB false ns s).toArray⟩) ∧ Below w.heap.size w w' := by
  obtain ⟨ad, ca, rfl, hm, HA0⟩ := hv
  have HA := Lib.hid HA0
  have HJ := Lib.hid hj
  clear HA0 hm hj
  have b0 := Blk.new w 114 (pathA false (.slice ad ns.length ca) s)
  have bb := builder_new (w.alloc (.cells (pathA false (.slice ad ns.length ca) s) 114))
  rw [World.size_alloc] at bb
  have hB0 : Below (w.heap.size + 1) (w.alloc (.cells (pathA false (.slice ad ns.length ca) s) 114)) ((w.alloc (.cells (pathA false (.slice ad ns.length ca) s) 114)).alloc (.cells #[.pointer none, .slice none 0 0] 62)) := (Below.refl _ _).alloc (by simp) _
  have hW0 : Below w.heap.size w (w.alloc (.cells (pathA false (.slice ad ns.length ca) s) 114)) := (Below.refl _ w).alloc (Nat.le_refl _) _
  have hs1 : (w.alloc (.cells (pathA false (.slice ad ns.length ca) s) 114)).heap.size = w.heap.size + 1 := by simp
  go_enter Tryz.func120, Tryz.ntmps120
  have h1 := hB0
  have hb := bb
  go_wp2
  go_loopw [12] (fun i wr => ∃ k : Nat, k ≤ ns.length ∧ i = .int .i64 k ∧ Lib.IsBuilder 62 5 (w.heap.size + 1) (w.heap.size + 1) (bytesV ([] ++ interB (ns.take k))) wr ∧ Below (w.heap.size + 1) (w.alloc (.cells (pathA false (.slice ad ns.length ca) s) 114)) wr) (fun i _ => ns.length - (intOf i).toNat)
  case atStart => exact ⟨0, Nat.zero_le _, rfl, by simpa [interB] using hb, h1⟩
  case round =>
    obtain ⟨k, hk, rfl, hbl, hBl⟩ := hrel
    have hsz := hBl.size
    rw [World.size_alloc] at hsz
    have hlen := Nat.le_trans (interB_take ns k) HJ.out
    by_cases hlt : k < ns.length
    · obtain ⟨ba, oa, rfl, hba, hca⟩ := HA.out (by omega)
      have c1 : wr.cell? ⟨ba, oa + k, none⟩ = some (.string ⟨ns[k].toArray⟩) := (hBl.cell (p := ⟨ba, oa + k, none⟩) (by simp; omega)).trans ((hW0.cell (p := ⟨ba, oa + k, none⟩) hba).trans (hca k hlt))
      clear hca
      have HN := Lib.hid (interB_next ns k hlt)
      have hlen2 := Nat.le_trans (interB_take ns (k + 1)) HJ.out
      by_cases h0 : 0 < k
      · have hkz : Hid (¬ k = 0) := by (show ¬ _); omega
        have hN2 := Lib.hid (HN.out.trans (if_neg hkz.out))
        rw [hN2.out, List.length_append, List.length_cons] at hlen2
        go_wp2_with fail
        refine (WriteString_any (w.heap.size + 1) (w.heap.size + 1) _ [47] _ hbl (by simp; omega) (by omega)).mono ?_
        rintro e w2 ⟨rfl, hb2, hB2⟩
        have c2 : w2.cell? ⟨ba, oa + k, none⟩ = some (.string ⟨ns[k].toArray⟩) := (hB2.cell (p := ⟨ba, oa + k, none⟩) (by simp; omega)).trans c1
        have hs2 := hB2.size
        clear c1
        go_wp2_with fail
        refine (WriteString_any (w.heap.size + 1) (w.heap.size + 1) _ ns[k] _ hb2 (by simp; omega) (by omega)).mono ?_
        rintro e w3 ⟨rfl, hb3, hB3⟩
        go_wp2
        go_roundw
        case rel => exact ⟨k + 1, by omega, by go_num, by rw [hN2.out]; simpa using hb3, (hBl.trans hB2).trans hB3⟩
        case measure => simp [intOf]; omega
      · obtain rfl : k = 0 := by omega
        have hN2 := Lib.hid (HN.out.trans (if_pos rfl))
        have c0 : wr.cell? ⟨ba, oa, none⟩ = some (.string ⟨ns[0].toArray⟩) := c1
        clear c1
        rw [hN2.out] at hlen2
        go_wp2_with fail
        refine (WriteString_any (w.heap.size + 1) (w.heap.size + 1) _ ns[0] _ hbl (by simp [interB]; omega) (by omega)).mono ?_
        rintro e w3 ⟨rfl, hb3, hB3⟩
        go_wp2
        go_roundw
        case rel => exact ⟨1, by omega, by go_num, by rw [hN2.out]; simpa [interB] using hb3, hBl.trans hB3⟩
        case measure => simp [intOf]; omega
    · obtain rfl : k = ns.length := by omega
      rw [List.take_length] at hbl hlen
      have bx := b0.below hBl (by simp)
      have x1 := bx.cell 1
      have x2 := bx.cell 2
      simp at x1 x2
      cases s
      · have HP := Lib.hid (putB_no false false ns (.inl rfl))
        go_wp2_with fail
        refine (builder_String (w.heap.size + 1) (w.heap.size + 1) _ _ hbl (by omega)).mono ?_
        rintro e w3 ⟨rfl, hB3⟩
        go_wp2
        go_ret
        exact ⟨ret_str (by rw [HP.out]; rfl), hW0.trans ((hBl.trans hB3).mono (by simp))⟩
      · by_cases hn : 0 < ns.length
        · have HP := Lib.hid (putB_yes false ns hn)
          go_wp2_with fail
          refine (WriteString_any (w.heap.size + 1) (w.heap.size + 1) _ [47] _ hbl (by simp; omega) (by omega)).mono ?_
          rintro e w2 ⟨rfl, hb2, hB2⟩
          have hs2 := hB2.size
          go_wp2_with fail
          refine (builder_String (w.heap.size + 1) (w.heap.size + 1) _ _ hb2 (by omega)).mono ?_
          rintro e w3 ⟨rfl, hB3⟩
          go_wp2
          go_ret
          exact ⟨ret_str (by rw [HP.out]; rfl), hW0.trans (((hBl.trans hB2).trans hB3).mono (by simp))⟩
        · have HP := Lib.hid (putB_no false true ns (.inr (List.eq_nil_of_length_eq_zero (by omega))))
          go_wp2_with fail
          refine (builder_String (w.heap.size + 1) (w.heap.size + 1) _ _ hbl (by omega)).mono ?_
          rintro e w3 ⟨rfl, hB3⟩
          go_wp2
          go_ret
          exact ⟨ret_str (by rw [HP.out]; rfl), hW0.trans ((hBl.trans hB3).mono (by simp))⟩

theorem Put_any (a s : Bool) (ns : List (List UInt8)) (v : Value) (w : World) (hv : Strs w v ns) (hl : ns.length ≤ 1000000) (hj : (interB ns).length ≤ 1000000) :
    Calls Tryz.prog 120 #[.agg (pathA a v s)] w fun e w' => e = .returned (.string ⟨(putB a ns s).toArray⟩) ∧ Below w.heap.size w w' := by
  cases a
  · exact Put_false s ns v w hv hl hj
  · exact Put_true s ns v w hv hl hj

theorem Join_any (ns : List (List UInt8)) (v : Value) (w : World) (hv : Strs w v ns) (hl : ns.length ≤ 1000000) (hj : (interB ns).length ≤ 1000000) :
    Calls Tryz.prog 99 #[v] w fun e w' => e = .returned (.string ⟨(joinB ns).toArray⟩) ∧ Below w.heap.size w w' := by
  have hv2 := hv
  obtain ⟨ad, ca, rfl, hm, HA0⟩ := hv
  clear HA0
  go_enter Tryz.func99, Tryz.ntmps99
  go_wp2_with fail; refine (Put_any true false ns _ _ hv2 hl hj).mono ?_; rintro e w' ⟨rfl, hB⟩
  go_wp2
  go_ret
  exact ⟨ret_str (joinB_put ns), hB⟩
end Go.Proofs.YtolbhjjcabiabaaGreatDoor

/- The document's Few: few texts, none of them long. -/
set_option linter.unusedVariables false
set_option linter.unusedSimpArgs false
namespace Go.Proofs.YtolbhjjcabiabaaGreatDoor
open Go.RowKit
def fewB (l : List (List UInt8)) : Bool := (l.take 100).all (fun s => decide (s.length ≤ 300)) && decide (l.length ≤ 40)
theorem fewB_no {l : List (List UInt8)} {k : Nat} (h : k < l.length) (h1 : k < 100) (h2 : 300 < l[k].length) : fewB l = false := by
  rw [Bool.eq_false_iff]
  intro hb
  simp only [fewB, Bool.and_eq_true, List.all_eq_true] at hb
  have hk : k < (l.take 100).length := by simp; omega
  have := hb.1 (l.take 100)[k] (List.getElem_mem hk)
  simp at this
  omega
theorem fewB_yes {l : List (List UInt8)} {k : Nat} (h : ∀ j (hj : j < l.length), j < k → l[j].length ≤ 300) (h2 : ¬ (k < l.length ∧ k < 100)) : fewB l = decide (l.length ≤ 40) := by
  unfold fewB
  have : (l.take 100).all (fun s => decide (s.length ≤ 300)) = true := by
    rw [List.all_eq_true]
    intro s hs
    obtain ⟨j, hj, rfl⟩ := List.getElem_of_mem hs
    have hj2 : j < l.length ∧ j < 100 := by simp at hj; omega
    have := h j hj2.1 (by omega)
    simpa using this
  rw [this]; simp
theorem fewB_small {l : List (List UInt8)} (h : fewB l = true) : l.length ≤ 40 ∧ ∀ x ∈ l, x.length ≤ 300 := by
  simp only [fewB, Bool.and_eq_true, List.all_eq_true, decide_eq_true_eq] at h
  refine ⟨h.2, fun x hx => ?_⟩
  rw [List.take_of_length_le (by omega)] at h
  exact h.1 x hx
end Go.Proofs.YtolbhjjcabiabaaGreatDoor

/- Plain functions on lists of bytes: quoting and its form. No walk, no program. -/
namespace Go.Proofs.YtolbhjjcabiabaaGreatDoor

/-- A byte that stands for itself between quotes. -/
def bareB (c : UInt8) : Bool := decide (32 ≤ c.toNat) && decide (c.toNat ≤ 126) && !(c.toNat == 34) && !(c.toNat == 92)
abbrev hexDigits : List UInt8 := [48, 49, 50, 51, 52, 53, 54, 55, 56, 57, 97, 98, 99, 100, 101, 102]
def hexD (n : Nat) : UInt8 := hexDigits.getD n 0
/-- A byte's form between quotes. -/
def formB (c : UInt8) : List UInt8 := if bareB c then [c] else [92, 120, hexD (c.toNat / 16), hexD (c.toNat % 16)]
/-- The forms of all bytes. -/
def formsB (l : List UInt8) : List UInt8 := l.flatMap formB
def quoteB (l : List UInt8) : List UInt8 := 34 :: (formsB l ++ [34])
/-- A plain word's byte. -/
def plainC (c : UInt8) : Bool := decide (33 ≤ c.toNat) && decide (c.toNat ≤ 126) && !(c.toNat == 34)
def plainQ (l : List UInt8) : Bool := !l.isEmpty && l.all plainC

theorem formB_bare {c : UInt8} (h : bareB c = true) : formB c = [c] := by simp [formB, h]
theorem formB_hex {c : UInt8} (h : bareB c = false) : formB c = [92, 120, hexD (c.toNat / 16), hexD (c.toNat % 16)] := by simp [formB, h]
theorem formB_len (c : UInt8) : (formB c).length ≤ 4 := by unfold formB; split <;> simp
theorem formB_pos (c : UInt8) : 1 ≤ (formB c).length := by unfold formB; split <;> simp
theorem formsB_len (l : List UInt8) : (formsB l).length ≤ 4 * l.length := by
  induction l with
  | nil => simp [formsB]
  | cons c l ih => have := formB_len c; simp only [formsB, List.flatMap_cons, List.length_append, List.length_cons] at *; omega
theorem formsB_snoc (l : List UInt8) (k : Nat) (h : k < l.length) : formsB (l.take (k + 1)) = formsB (l.take k) ++ formB l[k] := by
  unfold formsB; rw [List.take_succ_eq_append_getElem h, List.flatMap_append]; simp only [List.flatMap_cons, List.flatMap_nil, List.append_nil]
theorem formsB_take_len (l : List UInt8) (k : Nat) : (formsB (l.take k)).length ≤ 4 * k := by
  have := formsB_len (l.take k)
  have h2 : (l.take k).length ≤ k := List.length_take_le _ _
  omega
theorem quoteB_len (l : List UInt8) : (quoteB l).length ≤ 4 * l.length + 2 := by
  have := formsB_len l; simp [quoteB]; omega
theorem hex_atN (m : Nat) (h : m < hexDigits.length) : hexDigits[m]'h = hexD m := by
  simp [hexD, List.getD, List.getElem?_eq_getElem h]
theorem hex_at (m : Nat) (q : Int) (hq : q.toNat = m) (h : q.toNat < hexDigits.length) : hexDigits[q.toNat]'h = hexD m := by
  subst hq; simp [hexD, List.getD, List.getElem?_eq_getElem h]
theorem plain_step (l : List UInt8) (k : Nat) (h : k < l.length) (ht : (l.take k).all plainC = true) (hp : plainC l[k] = true) : (l.take (k + 1)).all plainC = true := by
  rw [List.take_succ_eq_append_getElem h, List.all_append, ht]; simp [hp]
theorem plain_no (l : List UInt8) (k : Nat) (h : k < l.length) (hp : plainC l[k] = false) : plainQ l = false := by
  rw [Bool.eq_false_iff]
  intro hb
  simp only [plainQ, Bool.and_eq_true, List.all_eq_true] at hb
  have := hb.2 l[k] (List.getElem_mem h)
  simp [hp] at this
end Go.Proofs.YtolbhjjcabiabaaGreatDoor

/- Plain functions on lists of bytes: reading what is quoted. No walk, no program. -/
set_option linter.unusedVariables false
set_option linter.unusedSimpArgs false
namespace Go.Proofs.YtolbhjjcabiabaaGreatDoor

/-- The place of a digit base sixteen: 16, if it is none. -/
def idx16 (c : UInt8) : Nat := hexDigits.findIdx (· == c)
theorem idx16_le (c : UInt8) : idx16 c ≤ 16 := List.findIdx_le_length
theorem hexD_idx16 {c : UInt8} (h : idx16 c < 16) : hexD (idx16 c) = c := by
  have h' : idx16 c < hexDigits.length := h
  have := List.findIdx_getElem (p := (· == c)) (xs := hexDigits) (w := h')
  rw [← hex_atN _ h']; simp only [beq_iff_eq] at this; exact this
theorem idx16_hexD_all : ∀ n : Fin 16, idx16 (hexD n.val) = n.val := by decide
theorem idx16_hexD {n : Nat} (h : n < 16) : idx16 (hexD n) = n := idx16_hexD_all ⟨n, h⟩
theorem idx16_of {c : UInt8} {d : Nat} (hd : d ≤ 16) (hb : ∀ j, j < d → hexD j ≠ c) (he : d < 16 → hexD d = c) : idx16 c = d := by
  rcases Nat.lt_or_ge (idx16 c) d with h | h
  · exact absurd (hexD_idx16 (by omega)) (hb _ h)
  · rcases Nat.lt_or_ge d 16 with h2 | h2
    · have e := he h2
      have := idx16_hexD h2
      rw [e] at this; exact this
    · have := idx16_le c; omega

theorem byte_split (b : UInt8) : (16 * (b.toNat / 16) + b.toNat % 16).toUInt8 = b := by
  have : 16 * (b.toNat / 16) + b.toNat % 16 = b.toNat := by omega
  rw [this]; simp
theorem byte_join {h l : Nat} (hh : h < 16) (hl : l < 16) : (16 * h + l).toUInt8.toNat = 16 * h + l := by
  simp only [Nat.toUInt8_eq, UInt8.toNat_ofNat']; omega

def firstB : List UInt8 → Option (UInt8 × Nat)
  | [] => none
  | c :: r => if bareB c = true then some (c, 1) else
    match r with
    | e :: h :: l :: _ => if c = 92 ∧ e = 120 ∧ idx16 h < 16 ∧ idx16 l < 16 ∧ bareB (16 * idx16 h + idx16 l).toUInt8 = false then some ((16 * idx16 h + idx16 l).toUInt8, 4) else none
    | _ => none

theorem bareB_92 : bareB 92 = false := by decide

theorem firstB_form (b : UInt8) (t : List UInt8) : firstB (formB b ++ t) = some (b, (formB b).length) := by
  cases hb : bareB b
  · have h1 : b.toNat / 16 < 16 := by have := b.toNat_lt; omega
    have h2 : b.toNat % 16 < 16 := by omega
    rw [formB_hex hb]
    have hs := byte_split b
    simp only [List.cons_append, List.nil_append, firstB, bareB_92, idx16_hexD h1, idx16_hexD h2, h1, h2, hs, hb, Bool.false_eq_true, if_false, and_self, if_true]
    rfl
  · rw [formB_bare hb]; simp [firstB, hb]

theorem firstB_some {l : List UInt8} {b : UInt8} {k : Nat} (h : firstB l = some (b, k)) : k = (formB b).length ∧ l = formB b ++ l.drop k := by
  cases l with
  | nil => simp [firstB] at h
  | cons c r =>
    cases hc : bareB c
    · revert h
      match r with
      | [] => intro h; simp [firstB, hc] at h
      | [_] => intro h; simp [firstB, hc] at h
      | [_, _] => intro h; simp [firstB, hc] at h
      | e :: hi :: lo :: t =>
        intro h
        have hE : firstB (c :: e :: hi :: lo :: t) = if bareB c = true then some (c, 1) else if c = 92 ∧ e = 120 ∧ idx16 hi < 16 ∧ idx16 lo < 16 ∧ bareB (16 * idx16 hi + idx16 lo).toUInt8 = false then some ((16 * idx16 hi + idx16 lo).toUInt8, 4) else none := rfl
        rw [hE, if_neg (by simp [hc])] at h
        split at h
        · rename_i hh
          obtain ⟨rfl, rfl, h1, h2, hb⟩ := hh
          injection h with h
          injection h with ha hk
          subst ha hk
          have e := byte_join h1 h2
          have e1 : (16 * idx16 hi + idx16 lo) / 16 = idx16 hi := by omega
          have e2 : (16 * idx16 hi + idx16 lo) % 16 = idx16 lo := by omega
          rw [formB_hex hb, e, e1, e2, hexD_idx16 h1, hexD_idx16 h2]
          simp
        · cases h
    · simp only [firstB, hc, if_true, Option.some.injEq, Prod.mk.injEq] at h
      obtain ⟨rfl, rfl⟩ := h
      simp [formB_bare hc]

theorem formsB_cons (b : UInt8) (x : List UInt8) : formsB (b :: x) = formB b ++ formsB x := by simp [formsB]
theorem formsB_append (x y : List UInt8) : formsB (x ++ y) = formsB x ++ formsB y := by simp [formsB]

/-- What stands behind the forms of x is the forms of the rest. -/
theorem formsB_split : ∀ (x y r : List UInt8), formsB y = formsB x ++ r → ∃ z, y = x ++ z ∧ formsB z = r
  | [], y, r, h => ⟨y, rfl, by simpa [formsB] using h⟩
  | b :: x, y, r, h => by
    rw [formsB_cons, List.append_assoc] at h
    have h1 := firstB_form b (formsB x ++ r)
    rw [← h] at h1
    cases y with
    | nil =>
      have h2 : formsB ([] : List UInt8) = [] := rfl
      rw [h2] at h1; cases h1
    | cons c y =>
      rw [formsB_cons, firstB_form] at h1
      simp only [Option.some.injEq, Prod.mk.injEq] at h1
      obtain ⟨rfl, _⟩ := h1
      rw [formsB_cons] at h
      obtain ⟨z, rfl, hz⟩ := formsB_split x y r (List.append_cancel_left h)
      exact ⟨z, rfl, hz⟩

theorem formsB_inj {x y : List UInt8} (h : formsB x = formsB y) : x = y := by
  obtain ⟨z, rfl, hz⟩ := formsB_split y x [] (by simpa using h)
  cases z with
  | nil => simp
  | cons c z => rw [formsB_cons] at hz; have := formB_pos c; simp at hz; simp [hz.1] at this

theorem quoteB_inj {x y : List UInt8} (h : quoteB x = quoteB y) : x = y := by
  simp only [quoteB, List.cons.injEq, true_and] at h
  exact formsB_inj (List.append_cancel_right h)

/-- What is read between the marks. -/
def readF : Nat → List UInt8 → Option (List UInt8)
  | _, [] => some []
  | 0, _ :: _ => none
  | n + 1, c :: r => match firstB (c :: r) with
    | none => none
    | some (b, k) => (readF n ((c :: r).drop k)).map (b :: ·)

theorem readF_forms : ∀ (x : List UInt8) (n : Nat), (formsB x).length ≤ n → readF n (formsB x) = some x
  | [], n, _ => by cases n <;> rfl
  | b :: x, n, h => by
    rw [formsB_cons] at h ⊢
    have hp := formB_pos b
    have hf := firstB_form b (formsB x)
    match e : formB b, n with
    | [], _ => simp [e] at hp
    | c :: t, 0 => simp [e] at h
    | c :: t, n + 1 =>
      rw [e] at hf h
      simp only [List.cons_append] at hf ⊢
      have hd : (c :: (t ++ formsB x)).drop (c :: t).length = formsB x := by rw [← List.cons_append]; exact List.drop_left
      simp only [readF, hf, hd]
      rw [readF_forms x n (by simp at h; omega)]
      rfl

theorem readF_some : ∀ (n : Nat) (l x : List UInt8), readF n l = some x → formsB x = l
  | _, [], x, h => by simp [readF] at h; subst h; rfl
  | 0, _ :: _, x, h => by simp [readF] at h
  | n + 1, c :: r, x, h => by
    simp only [readF] at h
    split at h
    · cases h
    · rename_i b k hf
      obtain ⟨y, hy, rfl⟩ := Option.map_eq_some_iff.1 h
      rw [formsB_cons, readF_some n _ y hy]
      exact (firstB_some hf).2.symm

/-- The text that is quoted as l, if there is one. -/
def unquoteB : List UInt8 → Option (List UInt8)
  | [] => none
  | c :: r => if c = 34 ∧ r.getLast? = some 34 then readF r.length r.dropLast else none

theorem unquoteB_quote (x : List UInt8) : unquoteB (quoteB x) = some x := by
  simp only [quoteB, unquoteB, List.getLast?_append, List.getLast?_singleton, Option.some_or, and_self, if_true, List.dropLast_concat]
  exact readF_forms x _ (by simp)
theorem unquoteB_some {l x : List UInt8} (h : unquoteB l = some x) : quoteB x = l := by
  cases l with
  | nil => cases h
  | cons c r =>
    simp only [unquoteB] at h
    split at h
    · rename_i hc
      obtain ⟨rfl, hl⟩ := hc
      rw [quoteB, readF_some _ _ _ h]
      congr 1
      have hne : r ≠ [] := by rintro rfl; simp at hl
      have := List.dropLast_concat_getLast hne
      rw [List.getLast?_eq_some_getLast hne] at hl
      simp only [Option.some.injEq] at hl
      rw [hl] at this; exact this
    · cases h
theorem unquoteB_of {l x : List UInt8} (h : quoteB x = l) : unquoteB l = some x := by rw [← h]; exact unquoteB_quote x
theorem unquoteB_none {l : List UInt8} (h : ∀ x, quoteB x ≠ l) : unquoteB l = none := by
  cases e : unquoteB l with
  | none => rfl
  | some x => exact absurd (unquoteB_some e) (h x)

/-- A word: plain, or quoted. -/
def wordB (l : List UInt8) : Bool := plainQ l || (unquoteB l).isSome
end Go.Proofs.YtolbhjjcabiabaaGreatDoor

/- Plain functions on lists of bytes: lines of words. No walk, no program. -/
set_option linter.unusedVariables false
set_option linter.unusedSimpArgs false
namespace Go.Proofs.YtolbhjjcabiabaaGreatDoor

def consHead (p : List UInt8) : List (List UInt8) → List (List UInt8)
  | [] => [p]
  | h :: t => (p ++ h) :: t
/-- A line, cut at each blank that stands outside of marks. -/
def cutF : Bool → List UInt8 → List (List UInt8)
  | _, [] => [[]]
  | ins, c :: r => if c = 32 ∧ ins = false then [] :: cutF false r else consHead [c] (cutF (if c = 34 then !ins else ins) r)
def splitB (l : List UInt8) : Option (List (List UInt8)) := if l = [] then some [] else if (cutF false l).all wordB = true then some (cutF false l) else none

theorem consHead_append (p q : List UInt8) (l : List (List UInt8)) : consHead (p ++ q) l = consHead p (consHead q l) := by
  cases l <;> simp [consHead]
theorem consHead_nil (l : List (List UInt8)) (h : l ≠ []) : consHead [] l = l := by
  cases l with
  | nil => exact absurd rfl h
  | cons a t => simp [consHead]
theorem cutF_ne (ins : Bool) (l : List UInt8) : cutF ins l ≠ [] := by
  cases l with
  | nil => simp [cutF]
  | cons c r =>
    unfold cutF; split
    · simp
    · cases cutF (if c = 34 then !ins else ins) r <;> simp [consHead]
theorem cut_start (r : List UInt8) : cutF false r = consHead (r.take 0) (cutF false (r.drop 0)) := by simp [consHead_nil _ (cutF_ne _ _)]
theorem cut_keep {r : List UInt8} {i : Nat} {ins : Bool} {X : List (List UInt8)} (h : i < r.length) (hc : ¬ (r[i] = 32 ∧ ins = false)) (hX : X = consHead (r.take i) (cutF ins (r.drop i))) :
    X = consHead (r.take (i + 1)) (cutF (if r[i] = 34 then !ins else ins) (r.drop (i + 1))) := by
  rw [hX, List.take_succ_eq_append_getElem h, consHead_append, List.drop_eq_getElem_cons h, cutF, if_neg hc]
theorem cut_at {r : List UInt8} {i : Nat} {X : List (List UInt8)} (h : i < r.length) (hc : r[i] = 32) (hX : X = consHead (r.take i) (cutF false (r.drop i))) :
    X = r.take i :: cutF false (r.drop (i + 1)) := by
  rw [hX, List.drop_eq_getElem_cons h, cutF, if_pos ⟨hc, rfl⟩]; simp [consHead]
theorem cut_end {r : List UInt8} {ins : Bool} {X : List (List UInt8)} (hX : X = consHead (r.take r.length) (cutF ins (r.drop r.length))) : X = [r] := by
  rw [hX, List.drop_length]; simp [cutF, consHead]

theorem split_nil : splitB [] = some [] := rfl
theorem split_no {l : List UInt8} {ws t : List (List UInt8)} {x : List UInt8} (hl : l ≠ []) (h : cutF false l = ws ++ x :: t) (hx : wordB x = false) : splitB l = none := by
  unfold splitB
  rw [if_neg hl, if_neg]
  rw [h]; simp [hx]
theorem split_yes {l : List UInt8} {ws : List (List UInt8)} (hl : l ≠ []) (h : cutF false l = ws) (hw : ∀ x ∈ ws, wordB x = true) : splitB l = some ws := by
  unfold splitB
  rw [if_neg hl, if_pos, h]
  rw [h]; simpa using hw
end Go.Proofs.YtolbhjjcabiabaaGreatDoor

/- Plain functions on lists of bytes: texts joined; few and short texts. No walk, no program. -/
set_option linter.unusedVariables false
set_option linter.unusedSimpArgs false
namespace Go.Proofs.YtolbhjjcabiabaaGreatDoor

def joinQ : List (List UInt8) → List UInt8
  | [] => []
  | [x] => x
  | x :: y :: t => x ++ 32 :: joinQ (y :: t)
theorem joinQ_snoc : ∀ (l : List (List UInt8)) (x : List UInt8), l ≠ [] → joinQ (l ++ [x]) = joinQ l ++ 32 :: x
  | [], _, h => absurd rfl h
  | [y], x, _ => rfl
  | y :: z :: t, x, _ => by
    have := joinQ_snoc (z :: t) x (by simp)
    simp only [List.cons_append] at this
    simp only [List.cons_append, joinQ, this, List.append_assoc]
theorem joinQ_take (l : List (List UInt8)) (k : Nat) (h : k < l.length) : joinQ (l.take (k + 1)) = if k = 0 then l[k] else joinQ (l.take k) ++ 32 :: l[k] := by
  rw [List.take_succ_eq_append_getElem h]
  split
  · rename_i h0; subst h0; rfl
  · rename_i h0
    refine joinQ_snoc _ _ ?_
    intro e
    have := congrArg List.length e
    simp at this
    rcases this with h1 | h1
    · exact h0 h1
    · rw [h1] at h; exact absurd h (by simp)
theorem joinQ_take_le (l : List (List UInt8)) : ∀ (d k : Nat), k + d = l.length → (joinQ (l.take k)).length ≤ (joinQ l).length
  | 0, k, h => by rw [List.take_of_length_le (by omega)]; exact Nat.le_refl _
  | d + 1, k, h => by
    refine Nat.le_trans ?_ (joinQ_take_le l d (k + 1) (by omega))
    rw [joinQ_take l k (by omega)]
    split
    · rename_i h0; subst h0; simp [joinQ]
    · simp
end Go.Proofs.YtolbhjjcabiabaaGreatDoor

/- Plain functions on lists of bytes: what follows for forms and lines. No walk, no program. -/
set_option linter.unusedVariables false
set_option linter.unusedSimpArgs false
namespace Go.Proofs.YtolbhjjcabiabaaGreatDoor

/-- A byte that is a sign or a blank. -/
def signB (c : UInt8) : Bool := decide (32 ≤ c.toNat) && decide (c.toNat ≤ 126)
theorem hexD_sign_all : ∀ n : Fin 16, signB (hexD n.val) = true := by decide
theorem formB_sign (b : UInt8) : ∀ c ∈ formB b, signB c = true := by
  intro c hc
  cases hb : bareB b
  · rw [formB_hex hb] at hc
    have h1 := hexD_sign_all ⟨b.toNat / 16, by have := b.toNat_lt; omega⟩
    have h2 := hexD_sign_all ⟨b.toNat % 16, by omega⟩
    simp at hc
    rcases hc with rfl | rfl | rfl | rfl
    · decide
    · decide
    · exact h1
    · exact h2
  · rw [formB_bare hb] at hc
    simp at hc
    subst hc
    simp only [bareB, Bool.and_eq_true] at hb
    simp only [signB, Bool.and_eq_true]
    exact hb.1.1
theorem quoteB_sign (l : List UInt8) : ∀ c ∈ quoteB l, signB c = true := by
  intro c hc
  simp only [quoteB, List.mem_cons, List.mem_append, List.not_mem_nil, or_false] at hc
  rcases hc with rfl | h | rfl
  · decide
  · obtain ⟨b, _, hb⟩ := List.mem_flatMap.1 h
    exact formB_sign b c hb
  · decide

theorem formB_no34 (b : UInt8) : ∀ c ∈ formB b, ¬ c = 34 := by
  intro c hc
  cases hb : bareB b
  · rw [formB_hex hb] at hc
    have hh : ∀ n : Fin 16, ¬ hexD n.val = 34 := by decide
    have h1 := hh ⟨b.toNat / 16, by have := b.toNat_lt; omega⟩
    have h2 := hh ⟨b.toNat % 16, by omega⟩
    simp at hc
    rcases hc with rfl | rfl | rfl | rfl
    · decide
    · decide
    · exact h1
    · exact h2
  · rw [formB_bare hb] at hc
    simp at hc
    subst hc
    rintro rfl
    exact absurd hb (by decide)
theorem formsB_no34 (x : List UInt8) : ∀ c ∈ formsB x, ¬ c = 34 := by
  intro c hc
  obtain ⟨b, _, hb⟩ := List.mem_flatMap.1 hc
  exact formB_no34 b c hb

/-- A piece that no cut goes through, from outside to outside. -/
def Piece (p : List UInt8) : Prop := ∀ r, cutF false (p ++ r) = consHead p (cutF false r)

theorem piece_nil : Piece [] := fun r => by simp [consHead_nil _ (cutF_ne _ _)]
theorem cut_plain : ∀ (p r : List UInt8), (∀ c ∈ p, ¬ c = 34 ∧ ¬ c = 32) → cutF false (p ++ r) = consHead p (cutF false r)
  | [], r, _ => by simp [consHead_nil _ (cutF_ne _ _)]
  | c :: p, r, h => by
    have hc := h c (by simp)
    rw [List.cons_append, cutF, if_neg (fun e => hc.2 e.1), if_neg hc.1, cut_plain p r (fun d hd => h d (by simp [hd])), ← consHead_append]
    rfl
theorem cut_inside : ∀ (p r : List UInt8), (∀ c ∈ p, ¬ c = 34) → cutF true (p ++ r) = consHead p (cutF true r)
  | [], r, _ => by simp [consHead_nil _ (cutF_ne _ _)]
  | c :: p, r, h => by
    have hc := h c (by simp)
    rw [List.cons_append, cutF, if_neg (by simp), if_neg hc, cut_inside p r (fun d hd => h d (by simp [hd])), ← consHead_append]
    rfl
theorem piece_quote (x : List UInt8) : Piece (quoteB x) := by
  intro r
  have e : quoteB x ++ r = 34 :: (formsB x ++ (34 :: r)) := by simp [quoteB]
  rw [e, cutF, if_neg (by decide), if_pos rfl]
  show consHead [34] (cutF true _) = _
  rw [cut_inside _ _ (formsB_no34 x), cutF, if_neg (by decide), if_pos rfl]
  show consHead [34] (consHead (formsB x) (consHead [34] (cutF false r))) = _
  rw [← consHead_append, ← consHead_append]
  rfl
theorem piece_word {w : List UInt8} (h : wordB w = true) : Piece w := by
  simp only [wordB, Bool.or_eq_true] at h
  rcases h with h | h
  · refine fun r => cut_plain w r fun c hc => ?_
    simp only [plainQ, Bool.and_eq_true, List.all_eq_true] at h
    have := h.2 c hc
    constructor
    · rintro rfl; exact absurd this (by decide)
    · rintro rfl; exact absurd this (by decide)
  · obtain ⟨x, hx⟩ := Option.isSome_iff_exists.1 h
    rw [← unquoteB_some hx]; exact piece_quote x

theorem cut_join : ∀ (P : List (List UInt8)), P ≠ [] → (∀ p ∈ P, Piece p) → cutF false (joinQ P) = P
  | [], h, _ => absurd rfl h
  | [x], _, h => by
    have := h x (by simp) []
    simp [cutF, consHead] at this
    simpa [joinQ] using this
  | x :: y :: t, _, h => by
    have h1 := h x (by simp) (32 :: joinQ (y :: t))
    have h2 := cut_join (y :: t) (by simp) (fun p hp => h p (by simp at hp ⊢; exact .inr hp))
    rw [joinQ, h1, cutF, if_pos ⟨rfl, rfl⟩, h2]
    simp [consHead]

theorem joinQ_consHead (c : UInt8) (X : List (List UInt8)) (h : X ≠ []) : joinQ (consHead [c] X) = c :: joinQ X := by
  match X, h with
  | [x], _ => rfl
  | x :: y :: t, _ => rfl
theorem join_cut : ∀ (l : List UInt8) (ins : Bool), joinQ (cutF ins l) = l
  | [], ins => by cases ins <;> rfl
  | c :: r, ins => by
    rw [cutF]
    split
    · rename_i h
      have h1 := join_cut r false
      have h2 := cutF_ne false r
      revert h1 h2
      generalize cutF false r = X
      intro h1 h2
      match X, h2 with
      | y :: t, _ => simp only [joinQ, List.nil_append, h1, h.1]
    · rw [joinQ_consHead _ _ (cutF_ne _ _), join_cut r]

theorem wordB_ne {w : List UInt8} (h : wordB w = true) : w ≠ [] := by rintro rfl; exact absurd h (by decide)
theorem joinQ_ne {P : List (List UInt8)} (h : P ≠ []) (hw : ∀ p ∈ P, p ≠ []) : joinQ P ≠ [] := by
  match P, h with
  | [x], _ => exact hw x (by simp)
  | x :: y :: t, _ => simp [joinQ]
theorem split_join (P : List (List UInt8)) (h : ∀ p ∈ P, wordB p = true) : splitB (joinQ P) = some P := by
  by_cases hP : P = []
  · subst hP; rfl
  · exact split_yes (joinQ_ne hP fun p hp => wordB_ne (h p hp)) (cut_join P hP fun p hp => piece_word (h p hp)) h
theorem join_split {l : List UInt8} {ws : List (List UInt8)} (h : splitB l = some ws) : joinQ ws = l := by
  unfold splitB at h
  split at h
  · rename_i hl; subst hl; injection h with h; subst h; rfl
  · split at h
    · injection h with h; subst h; exact join_cut l false
    · cases h

theorem cutF_count : ∀ (l : List UInt8) (ins : Bool), (cutF ins l).length ≤ l.length + 1
  | [], ins => by cases ins <;> simp [cutF]
  | c :: r, ins => by
    rw [cutF]
    split
    · have := cutF_count r false; simp; omega
    · have h1 := cutF_count r (if c = 34 then !ins else ins)
      revert h1
      generalize cutF (if c = 34 then !ins else ins) r = X
      intro h1
      cases X <;> simp [consHead] at * <;> omega
theorem join_count {l : List UInt8} {ws : List (List UInt8)} (h : splitB l = some ws) : ws.length ≤ l.length + 1 := by
  unfold splitB at h
  split at h
  · injection h with h; subst h; simp
  · split at h
    · injection h with h; subst h; exact cutF_count l false
    · cases h
theorem joinQ_len : ∀ (P : List (List UInt8)) (n : Nat), (∀ p ∈ P, p.length ≤ n) → (joinQ P).length ≤ P.length * (n + 1)
  | [], n, _ => by simp [joinQ]
  | [x], n, h => by have := h x (by simp); simp [joinQ]; omega
  | x :: y :: t, n, h => by
    have h1 := h x (by simp)
    have h2 := joinQ_len (y :: t) n (fun p hp => h p (by simp at hp ⊢; exact .inr hp))
    simp only [joinQ, List.length_append, List.length_cons] at *
    have : (t.length + 1 + 1) * (n + 1) = (t.length + 1) * (n + 1) + (n + 1) := by rw [Nat.add_mul]; omega
    omega

theorem blank_le {a b t : List UInt8} {n : Nat} (h : a ++ b = t) (ht : t.length ≤ n) {c : List UInt8} (hc : c.length ≤ a.length) : c.length ≤ n := by
  rw [← h, List.length_append] at ht; omega
/-- The words of QuoteLines: each second one stays, if it is plain. -/
def lineWords : Nat → List (List UInt8) → List (List UInt8)
  | _, [] => []
  | i, x :: t => (if i % 2 = 0 ∨ plainQ x = false then quoteB x else x) :: lineWords (i + 1) t
theorem wordB_quote (x : List UInt8) : wordB (quoteB x) = true := by simp [wordB, unquoteB_quote]
theorem lineWords_word : ∀ (l : List (List UInt8)) (i : Nat), ∀ p ∈ lineWords i l, wordB p = true
  | [], _, p, h => by simp [lineWords] at h
  | x :: t, i, p, h => by
    simp only [lineWords, List.mem_cons] at h
    rcases h with rfl | h
    · split
      · exact wordB_quote x
      · rename_i hc
        simp only [not_or] at hc
        simp [wordB]; left; simpa using hc.2
    · exact lineWords_word t (i + 1) p h
theorem lineWords_len : ∀ (l : List (List UInt8)) (i : Nat), (lineWords i l).length = l.length
  | [], _ => rfl
  | _ :: t, i => by simp [lineWords, lineWords_len t]
theorem lineWords_le : ∀ (l : List (List UInt8)) (i : Nat), (∀ x ∈ l, x.length ≤ 300) → ∀ p ∈ lineWords i l, p.length ≤ 1202
  | [], _, _, p, h => by simp [lineWords] at h
  | x :: t, i, hx, p, h => by
    simp only [lineWords, List.mem_cons] at h
    rcases h with rfl | h
    · have h1 := hx x (by simp)
      split
      · have := quoteB_len x; omega
      · omega
    · exact lineWords_le t (i + 1) (fun y hy => hx y (by simp [hy])) p h
theorem lineWords_snoc : ∀ (l : List (List UInt8)) (i : Nat) (x : List UInt8), lineWords i (l ++ [x]) = lineWords i l ++ [if (i + l.length) % 2 = 0 ∨ plainQ x = false then quoteB x else x]
  | [], i, x => by simp [lineWords]
  | y :: t, i, x => by
    have := lineWords_snoc t (i + 1) x
    have e : i + 1 + t.length = i + (t.length + 1) := by omega
    rw [e] at this
    simp only [List.cons_append, lineWords, this, List.length_cons]
theorem lineWords_take (l : List (List UInt8)) (k : Nat) (h : k < l.length) : lineWords 0 (l.take (k + 1)) = lineWords 0 (l.take k) ++ [if k % 2 = 0 ∨ plainQ l[k] = false then quoteB l[k] else l[k]] := by
  rw [List.take_succ_eq_append_getElem h, lineWords_snoc]
  have : (l.take k).length = k := by simp; omega
  rw [this, Nat.zero_add]

/-- The pieces of QuoteBlank that are to come at word i. -/
def restP (l : List (List UInt8)) (n i : Nat) : List (List UInt8) := if i ≤ n then ((l.map quoteB).take n).drop i ++ [] :: (l.map quoteB).drop n else (l.map quoteB).drop i
def blankT (l : List (List UInt8)) (n : Nat) : List UInt8 := joinQ (restP l n 0)
theorem restP_lt {l : List (List UInt8)} {n i : Nat} (h : i < n) (hl : i < l.length) : restP l n i = quoteB l[i] :: restP l n (i + 1) := by
  unfold restP
  rw [if_pos (by omega), if_pos (by omega), List.drop_eq_getElem_cons (by simp; omega)]
  simp
theorem restP_ne {l : List (List UInt8)} {n i : Nat} (h : i ≤ n) : restP l n i ≠ [] := by unfold restP; rw [if_pos h]; simp
theorem restP_at {l : List (List UInt8)} {n : Nat} (hl : n < l.length) : restP l n n = [] :: quoteB l[n] :: (l.map quoteB).drop (n + 1) := by
  unfold restP
  rw [if_pos (Nat.le_refl _), List.drop_eq_nil_of_le (by simp; omega), List.drop_eq_getElem_cons (l := l.map quoteB) (by simpa using hl)]
  simp
theorem restP_gt {l : List (List UInt8)} {n i : Nat} (h : n < i) : restP l n i = (l.map quoteB).drop i := by unfold restP; rw [if_neg (by omega)]
theorem drop_quote {l : List (List UInt8)} {i : Nat} (hl : i < l.length) : (l.map quoteB).drop i = quoteB l[i] :: (l.map quoteB).drop (i + 1) := by
  rw [List.drop_eq_getElem_cons (by simpa using hl)]; simp
theorem join_drop {l : List (List UInt8)} {i : Nat} (hl : i < l.length) : joinQ ((l.map quoteB).drop i) = quoteB l[i] ++ (if i + 1 < l.length then [32] else []) ++ joinQ ((l.map quoteB).drop (i + 1)) := by
  rw [drop_quote hl]
  split
  · rename_i h
    rw [drop_quote h]; simp [joinQ]
  · rename_i h
    rw [List.drop_eq_nil_of_le (by simp; omega)]; simp [joinQ]
/-- What the round adds. -/
theorem blank_step {l : List (List UInt8)} {n i : Nat} (hn : n ≤ l.length) (hl : i < l.length) :
    joinQ (restP l n i) = (if i = n then [32] else []) ++ quoteB l[i] ++ (if i + 1 < l.length ∨ n = l.length then [32] else []) ++ joinQ (restP l n (i + 1)) := by
  rcases Nat.lt_trichotomy i n with h | h | h
  · rw [restP_lt h hl, if_neg (by omega), if_pos (by omega)]
    have hne := restP_ne (l := l) (show i + 1 ≤ n from h)
    revert hne
    generalize restP l n (i + 1) = R
    intro hne
    match R, hne with
    | y :: t, _ => simp [joinQ]
  · subst h
    rw [restP_at hl, if_pos rfl, restP_gt (by omega)]
    have := join_drop hl
    rw [drop_quote hl] at this
    have e : joinQ ([] :: quoteB l[i] :: (l.map quoteB).drop (i + 1)) = 32 :: joinQ (quoteB l[i] :: (l.map quoteB).drop (i + 1)) := rfl
    rw [e, this]
    have e2 : (i + 1 < l.length ∨ i = l.length) ↔ i + 1 < l.length := by omega
    simp [e2]
  · rw [restP_gt h, restP_gt (by omega), if_neg (by omega), join_drop hl]
    have e2 : (i + 1 < l.length ∨ n = l.length) ↔ i + 1 < l.length := by omega
    simp [e2]
theorem blank_end {l : List (List UInt8)} {n : Nat} (hn : n ≤ l.length) : joinQ (restP l n l.length) = [] := by
  unfold restP
  split
  · obtain rfl : n = l.length := by omega
    rw [List.drop_eq_nil_of_le (by simp), List.drop_eq_nil_of_le (by simp)]; rfl
  · rw [List.drop_eq_nil_of_le (by simp)]; rfl
theorem blank_piece {l : List (List UInt8)} {n : Nat} : ∀ p ∈ restP l n 0, Piece p := by
  intro p hp
  unfold restP at hp
  rw [if_pos (Nat.zero_le _)] at hp
  simp only [List.drop_zero, List.mem_append, List.mem_cons] at hp
  rcases hp with h | rfl | h
  · obtain ⟨x, _, rfl⟩ := List.mem_map.1 (List.mem_of_mem_take h); exact piece_quote x
  · exact piece_nil
  · obtain ⟨x, _, rfl⟩ := List.mem_map.1 (List.mem_of_mem_drop h); exact piece_quote x
theorem blank_none {l : List (List UInt8)} {n : Nat} (hl : l ≠ []) (hn : n ≤ l.length) : splitB (blankT l n) = none := by
  have hc := cut_join (restP l n 0) (restP_ne (Nat.zero_le _)) blank_piece
  have hne : blankT l n ≠ [] := by
    intro e
    rw [blankT] at e
    rw [e] at hc
    have h0 : 0 < l.length := by cases l with | nil => exact absurd rfl hl | cons _ _ => simp
    have h2 : (restP l n 0).length = l.length + 1 := by
      unfold restP; rw [if_pos (Nat.zero_le _)]; simp; omega
    rw [← hc] at h2
    exact hl (by simpa [cutF] using h2)
  have hm : restP l n 0 = (l.map quoteB).take n ++ [] :: (l.map quoteB).drop n := by unfold restP; rw [if_pos (Nat.zero_le _)]; simp
  exact split_no hne (hc.trans hm) (by decide)
theorem blank_len {l : List (List UInt8)} {n : Nat} (h : l.length ≤ 40) (hx : ∀ x ∈ l, x.length ≤ 300) (hn : n ≤ l.length) : (blankT l n).length ≤ 60000 := by
  have h1 := joinQ_len (restP l n 0) 1202 (by
    intro p hp
    unfold restP at hp
    rw [if_pos (Nat.zero_le _)] at hp
    simp only [List.drop_zero, List.mem_append, List.mem_cons] at hp
    rcases hp with h | rfl | h
    · obtain ⟨x, hx', rfl⟩ := List.mem_map.1 (List.mem_of_mem_take h); have := quoteB_len x; have := hx x hx'; omega
    · simp
    · obtain ⟨x, hx', rfl⟩ := List.mem_map.1 (List.mem_of_mem_drop h); have := quoteB_len x; have := hx x hx'; omega)
  have h2 : (restP l n 0).length = l.length + 1 := by
    unfold restP; rw [if_pos (Nat.zero_le _)]; simp; omega
  rw [h2] at h1
  unfold blankT
  have : (l.length + 1) * (1202 + 1) ≤ 41 * 1203 := Nat.mul_le_mul (by omega) (by omega)
  omega
end Go.Proofs.YtolbhjjcabiabaaGreatDoor

/- Plans' lines: numbers as digits, an operation's words. No program's function. -/
set_option linter.unusedVariables false
set_option linter.unusedSimpArgs false
namespace Go.Proofs.YtolbhjjcabiabaaGreatDoor

/-! ### Numbers -/
def decF : Nat → Nat → List UInt8
  | 0, _ => []
  | f + 1, n => if n < 10 then [UInt8.ofNat (48 + n)] else decF f (n / 10) ++ [UInt8.ofNat (48 + n % 10)]
def decB (n : Nat) : List UInt8 := decF 20 n
def valB (s : List UInt8) : Nat := s.foldl (fun n c => 10 * n + (c.toNat - 48)) 0
def digB (c : UInt8) : Bool := decide (48 ≤ c.toNat) && decide (c.toNat ≤ 57)
def numB20 (s : List UInt8) : Int :=
  if (decide (1 ≤ s.length) && (decide (s.length ≤ 10) && s.all digB)) = true then (if valB s ≤ 1073741824 ∧ decB (valB s) = s then (valB s : Int) else -1) else -1
theorem val_snoc (a : List UInt8) (c : UInt8) : valB (a ++ [c]) = 10 * valB a + (c.toNat - 48) := by unfold valB; rw [List.foldl_append]; rfl
theorem dig_of {m : Nat} (h : m < 10) : (UInt8.ofNat (48 + m)).toNat = 48 + m := by
  rw [UInt8.toNat_ofNat']; omega
theorem decF_val (f : Nat) : ∀ n, n < 10 ^ f → valB (decF f n) = n := by
  induction f with
  | zero => intro n h; simp at h; subst h; rfl
  | succ f ih =>
    intro n h
    unfold decF
    split
    · rename_i h10
      have := val_snoc [] (UInt8.ofNat (48 + n))
      rw [List.nil_append, dig_of h10] at this
      rw [this]
      simp [valB]
    · rw [val_snoc, ih _ (by rw [Nat.pow_succ] at h; omega), dig_of (Nat.mod_lt _ (by decide))]
      omega
theorem decF_dig (f : Nat) : ∀ n, ∀ c ∈ decF f n, digB c = true := by
  induction f with
  | zero => intro n c hc; cases hc
  | succ f ih =>
    intro n c hc
    unfold decF at hc
    split at hc
    · rename_i h10
      rw [List.mem_singleton.1 hc]
      unfold digB
      rw [dig_of h10]
      simp; omega
    · rcases List.mem_append.1 hc with hc | hc
      · exact ih _ c hc
      · rw [List.mem_singleton.1 hc]
        unfold digB
        rw [dig_of (Nat.mod_lt _ (by decide))]
        have := Nat.mod_lt n (show 0 < 10 by decide)
        simp; omega
theorem decF_len (k : Nat) : ∀ f n, n < 10 ^ k → 1 ≤ k → (decF f n).length ≤ k := by
  induction k with
  | zero => intro f n _ h; omega
  | succ k ih =>
    intro f n h _
    cases f with
    | zero => simp [decF]
    | succ f =>
      unfold decF
      split
      · simp
      · rename_i h10
        rw [List.length_append, List.length_singleton]
        by_cases hk : k = 0
        · subst hk; simp at h; omega
        · have := ih f (n / 10) (by rw [Nat.pow_succ] at h; omega) (by omega)
          omega
theorem decF_pos (f n : Nat) : 1 ≤ (decF (f + 1) n).length := by
  unfold decF
  split <;> simp
theorem dec_val {n : Nat} (h : n < 10 ^ 20) : valB (decB n) = n := decF_val 20 n h
theorem num_dec {n : Nat} (h : n ≤ 1073741824) : numB20 (decB n) = n := by
  have h1 : valB (decB n) = n := dec_val (Nat.lt_of_le_of_lt h (by decide))
  unfold numB20
  rw [if_pos, h1, if_pos ⟨h, rfl⟩]
  rw [Bool.and_eq_true, Bool.and_eq_true, decide_eq_true_eq, decide_eq_true_eq, List.all_eq_true]
  exact ⟨decF_pos 19 n, decF_len 10 20 n (Nat.lt_of_le_of_lt h (by decide)) (by decide), decF_dig 20 n⟩
theorem num_ok {s : List UInt8} (h : 0 ≤ numB20 s) : decB (numB20 s).toNat = s ∧ numB20 s ≤ 1073741824 := by
  unfold numB20 at h ⊢
  split at h
  · rename_i h1
    rw [if_pos h1]
    split at h
    · rename_i h2
      rw [if_pos h2]
      exact ⟨h2.2, by omega⟩
    · omega
  · omega

/-! ### An operation's words -/
def wordK (k : Int) : List UInt8 :=
  if k = 1 then [109, 107, 100, 105, 114] else if k = 2 then [99, 111, 112, 121] else if k = 3 then [119, 114, 105, 116, 101] else if k = 4 then [115, 121, 109] else if k = 5 then [108, 105, 110, 107] else
  if k = 6 then [109, 111, 118, 101] else if k = 7 then [115, 116, 97, 115, 104] else if k = 8 then [101, 114, 97, 115, 101] else if k = 9 then [114, 101, 116, 117, 114, 110] else if k = 10 then [114, 101, 115, 116, 111, 114, 101] else []
theorem word_cases {k : Int} (h1 : 1 ≤ k) (h2 : k ≤ 10) : k = 1 ∨ k = 2 ∨ k = 3 ∨ k = 4 ∨ k = 5 ∨ k = 6 ∨ k = 7 ∨ k = 8 ∨ k = 9 ∨ k = 10 := by omega
theorem wordK_inj {k j : Int} (h1 : 1 ≤ k) (h2 : k ≤ 10) (h3 : 1 ≤ j) (h4 : j ≤ 10) (h : wordK k = wordK j) : k = j := by
  rcases word_cases h1 h2 with rfl | rfl | rfl | rfl | rfl | rfl | rfl | rfl | rfl | rfl <;>
    rcases word_cases h3 h4 with rfl | rfl | rfl | rfl | rfl | rfl | rfl | rfl | rfl | rfl <;>
    first | rfl | exact absurd h (by decide)
theorem wordK_word {k : Int} (h1 : 1 ≤ k) (h2 : k ≤ 10) : wordB (wordK k) = true := by
  rcases word_cases h1 h2 with rfl | rfl | rfl | rfl | rfl | rfl | rfl | rfl | rfl | rfl <;> decide
theorem dec_word (n : Nat) : wordB (decB n) = true := by
  have hp : plainQ (decB n) = true := by
    unfold plainQ
    rw [Bool.and_eq_true, List.all_eq_true]
    refine ⟨?_, fun c hc => ?_⟩
    · have := decF_pos 19 n
      unfold decB
      cases h : decF 20 n with
      | nil => rw [h] at this; simp at this
      | cons _ _ => rfl
    · have := decF_dig 20 n c hc
      unfold digB at this
      unfold plainC
      simp at this ⊢
      omega
  unfold wordB
  rw [hp]; rfl
def lineW (o : OpV) : List (List UInt8) :=
  wordK o.kind :: ((if slotK o.kind = true then [decB o.slot.toNat] else []) ++ ((if o.kind = 4 then [quoteB o.data] else []) ++ quoteB o.a :: (if pairK o.kind = true then [quoteB o.b] else [])))
def lineO (o : OpV) : List UInt8 := if 1 ≤ o.kind ∧ o.kind ≤ 10 then joinQ (lineW o) else []
theorem lineW_word {o : OpV} (h : 1 ≤ o.kind ∧ o.kind ≤ 10) : ∀ x ∈ lineW o, wordB x = true := by
  intro x hx
  unfold lineW at hx
  rcases List.mem_cons.1 hx with rfl | hx
  · exact wordK_word h.1 h.2
  rcases List.mem_append.1 hx with hx | hx
  · split at hx
    · rw [List.mem_singleton.1 hx]; exact dec_word _
    · cases hx
  rcases List.mem_append.1 hx with hx | hx
  · split at hx
    · rw [List.mem_singleton.1 hx]; exact wordB_quote _
    · cases hx
  rcases List.mem_cons.1 hx with rfl | hx
  · exact wordB_quote _
  · split at hx
    · rw [List.mem_singleton.1 hx]; exact wordB_quote _
    · cases hx
theorem may_kind {o : OpV} (h : mayO o = true) : 1 ≤ o.kind ∧ o.kind ≤ 10 := by
  unfold mayO at h
  simp only [Bool.and_eq_true, decide_eq_true_eq] at h
  exact h.1.1
theorem line_split {o : OpV} (h : mayO o = true) : splitB (lineO o) = some (lineW o) := by
  have hk := may_kind h
  unfold lineO
  rw [if_pos hk]
  exact split_join _ (lineW_word hk)
/-- What an operation that may be hasn't, is 0 or empty. -/
theorem may_none {o : OpV} (h : mayO o = true) : (slotK o.kind = false → o.slot = 0) ∧ (slotK o.kind = true → 1 ≤ o.slot ∧ o.slot ≤ 1073741824) ∧ (pairK o.kind = false → o.b = []) ∧ (o.kind ≠ 4 → o.data = []) := by
  unfold mayO at h
  simp only [Bool.and_eq_true] at h
  obtain ⟨_, h1, h2, h3, _⟩ := h
  refine ⟨fun e => ?_, fun e => ?_, fun e => ?_, fun e => ?_⟩
  · rw [if_neg (by rw [e]; decide)] at h1; simpa using h1
  · rw [if_pos e] at h1; simpa using h1
  · rw [if_neg (by rw [e]; decide)] at h2; simpa using h2
  · rw [if_neg e] at h3; simpa using h3
theorem line_inj {o p : OpV} (ho : mayO o = true) (hp : mayO p = true) (h : lineO o = lineO p) : o = p := by
  have e := line_split ho
  rw [h, line_split hp] at e
  have e2 := (Option.some.inj e).symm
  obtain ⟨k1, k2⟩ := may_kind ho
  obtain ⟨j1, j2⟩ := may_kind hp
  obtain ⟨a1, a2, a3, a4⟩ := may_none ho
  obtain ⟨b1, b2, b3, b4⟩ := may_none hp
  unfold lineW at e2
  obtain ⟨e3, e4⟩ := List.cons.inj e2
  have hk := wordK_inj k1 k2 j1 j2 e3
  obtain ⟨ok, os, oa, ob, od⟩ := o
  obtain ⟨pk, ps, pa, pb, pd⟩ := p
  dsimp only at *
  subst hk
  have hs : os = ps ∧ ((if ok = 4 then [quoteB od] else []) ++ quoteB oa :: (if pairK ok = true then [quoteB ob] else [])) = ((if ok = 4 then [quoteB pd] else []) ++ quoteB pa :: (if pairK ok = true then [quoteB pb] else [])) := by
    cases hsk : slotK ok
    · rw [hsk] at e4
      exact ⟨by rw [a1 hsk, b1 hsk], by simpa using e4⟩
    · rw [hsk, if_pos rfl, if_pos rfl, List.singleton_append, List.singleton_append] at e4
      obtain ⟨e5, e6⟩ := List.cons.inj e4
      have h1 := a2 hsk
      have h2 := b2 hsk
      have h3 := congrArg valB e5
      rw [dec_val (Nat.lt_of_le_of_lt (show os.toNat ≤ 1073741824 by omega) (by decide)), dec_val (Nat.lt_of_le_of_lt (show ps.toNat ≤ 1073741824 by omega) (by decide))] at h3
      exact ⟨by omega, e6⟩
  obtain ⟨hs1, e5⟩ := hs
  have hd : od = pd ∧ quoteB oa :: (if pairK ok = true then [quoteB ob] else []) = quoteB pa :: (if pairK ok = true then [quoteB pb] else []) := by
    by_cases h4 : ok = 4
    · rw [if_pos h4, if_pos h4, List.singleton_append, List.singleton_append] at e5
      obtain ⟨e6, e7⟩ := List.cons.inj e5
      exact ⟨quoteB_inj e6, e7⟩
    · rw [if_neg h4, if_neg h4] at e5
      exact ⟨by rw [a4 h4, b4 h4], by simpa using e5⟩
  obtain ⟨hd1, e6⟩ := hd
  obtain ⟨e7, e8⟩ := List.cons.inj e6
  have hb : ob = pb := by
    cases hpk : pairK ok
    · rw [a3 hpk, b3 hpk]
    · rw [hpk, if_pos rfl, if_pos rfl] at e8
      exact quoteB_inj (List.cons.inj e8).1
  rw [hs1, hd1, quoteB_inj e7, hb]
end Go.Proofs.YtolbhjjcabiabaaGreatDoor

/- Lines, read: the first kind whose operation may be and has that line; it is the only one. No program's function. -/
set_option linter.unusedVariables false
set_option linter.unusedSimpArgs false
namespace Go.Proofs.YtolbhjjcabiabaaGreatDoor

def unqB (x : List UInt8) : List UInt8 := (unquoteB x).getD []
theorem unq_quote (x : List UInt8) : unqB (quoteB x) = x := by unfold unqB; rw [unquoteB_quote]; rfl
/-- Where an operation's first path stands among its words. -/
def firstW (k : Int) : Nat := if slotK k = true ∨ k = 4 then 2 else 1
/-- The operation of that kind that these words would be. -/
def candO (l : List (List UInt8)) (k : Int) : OpV :=
  ⟨k, if slotK k = true then numB20 (l.getD 1 []) else 0, if firstW k < l.length then unqB (l.getD (firstW k) []) else [], if firstW k + 1 < l.length then unqB (l.getD (firstW k + 1) []) else [], if k = 4 then unqB (l.getD 1 []) else []⟩
def tryO (s : List UInt8) (l : List (List UInt8)) (k : Int) : Option OpV := if (mayO (candO l k) && decide (lineO (candO l k) = s)) = true then some (candO l k) else none
def kindsO : List Int := [1, 2, 3, 4, 5, 6, 7, 8, 9, 10]
def readO (s : List UInt8) : Option OpV :=
  match splitB s with
  | none => none
  | some l => if l.length < 2 ∨ 4 < l.length then none else kindsO.findSome? (tryO s l)
theorem try_some {s : List UInt8} {l : List (List UInt8)} {k : Int} {o : OpV} (h : tryO s l k = some o) : mayO o = true ∧ lineO o = s := by
  unfold tryO at h
  split at h
  · rename_i h1
    cases h
    simpa using h1
  · cases h
theorem lineW_len {o : OpV} (h : 1 ≤ o.kind ∧ o.kind ≤ 10) : 2 ≤ (lineW o).length ∧ (lineW o).length ≤ 4 := by
  obtain ⟨k, s, a, b, d⟩ := o
  dsimp only at h
  rcases word_cases h.1 h.2 with rfl | rfl | rfl | rfl | rfl | rfl | rfl | rfl | rfl | rfl <;> simp [lineW, slotK, pairK]
theorem cand_line {o : OpV} (h : mayO o = true) : candO (lineW o) o.kind = o := by
  have hk := may_kind h
  obtain ⟨a1, a2, a3, a4⟩ := may_none h
  obtain ⟨k, s, a, b, d⟩ := o
  dsimp only at hk a1 a2 a3 a4 ⊢
  clear h
  rcases word_cases hk.1 hk.2 with rfl | rfl | rfl | rfl | rfl | rfl | rfl | rfl | rfl | rfl
  all_goals simp [slotK, pairK] at a1 a2 a3 a4
  all_goals try (obtain ⟨h2, h3⟩ := a2)
  all_goals try (have hn := num_dec (n := s.toNat) (by omega))
  all_goals try (rw [show ((s.toNat : Nat) : Int) = s by omega] at hn)
  all_goals simp [candO, lineW, firstW, slotK, pairK, unq_quote, *]
theorem read_iff (s : List UInt8) (o : OpV) : readO s = some o ↔ mayO o = true ∧ lineO o = s := by
  constructor
  · intro h
    unfold readO at h
    split at h
    · cases h
    · split at h
      · cases h
      · obtain ⟨k, _, hk⟩ := List.exists_of_findSome?_eq_some h
        exact try_some hk
  · rintro ⟨hm, rfl⟩
    have hk := may_kind hm
    have hl := lineW_len hk
    unfold readO
    rw [line_split hm]
    dsimp only
    rw [if_neg (by omega)]
    have ht : tryO (lineO o) (lineW o) o.kind = some o := by
      unfold tryO
      rw [cand_line hm, hm]
      simp
    have hmem : o.kind ∈ kindsO := by
      rcases word_cases hk.1 hk.2 with h | h | h | h | h | h | h | h | h | h <;> rw [h] <;> decide
    cases hf : kindsO.findSome? (tryO (lineO o) (lineW o)) with
    | none =>
      have := List.findSome?_eq_none_iff.1 hf _ hmem
      rw [ht] at this; cases this
    | some p =>
      obtain ⟨k, _, hp⟩ := List.exists_of_findSome?_eq_some hf
      obtain ⟨h1, h2⟩ := try_some hp
      rw [line_inj h1 hm h2]
theorem read_none {s : List UInt8} (h : ∀ o, mayO o = true → lineO o ≠ s) : readO s = none := by
  cases hr : readO s with
  | none => rfl
  | some o =>
    obtain ⟨h1, h2⟩ := (read_iff s o).1 hr
    exact absurd h2 (h o h1)

/-! ### Texts -/
def planW : List UInt8 := [112, 108, 97, 110, 32]
def headO (n : Nat) : List UInt8 := planW ++ decB n
def linesO (l : List OpV) : List UInt8 := l.flatMap (fun o => lineO o ++ [10])
def textO (l : List OpV) : List UInt8 := headO l.length ++ 10 :: linesO l
def putO (l : List OpV) : List UInt8 × Int := if (planO l || undoO l) = true then (textO l, 0) else ([], 12)
/-- A text, cut behind its first line. -/
def cutO : List UInt8 → Option (List UInt8 × List UInt8)
  | [] => none
  | c :: t => if c = 10 then some ([], t) else (cutO t).map (fun p => (c :: p.1, p.2))
theorem cut_some {r a b : List UInt8} (h : cutO r = some (a, b)) : r = a ++ 10 :: b ∧ (10 : UInt8) ∉ a := by
  induction r generalizing a b with
  | nil => cases h
  | cons c t ih =>
    unfold cutO at h
    split at h
    · rename_i hc
      cases h
      exact ⟨by rw [hc]; rfl, fun h => nomatch h⟩
    · rename_i hc
      cases ht : cutO t with
      | none => rw [ht] at h; cases h
      | some p =>
        rw [ht] at h
        simp only [Option.map_some, Option.some.injEq, Prod.mk.injEq] at h
        obtain ⟨rfl, rfl⟩ := h
        obtain ⟨h1, h2⟩ := ih (a := p.1) (b := p.2) ht
        refine ⟨by rw [h1]; rfl, fun hm => ?_⟩
        rcases List.mem_cons.1 hm with e | hm
        · exact hc e.symm
        · exact h2 hm
theorem cut_at20 {a : List UInt8} (b : List UInt8) (h : (10 : UInt8) ∉ a) : cutO (a ++ 10 :: b) = some (a, b) := by
  induction a with
  | nil => rfl
  | cons c t ih =>
    have hc : ¬ c = 10 := fun e => h (by rw [e]; simp)
    show (if c = 10 then _ else _) = _
    rw [if_neg hc]
    show Option.map _ (cutO (t ++ 10 :: b)) = _
    rw [ih (fun hm => h (List.mem_cons_of_mem _ hm))]
    rfl
theorem cut_none {a : List UInt8} (h : (10 : UInt8) ∉ a) : cutO a = none := by
  induction a with
  | nil => rfl
  | cons c t ih =>
    have hc : ¬ c = 10 := fun e => h (by rw [e]; simp)
    unfold cutO
    rw [if_neg hc, ih (fun hm => h (List.mem_cons_of_mem _ hm))]
    rfl
end Go.Proofs.YtolbhjjcabiabaaGreatDoor

/- Texts, read: a plan of its text; a text that is read is the one of its plan. No program's function. -/
set_option linter.unusedVariables false
set_option linter.unusedSimpArgs false
namespace Go.Proofs.YtolbhjjcabiabaaGreatDoor

def eitherO (l : List OpV) : Bool := planO l || undoO l
def getR : Nat → List UInt8 → Nat → Int → List OpV → List OpV × Int × Int
  | 0, _, p, _, _ => ([], (p : Int), 12)
  | f + 1, r, p, want, l =>
    if 0 ≤ want ∧ (l.length : Int) = want then (if r = [] then (l, 0, 0) else ([], (p : Int), 12))
    else match cutO r with
      | none => ([], (p : Int), 12)
      | some (line, rest) =>
        if want < 0 then
          if line.length < 6 ∨ line.take 5 ≠ planW ∨ numB20 (line.drop 5) < 0 then ([], (p : Int), 12) else getR f rest (p + line.length + 1) (numB20 (line.drop 5)) []
        else match readO line with
          | none => ([], (p : Int), 12)
          | some o => if eitherO (l ++ [o]) = true then getR f rest (p + line.length + 1) want (l ++ [o]) else ([], (p : Int), 12)
def getO (s : List UInt8) : List OpV × Int × Int := getR (s.length + 2) s 0 (-1) []
theorem either_take {l : List OpV} (h : eitherO l = true) (n : Nat) : eitherO (l.take n) = true := by
  unfold eitherO at h ⊢
  rw [Bool.or_eq_true] at h ⊢
  rcases h with h | h
  · exact .inl (plan_take h n).1
  · exact .inr (undo_take h n).1
theorem either_left {a b : List OpV} (h : eitherO (a ++ b) = true) : eitherO a = true := by
  have := either_take h a.length
  rwa [List.take_left] at this
theorem either_may {l : List OpV} (h : eitherO l = true) : ∀ o ∈ l, mayO o = true := by
  unfold eitherO planO undoO at h
  rw [Bool.or_eq_true] at h
  rcases h with h | h
  · revert h
    generalize (0 : Int) = z
    induction l generalizing z with
    | nil => intro _ o ho; cases ho
    | cons x t ih =>
      intro h o ho
      simp only [planB, Bool.and_eq_true] at h
      rcases List.mem_cons.1 ho with rfl | ho
      · exact h.1.1
      · have h2 := h.2
        split at h2
        · exact ih _ (Bool.and_eq_true _ _ ▸ h2).2 o ho
        · exact ih _ h2 o ho
  · revert h
    generalize (2147483648 : Int) = z
    induction l generalizing z with
    | nil => intro _ o ho; cases ho
    | cons x t ih =>
      intro h o ho
      simp only [undoB, Bool.and_eq_true] at h
      rcases List.mem_cons.1 ho with rfl | ho
      · exact h.1.1
      · have h2 := h.2
        split at h2
        · exact ih _ (Bool.and_eq_true _ _ ▸ h2).2 o ho
        · exact ih _ h2 o ho

/-! ### No line holds an end -/
theorem quote_no10 (x : List UInt8) : (10 : UInt8) ∉ quoteB x := fun h => by
  have := quoteB_sign x 10 h
  revert this; decide
theorem dec_no10 (n : Nat) : (10 : UInt8) ∉ decB n := fun h => by
  have := decF_dig 20 n 10 h
  revert this; decide
theorem join_no10 : ∀ {P : List (List UInt8)}, (∀ x ∈ P, (10 : UInt8) ∉ x) → (10 : UInt8) ∉ joinQ P
  | [], _ => fun h => nomatch h
  | [x], h => h x (by simp)
  | x :: y :: t, h => by
    intro hm
    rw [joinQ] at hm
    rcases List.mem_append.1 hm with hm | hm
    · exact h x (by simp) hm
    · rcases List.mem_cons.1 hm with e | hm
      · exact absurd e (by decide)
      · exact join_no10 (fun z hz => h z (List.mem_cons_of_mem _ hz)) hm
theorem word_no10 {k : Int} (h1 : 1 ≤ k) (h2 : k ≤ 10) : (10 : UInt8) ∉ wordK k := by
  rcases word_cases h1 h2 with rfl | rfl | rfl | rfl | rfl | rfl | rfl | rfl | rfl | rfl <;> decide
theorem line_no10 {o : OpV} (h : mayO o = true) : (10 : UInt8) ∉ lineO o := by
  have hk := may_kind h
  unfold lineO
  rw [if_pos hk]
  refine join_no10 fun x hx => ?_
  unfold lineW at hx
  rcases List.mem_cons.1 hx with rfl | hx
  · exact word_no10 hk.1 hk.2
  rcases List.mem_append.1 hx with hx | hx
  · split at hx
    · rw [List.mem_singleton.1 hx]; exact dec_no10 _
    · cases hx
  rcases List.mem_append.1 hx with hx | hx
  · split at hx
    · rw [List.mem_singleton.1 hx]; exact quote_no10 _
    · cases hx
  rcases List.mem_cons.1 hx with rfl | hx
  · exact quote_no10 _
  · split at hx
    · rw [List.mem_singleton.1 hx]; exact quote_no10 _
    · cases hx
theorem head_no10 (n : Nat) : (10 : UInt8) ∉ headO n := by
  unfold headO
  rw [List.mem_append]
  rintro (h | h)
  · revert h; decide
  · exact dec_no10 n h
theorem lines_cons (o : OpV) (t : List OpV) (m : List UInt8) : linesO (o :: t) ++ m = lineO o ++ 10 :: (linesO t ++ m) := by
  unfold linesO
  rw [List.flatMap_cons]; simp

/-! ### A plan's text is read -/
theorem get_lines (m : List UInt8) (b : List OpV) : ∀ (a : List OpV) (f p : Nat), eitherO (a ++ b) = true → b.length + 1 ≤ f →
    getR f (linesO b ++ m) p ((a ++ b).length : Nat) a = if m = [] then (a ++ b, 0, 0) else ([], ((p + (linesO b).length : Nat) : Int), 12) := by
  induction b with
  | nil =>
    intro a f p _ hf
    cases f with
    | zero => simp at hf
    | succ f =>
      rw [getR, if_pos ⟨by omega, by simp⟩]
      simp [linesO]
  | cons o t ih =>
    intro a f p he hf
    cases f with
    | zero => simp at hf
    | succ f =>
      have hm := either_may he o (by simp)
      have h1 : eitherO (a ++ [o]) = true := by
        have : a ++ o :: t = (a ++ [o]) ++ t := by simp
        rw [this] at he
        exact either_left he
      rw [getR, if_neg (by rw [List.length_append, List.length_cons]; omega), lines_cons, cut_at20 _ (line_no10 hm)]
      dsimp only
      rw [if_neg (by omega), (read_iff _ _).2 ⟨hm, rfl⟩]
      dsimp only
      rw [if_pos h1]
      have := ih (a ++ [o]) f (p + (lineO o).length + 1) (by simpa using he) (by simp at hf; omega)
      rw [show a ++ [o] ++ t = a ++ o :: t by simp] at this
      rw [this]
      have hl : (linesO (o :: t)).length = (lineO o).length + 1 + (linesO t).length := by simp [linesO]; omega
      rw [hl]
      by_cases hz : m = []
      · rw [if_pos hz, if_pos hz]
      · rw [if_neg hz, if_neg hz]
        congr 2
        omega
theorem lines_len (l : List OpV) : l.length ≤ (linesO l).length := by
  induction l with
  | nil => exact Nat.le_refl _
  | cons o t ih =>
    have hl : (linesO (o :: t)).length = (lineO o).length + 1 + (linesO t).length := by simp [linesO]; omega
    rw [hl, List.length_cons]; omega
theorem dec_len1 (n : Nat) : 1 ≤ (decB n).length := decF_pos 19 n
theorem get_more {l : List OpV} (m : List UInt8) (h : eitherO l = true) (hl : l.length ≤ 1073741824) : getO (textO l ++ m) = if m = [] then (l, 0, 0) else ([], (((textO l).length : Nat) : Int), 12) := by
  unfold getO
  have hd := dec_len1 l.length
  have hh : (headO l.length).length = 5 + (decB l.length).length := by simp [headO, planW]; omega
  have e : textO l ++ m = headO l.length ++ 10 :: (linesO l ++ m) := by simp [textO]
  rw [e, show (headO l.length ++ 10 :: (linesO l ++ m)).length + 2 = ((headO l.length ++ 10 :: (linesO l ++ m)).length + 1) + 1 by omega, getR, if_neg (by omega), cut_at20 _ (head_no10 _)]
  dsimp only
  have h5 : (headO l.length).take 5 = planW := by simp [headO, planW]
  have h6 : (headO l.length).drop 5 = decB l.length := by simp [headO, planW]
  rw [if_pos (by omega), h5, h6, num_dec hl, if_neg (by rintro (c | c | c) <;> first | omega | exact c rfl)]
  have := get_lines m l [] ((headO l.length ++ 10 :: (linesO l ++ m)).length + 1) (0 + (headO l.length).length + 1) h (by have := lines_len l; simp; omega)
  rw [List.nil_append] at this
  rw [this]
  by_cases hz : m = []
  · rw [if_pos hz, if_pos hz]
  · rw [if_neg hz, if_neg hz]
    have ht : (textO l).length = (headO l.length).length + 1 + (linesO l).length := by simp [textO]; omega
    rw [ht]
    congr 2
    omega
theorem get_put {l : List OpV} (h : eitherO l = true) (hl : l.length ≤ 1073741824) : getO (textO l) = (l, 0, 0) := by
  have := get_more [] h hl
  rwa [List.append_nil, if_pos rfl] at this

/-! ### What is read is the text of what was read -/
theorem get_rest (f : Nat) : ∀ (r : List UInt8) (p : Nat) (want : Int) (a l : List OpV), 0 ≤ want → eitherO a = true → getR f r p want a = (l, 0, 0) → ∃ b, r = linesO b ∧ l = a ++ b ∧ (l.length : Int) = want ∧ eitherO l = true := by
  induction f with
  | zero => intro r p want a l _ _ h; simp [getR] at h
  | succ f ih =>
    intro r p want a l hw ha h
    rw [getR] at h
    split at h
    · rename_i h1
      split at h
      · rename_i h2
        simp only [Prod.mk.injEq, and_true] at h
        subst h
        exact ⟨[], by rw [h2]; rfl, by simp, h1.2, ha⟩
      · simp at h
    · cases hc : cutO r with
      | none => rw [hc] at h; simp at h
      | some q =>
        obtain ⟨line, rest⟩ := q
        rw [hc] at h
        dsimp only at h
        rw [if_neg (by omega)] at h
        obtain ⟨e1, _⟩ := cut_some hc
        cases hr : readO line with
        | none => rw [hr] at h; simp at h
        | some o =>
          rw [hr] at h
          dsimp only at h
          split at h
          · rename_i h3
            obtain ⟨b, b1, b2, b3, b4⟩ := ih _ _ _ _ _ hw h3 h
            obtain ⟨_, r2⟩ := (read_iff _ _).1 hr
            refine ⟨o :: b, ?_, by rw [b2]; simp, b3, b4⟩
            have := lines_cons o b []
            rw [List.append_nil, List.append_nil] at this
            rw [this, r2, e1, b1]
          · simp at h
theorem get_text {s : List UInt8} {l : List OpV} (h : getO s = (l, 0, 0)) : s = textO l ∧ eitherO l = true ∧ l.length ≤ 1073741824 := by
  unfold getO at h
  rw [show s.length + 2 = (s.length + 1) + 1 by omega, getR, if_neg (by omega)] at h
  cases hc : cutO s with
  | none => rw [hc] at h; simp at h
  | some q =>
    obtain ⟨line, rest⟩ := q
    rw [hc] at h
    dsimp only at h
    rw [if_pos (by omega)] at h
    split at h
    · simp at h
    · rename_i h1
      have h2 : 6 ≤ line.length ∧ line.take 5 = planW ∧ 0 ≤ numB20 (line.drop 5) := by
        refine ⟨?_, ?_, ?_⟩
        · exact Nat.le_of_not_lt fun c => h1 (.inl (by omega))
        · exact Decidable.byContradiction fun c => h1 (.inr (.inl c))
        · exact Int.not_lt.1 fun c => h1 (.inr (.inr c))
      obtain ⟨b, b1, b2, b3, b4⟩ := get_rest _ _ _ _ _ _ h2.2.2 rfl h
      rw [List.nil_append] at b2
      subst b2
      obtain ⟨e1, _⟩ := cut_some hc
      obtain ⟨n1, n2⟩ := num_ok h2.2.2
      refine ⟨?_, b4, by omega⟩
      have hn : (numB20 (line.drop 5)).toNat = l.length := by omega
      rw [hn] at n1
      have hl : line = headO l.length := by
        have := (List.take_append_drop 5 line).symm
        rw [h2.2.1, ← n1] at this
        exact this
      rw [e1, hl, b1]
      rfl
/-- What isn't read is told with where it stops. -/
theorem get_fault (f : Nat) : ∀ (r : List UInt8) (p : Nat) (want : Int) (a : List OpV), (∃ l, getR f r p want a = (l, 0, 0)) ∨ ∃ q : Nat, getR f r p want a = ([], (q : Int), 12) ∧ q ≤ p + r.length := by
  induction f with
  | zero => intro r p want a; exact .inr ⟨p, rfl, by omega⟩
  | succ f ih =>
    intro r p want a
    rw [getR]
    split
    · split
      · exact .inl ⟨a, rfl⟩
      · exact .inr ⟨p, rfl, by omega⟩
    · cases hc : cutO r with
      | none => exact .inr ⟨p, rfl, by omega⟩
      | some q =>
        obtain ⟨line, rest⟩ := q
        obtain ⟨e1, _⟩ := cut_some hc
        have hl : r.length = line.length + 1 + rest.length := by rw [e1]; simp; omega
        dsimp only
        split
        · split
          · exact .inr ⟨p, rfl, by omega⟩
          · rcases ih rest (p + line.length + 1) (numB20 (line.drop 5)) [] with h | ⟨q, h, hq⟩
            · exact .inl h
            · exact .inr ⟨q, h, by omega⟩
        · cases hr : readO line with
          | none => exact .inr ⟨p, rfl, by omega⟩
          | some o =>
            dsimp only
            split
            · rcases ih rest (p + line.length + 1) want (a ++ [o]) with h | ⟨q, h, hq⟩
              · exact .inl h
              · exact .inr ⟨q, h, by omega⟩
            · exact .inr ⟨p, rfl, by omega⟩
theorem get_two (s : List UInt8) : (∃ l, getO s = (l, 0, 0)) ∨ ∃ q : Nat, getO s = ([], (q : Int), 12) ∧ q ≤ s.length := by
  have := get_fault (s.length + 2) s 0 (-1) []
  rw [Nat.zero_add] at this
  exact this
/-- A text that is cut off isn't read. -/
theorem get_cut {l : List OpV} (h : eitherO l = true) (hl : l.length ≤ 1073741824) {n : Nat} (hn : n < (textO l).length) : ∃ q : Nat, getO ((textO l).take n) = ([], (q : Int), 12) ∧ q ≤ n := by
  rcases get_two ((textO l).take n) with ⟨b, hb⟩ | ⟨q, hq, hle⟩
  · obtain ⟨e1, e2, e3⟩ := get_text hb
    have h1 := get_more ((textO l).drop n) e2 e3
    rw [← e1, List.take_append_drop, get_put h hl] at h1
    rw [if_neg (fun c => by have := congrArg List.length c; rw [List.length_drop] at this; simp at this; omega)] at h1
    simp at h1
  · exact ⟨q, hq, by rw [List.length_take] at hle; omega⟩
theorem text_inj {l m : List OpV} (h : eitherO l = true) (hl : l.length ≤ 1073741824) (h2 : eitherO m = true) (hm : m.length ≤ 1073741824) (e : textO l = textO m) : l = m := by
  have h1 := get_put h hl
  rw [e, get_put h2 hm] at h1
  exact (Prod.mk.inj h1).1.symm
end Go.Proofs.YtolbhjjcabiabaaGreatDoor

/- Numbers as the program reads them: what Atoi tells, and Itoa tells again. No program's function. -/
set_option linter.unusedVariables false
set_option linter.unusedSimpArgs false
namespace Go.Proofs.YtolbhjjcabiabaaGreatDoor

theorem decF_digits (f : Nat) : ∀ n, n < 10 ^ f → 1 ≤ f → decF f n = Lib.decDigits n := by
  induction f with
  | zero => intro n _ h; omega
  | succ f ih =>
    intro n h _
    rw [Lib.decDigits]
    unfold decF
    by_cases h10 : n < 10
    · rw [if_pos h10, dif_pos h10]
    · rw [if_neg h10, dif_neg h10, ih (n / 10) (by rw [Nat.pow_succ] at h; omega)]
      cases f with
      | zero => simp at h; omega
      | succ f => omega
theorem dec_lib {n : Nat} (h : n < 10 ^ 20) : Lib.decDigits n = decB n := (decF_digits 20 n h (by decide)).symm
theorem itoa_dec {n : Nat} (h : n < 9223372036854775808) : Lib.itoa (n : Int) = decB n := by
  unfold Lib.itoa
  rw [if_neg (by omega), Int.toNat_natCast, dec_lib (Nat.lt_of_lt_of_le h (by decide))]
theorem fold_ge (l : List UInt8) : ∀ acc : Nat, acc ≤ l.foldl (fun n c => 10 * n + (c.toNat - 48)) acc := by
  induction l with
  | nil => intro acc; exact Nat.le_refl _
  | cons c r ih => intro acc; exact Nat.le_trans (by omega) (ih (10 * acc + (c.toNat - 48)))
theorem parse_dig (l : List UInt8) : ∀ acc : Nat, (∀ c ∈ l, digB c = true) → l.foldl (fun n c => 10 * n + (c.toNat - 48)) acc < 9223372036854775808 → Lib.parseUint10 acc l = .ok (l.foldl (fun n c => 10 * n + (c.toNat - 48)) acc) := by
  induction l with
  | nil => intro acc _ _; rfl
  | cons c r ih =>
    intro acc hd hv
    have hc := hd c (by simp)
    unfold digB at hc
    simp only [Bool.and_eq_true, decide_eq_true_eq] at hc
    have hg := fold_ge r (10 * acc + (c.toNat - 48))
    rw [List.foldl_cons] at hv ⊢
    have hlt := Nat.lt_of_le_of_lt hg hv
    rw [Lib.parseUint10, if_pos hc, if_neg (by omega), if_neg (by omega), show acc * 10 + (c.toNat - 48) = 10 * acc + (c.toNat - 48) by omega]
    exact ih _ (fun x hx => hd x (List.mem_cons_of_mem _ hx)) hv
theorem atoi_dec {n : Nat} (h : n < 9223372036854775808) : Lib.atoiAll (decB n) = .ok (n : Int) := by
  have hv : valB (decB n) = n := dec_val (Nat.lt_of_lt_of_le h (by decide))
  have hd : ∀ c ∈ decB n, digB c = true := decF_dig 20 n
  have hp := parse_dig (decB n) 0 hd (by unfold valB at hv; rw [hv]; exact h)
  unfold valB at hv
  rw [hv] at hp
  have hl := dec_len1 n
  cases hx : decB n with
  | nil => rw [hx] at hl; simp at hl
  | cons c r =>
    rw [hx] at hp hd
    have hc := hd c (by simp)
    unfold digB at hc
    simp only [Bool.and_eq_true, decide_eq_true_eq] at hc
    rw [Lib.atoiAll_plain c r (by omega) (by omega), Lib.parseMag, if_neg (List.cons_ne_nil c r), hp]
    show (if 9223372036854775808 ≤ n then _ else _) = _
    rw [if_neg (by omega)]
/-- The number that a word is, as the program reads it. -/
def numP (x : List UInt8) : Option Nat :=
  match Lib.atoiAll x with
  | .ok v => if 0 ≤ v ∧ decB v.toNat = x then some v.toNat else none
  | _ => none
theorem numP_iff (x : List UInt8) (n : Nat) : numP x = some n ↔ n < 9223372036854775808 ∧ decB n = x := by
  constructor
  · intro h
    unfold numP at h
    cases ha : Lib.atoiAll x with
    | ok v =>
      rw [ha] at h
      dsimp only at h
      split at h
      · rename_i h2
        have hb := Lib.atoiAll_bounds ha
        cases h
        exact ⟨by omega, h2.2⟩
      · cases h
    | «syntax» => rw [ha] at h; cases h
    | range => rw [ha] at h; cases h
  · rintro ⟨h, rfl⟩
    unfold numP
    rw [atoi_dec h]
    dsimp only
    rw [if_pos ⟨by omega, by rw [Int.toNat_natCast]⟩, Int.toNat_natCast]
theorem num_p {x : List UInt8} {n : Nat} (h : numP x = some n) (hn : n ≤ 1073741824) : numB20 x = n := by
  obtain ⟨_, rfl⟩ := (numP_iff x n).1 h
  exact num_dec hn
theorem num_p_not {x : List UInt8} (h : ∀ n, numP x = some n → 1073741824 < n) : numB20 x < 0 := by
  rcases Int.lt_or_le (numB20 x) 0 with c | c
  · exact c
  · obtain ⟨h1, h2⟩ := num_ok c
    have := h (numB20 x).toNat ((numP_iff _ _).2 ⟨by omega, h1⟩)
    omega
theorem num_p_of {x : List UInt8} (h : 0 ≤ numB20 x) : numP x = some (numB20 x).toNat ∧ numB20 x ≤ 1073741824 := by
  obtain ⟨h1, h2⟩ := num_ok h
  exact ⟨(numP_iff _ _).2 ⟨by omega, h1⟩, h2⟩
end Go.Proofs.YtolbhjjcabiabaaGreatDoor
