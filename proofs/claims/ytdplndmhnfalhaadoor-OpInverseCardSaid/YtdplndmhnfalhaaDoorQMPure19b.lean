/- Texts put together: WalkD03, Builder, WalkE03, Pure19b. -/
import Derived.Test.YtdplndmhnfalhaaDoorQMWalkB03
import Derived.Test.YtdplndmhnfalhaaDoorChecked
import Derived.Shelf.Strings.Builder1
import Derived.Lib.Builder
import Derived.Lib.AppendStr
import Derived.RangeFuncRecord
import Derived.Deep.LoopGhost
import Derived.Lib.SlicesCompact
set_option linter.unusedVariables false
set_option linter.unusedSimpArgs false
/- Walks: Read. -/
set_option linter.unusedVariables false
set_option linter.unusedSimpArgs false
namespace Go.Proofs.YtdplndmhnfalhaaDoor
open Go.RowKit Go.Shelf
attribute [local go_sem] Oper.semAt_some

theorem Tryd.infoS : (Tryd.prog.info? 9).map (fun i => (i.zero, i.size, i.bytes)) = some (some (.string ByteArray.empty), 1, 16) := by kernel_rfl
abbrev pathV (a : Bool) (v : Value) (s : Bool) : Array Value := #[.bool a, v, .bool s]

theorem endB_suffix (l : List UInt8) : Lib.hasSuffix l [47] = endB l := by
  unfold Lib.hasSuffix endB
  rw [Bool.eq_iff_iff, List.isSuffixOf_iff_suffix, beq_iff_eq]
  constructor
  · rintro ⟨r, rfl⟩; simp
  · intro h
    obtain ⟨ys, rfl⟩ := List.getLast?_eq_some_iff.1 h
    exact ⟨ys, rfl⟩
/-- The stores at the end: the field, then the whole result. -/
theorem four_set {W : World} {n D : Nat} {t e : TypeId} {cs : Array Value} {a s : Bool} {v : Value} {k : Nat} {xs : List Value} (hv : Blk W (n + 1) t cs) (hr : Blk W n t (pathV false (.slice none 0 0) false))
    (hrow : W.ownsRow n e 1 v k xs) (hte : t ≠ e) (hK : W.heap[D]? = some (.deferred (some []))) :
    ∃ W', W' = (((W.setCell ⟨n + 1, 2, none⟩ (.bool s)).setCell ⟨n, 0, none⟩ (.bool a)).setCell ⟨n, 1, none⟩ v).setCell ⟨n, 2, none⟩ (.bool s) ∧
      W'.heap[D]? = some (.deferred (some [])) ∧ Blk W' n t (pathV a v s) ∧ W'.ownsRow n e 1 v k xs ∧ Below n W W' := by
  refine ⟨_, rfl, ?_, ?_, ?_, ?_⟩
  · exact ((((KeepsOthers.setCell W _ _).trans (KeepsOthers.setCell _ _ _)).trans (KeepsOthers.setCell _ _ _)).trans (KeepsOthers.setCell _ _ _)).same D _ hK rfl
  · simpa [pathV] using (((hr.other (B2 := n + 1) (i := 2) (by omega) (.bool s)).set 0 (.bool a)).set 1 v).set 2 (.bool s)
  · have r1 := hrow.kept (grownBy_set W (n + 1) 2 (.bool s)) (.inr (hv.not_row hte hrow).symm)
    have q1 := hr.other (B2 := n + 1) (i := 2) (by omega) (.bool s)
    have r2 := r1.kept (grownBy_set _ n 0 (.bool a)) (.inr (q1.not_row hte r1).symm)
    have q2 := q1.set 0 (.bool a)
    have r3 := r2.kept (grownBy_set _ n 1 v) (.inr (q2.not_row hte r2).symm)
    have q3 := q2.set 1 v
    exact r3.kept (grownBy_set _ n 2 (.bool s)) (.inr (q3.not_row hte r3).symm)
  · exact ((((Below.refl n W).setCell (p := ⟨n + 1, 2, none⟩) (by simp) _).setCell (p := ⟨n, 0, none⟩) (Nat.le_refl _) _).setCell (p := ⟨n, 1, none⟩) (Nat.le_refl _) _).setCell (p := ⟨n, 2, none⟩) (Nat.le_refl _) _
theorem Blk.putObj {W : World} {B D : Nat} {t : TypeId} {cs : Array Value} (h : Blk W B t cs) {o : Obj} (o' : Obj) (hD : W.heap[D]? = some o) (ho : o.isCells = false) : Blk (W.putObj D o') B t cs :=
  h.kept (grownBy_putObj' W D o') (fun e => by
    obtain rfl : B = D := by simpa using e
    rw [show W.heap[B]? = _ from h] at hD; cases hD; cases ho)
set_option maxRecDepth 100000 in
set_option maxHeartbeats 4000000 in
theorem Read_any (p : List UInt8) (hp : p.length ≤ 1000000) (w : World) :
    Calls Tryd.prog 46 #[.string ⟨p.toArray⟩] w fun e w' => ∃ v, e = .returned (.agg (pathV (absB p) v (slashB p))) ∧ w'.ownsRow w.heap.size 9 1 v (namesB p).length (strsV (namesB p)) ∧ Below w.heap.size w w' := by
  obtain ⟨is, hsi, hs0, hs1, hs2⟩ := info_parts Tryd.infoS
  refine (callsIn_wide (n := 3)).1 ?_
  (refine callsIn_of_wp_marks Tryd.func46 rfl trivial ?_ rfl; simp only [Tryd.ntmps46, List.size_toArray, List.length_cons, List.length_nil, Nat.reduceAdd, Nat.reduceSub, Array.replicate_succ, Array.replicate_zero, List.push_toArray, List.append_toArray, List.nil_append, List.cons_append])
  gi_wp2_with fail
  refine ⟨trivial, ?_⟩
  gi_at_call 55
  refine (callsIn_wide.2 (absolute_any p _)).mono ?_
  rintro e w' ⟨rfl, rfl⟩
  gi_wp2_with fail
  refine ⟨trivial, ?_⟩
  gi_at_call 56
  refine (namesOf_in p _).mono ?_
  rintro e w' ⟨rfl, rfl⟩
  gi_wp2
  have b0 := Blk.new w 52 (pathV false (.slice none 0 0) false)
  have b1 := Blk.new (w.alloc (.cells (pathV false (.slice none 0 0) false) 52)) 52 (pathV (absB p) (.slice none 0 0) false)
  have b2 := Blk.new ((w.alloc (.cells (pathV false (.slice none 0 0) false) 52)).alloc (.cells (pathV (absB p) (.slice none 0 0) false) 52)) 9 #[.string ⟨p.toArray⟩]
  simp only [World.size_alloc] at b1 b2
  have hB0 : Below w.heap.size w (((w.alloc (.cells (pathV false (.slice none 0 0) false) 52)).alloc (.cells (pathV (absB p) (.slice none 0 0) false) 52)).alloc (.cells #[.string ⟨p.toArray⟩] 9)) := (((Below.refl _ w).alloc (Nat.le_refl _) _).alloc (by simp) _).alloc (by simp; omega) _
  refine wpIn_rangeFunc_ownG rfl (by omega) (gf := 62) (lb := #[.pointer (some ⟨w.heap.size + 1 + 1, 0, none⟩)]) rfl trivial (enters_of Tryd.func62 (by kernel_rfl) rfl)
    (names_stops (w.heap.size + 1 + 1) p hp _ (by simp) (b2.cell 0)) (fun _ _ => trivial) (fun _ _ _ _ _ _ _ _ => trivial) (Below.refl _ _) (fun _ => rfl)
    (fun pre W => ((∃ v, Blk W (w.heap.size + 1) 52 (pathV (absB p) v false) ∧ W.ownsRow w.heap.size 9 1 v pre.length (strsV (pre.map (·.1)))) ∧ Blk W w.heap.size 52 (pathV false (.slice none 0 0) false)) ∧ Below w.heap.size w W)
    (fun _ _ _ => False)
    (OwnFrom.and (Own.from (fun s A B row hs hg hr => ⟨blkRow_own (β := List Txt) w.heap.size (w.heap.size + 1) 52 9 1 (fun pre => pre.length) (fun pre => strsV (pre.map (·.1))) (fun v => pathV (absB p) v false) s A B row hs.1 hg hr, blk_own (β := Unit) _ _ (fun _ => pathV false (.slice none 0 0) false) () A B row hs.2 hg hr⟩) _) (ownFrom_below (Nat.le_refl _) (by simp; omega)))
    (fun _ _ _ _ _ hs _ _ => hs)
    ⟨⟨⟨_, b1.alloc _, World.ownsRow_nil _ _ _ _⟩, (b0.alloc _).alloc _⟩, hB0⟩
    (fun x => { tmps := #[.string ⟨p.toArray⟩, undef, .pointer (some ⟨w.heap.size, 0, none⟩), .pointer (some ⟨w.heap.size + 1, 0, none⟩), .string ⟨x.1.toArray⟩, .string ⟨p.toArray⟩, .bool (absB p), .agg (pathV (absB p) (.slice none 0 0) false), .string ⟨p.toArray⟩,
      .func (.func 62) #[] #[.pointer (some ⟨w.heap.size + 1 + 1, 0, none⟩)], .string ⟨x.1.toArray⟩, undef, undef, undef, undef, undef, undef, undef, undef, undef, undef, undef, undef, undef, undef, undef, undef, undef], defers := [] }) ?assign ?body ?done ?stop
  case assign =>
    intro l x W K hK
    gi_wp2
    exact hK
  case body =>
    rintro l pre x W ⟨⟨⟨v, hv, hrow⟩, hr0⟩, hB⟩ hlen
    have hmx : Tryd.prog.follows .mixedOrders = true := by kernel_rfl
    gi_wp2
    refine wpIn_region_any hmx ?_
    try (change wpAnyIn _ _ _ _ _ _ _ _ _ (World.drew _))
    have hB1 : Below w.heap.size w W.drew := hB.drew
    have hv1 : Blk W.drew (w.heap.size + 1) 52 (pathV (absB p) v false) := hv
    have hr1 : Blk W.drew w.heap.size 52 (pathV false (.slice none 0 0) false) := hr0
    have hrow1 : W.drew.ownsRow w.heap.size 9 1 v pre.length (strsV (pre.map (·.1))) := hrow
    have hkeep : KeepsOthers W W.drew := KeepsOthers.drew _
    generalize W.drew = Wd at *
    clear hv hrow hr0 hB
    have hc := hv1.cell 1
    simp [pathV] at hc
    -- THE ORDERS
    refine wpAnyIn_ready (rs := [0, 2]) (by kernel_rfl) (by simp) ?_
    refine AllReadyIn.cons rfl (fun K hK => ?_) ?_
    · go_simp
      refine hK _ _ ?_
      clear hK K
      refine wpAnyIn_ready (rs := [1, 2]) (by kernel_rfl) (by simp) ?_
      refine AllReadyIn.cons rfl (fun K hK => ?_) ?_
      · go_simp
        refine hK _ _ ?_
        clear hK K
        refine wpAnyIn_ready (rs := [2]) (by kernel_rfl) (by simp) ?_
        refine AllReadyIn.cons rfl (fun K hK => ?_) ?_
        · go_simp
          refine hK _ _ ?_
          clear hK K
          refine wpAnyIn_ready (rs := [3]) (by kernel_rfl) (by simp) ?_
          refine AllReadyIn.cons rfl (fun K hK => ?_) ?_
          · go_simp
            gi_wp2_with (refine ⟨trivial, ?_⟩; gi_at_call 57; refine (CallsIn.inRound l (callsIn_wide.2 (Clone_any x.1 _ (Nat.le_trans x.2 (by decide))))).mono ?_; rintro e w2 ⟨rfl, hC⟩; have hc2 : w2.cell? ⟨w.heap.size + 1, 1, none⟩ = some v := (hC.cell (p := ⟨w.heap.size + 1, 1, none⟩) hv1.lt).trans hc; have hc4 : ∀ o, (w2.alloc o).cell? ⟨w.heap.size + 1, 1, none⟩ = some v := fun o => ((hv1.next hC).alloc o).cell 1; have hrow2 := own_keep hrow1 hC)
            refine wpAnyIn_ready (rs := [4]) (by kernel_rfl) (by simp) ?_
            refine AllReadyIn.cons rfl (fun K hK => ?_) ?_
            · go_simp
              refine hK _ _ ?_
              clear hK K
              refine wpAnyIn_ready (rs := [5]) (by kernel_rfl) (by simp) ?_
              refine AllReadyIn.cons rfl (fun K hK => ?_) ?_
              · refine stepIn_append_own rfl (.tmp 12) (.tmp 15) 46 9 rfl Tryd.underlying46 hsi hs0 hs1 hs2 rfl (by decide) w.heap.size ⟨w2.heap.size, 0, none⟩ 1 [.string ⟨x.1.toArray⟩] rfl rfl (hrow2.alloc _) rfl (cell_one_new _ _ _) (by simp [Value.oneCell']) (by unfold maxLen; omega) (by omega) (by have := hC.size; have := hB1.size; simp; omega) ?_
                intro v' w1 hown' hgrow
                have hr2 := (((hr1.next hC).alloc _).kept hgrow ((hr1.next hC).not_row (by decide) hrow2)).other (B2 := w.heap.size + 1) (i := 1) (by omega) v'
                obtain ⟨g', cap', rfl⟩ := ownsRow_succ hown'
                obtain ⟨h1, h2, h3, h4, h5⟩ := hv1.appended (i := 1) (by decide) hrow1 hB1.size (by omega) hC hown' hgrow
                have hc3 := h1.cell 1
                have hf3 := h1.frozen 1
                simp [pathV] at hc3
                refine hK _ _ ?_
                clear hK K
                refine wpAnyIn_ready (rs := [6]) (by kernel_rfl) (by simp) ?_
                refine AllReadyIn.cons rfl (fun K hK => ?_) ?_
                · go_simp
                  refine hK _ _ ?_
                  clear hK K
                  refine wpAnyIn_ready (rs := [7]) (by kernel_rfl) (by simp) ?_
                  refine AllReadyIn.cons rfl (fun K hK => ?_) ?_
                  · go_simp
                    refine hK _ _ ?_
                    clear hK K
                    refine wpAnyIn_done (by kernel_rfl) ?_ _
                    exact ⟨(hkeep.trans h4).from _, trivial, ⟨⟨_, by simpa [pathV] using h2, by simpa [strsV] using h3⟩, hr2⟩, hB1.trans h5⟩
                  exact AllReadyIn.nil
                exact AllReadyIn.nil
              exact AllReadyIn.nil
            exact AllReadyIn.nil
          exact AllReadyIn.nil
        exact AllReadyIn.nil
      refine AllReadyIn.cons rfl (fun K hK => ?_) ?_
      · go_simp
        refine hK _ _ ?_
        clear hK K
        refine wpAnyIn_ready (rs := [1, 3]) (by kernel_rfl) (by simp) ?_
        refine AllReadyIn.cons rfl (fun K hK => ?_) ?_
        · go_simp
          refine hK _ _ ?_
          clear hK K
          refine wpAnyIn_ready (rs := [3]) (by kernel_rfl) (by simp) ?_
          refine AllReadyIn.cons rfl (fun K hK => ?_) ?_
          · go_simp
            gi_wp2_with (refine ⟨trivial, ?_⟩; gi_at_call 57; refine (CallsIn.inRound l (callsIn_wide.2 (Clone_any x.1 _ (Nat.le_trans x.2 (by decide))))).mono ?_; rintro e w2 ⟨rfl, hC⟩; have hc2 : w2.cell? ⟨w.heap.size + 1, 1, none⟩ = some v := (hC.cell (p := ⟨w.heap.size + 1, 1, none⟩) hv1.lt).trans hc; have hc4 : ∀ o, (w2.alloc o).cell? ⟨w.heap.size + 1, 1, none⟩ = some v := fun o => ((hv1.next hC).alloc o).cell 1; have hrow2 := own_keep hrow1 hC)
            refine wpAnyIn_ready (rs := [4]) (by kernel_rfl) (by simp) ?_
            refine AllReadyIn.cons rfl (fun K hK => ?_) ?_
            · go_simp
              refine hK _ _ ?_
              clear hK K
              refine wpAnyIn_ready (rs := [5]) (by kernel_rfl) (by simp) ?_
              refine AllReadyIn.cons rfl (fun K hK => ?_) ?_
              · refine stepIn_append_own rfl (.tmp 12) (.tmp 15) 46 9 rfl Tryd.underlying46 hsi hs0 hs1 hs2 rfl (by decide) w.heap.size ⟨w2.heap.size, 0, none⟩ 1 [.string ⟨x.1.toArray⟩] rfl rfl (hrow2.alloc _) rfl (cell_one_new _ _ _) (by simp [Value.oneCell']) (by unfold maxLen; omega) (by omega) (by have := hC.size; have := hB1.size; simp; omega) ?_
                intro v' w1 hown' hgrow
                have hr2 := (((hr1.next hC).alloc _).kept hgrow ((hr1.next hC).not_row (by decide) hrow2)).other (B2 := w.heap.size + 1) (i := 1) (by omega) v'
                obtain ⟨g', cap', rfl⟩ := ownsRow_succ hown'
                obtain ⟨h1, h2, h3, h4, h5⟩ := hv1.appended (i := 1) (by decide) hrow1 hB1.size (by omega) hC hown' hgrow
                have hc3 := h1.cell 1
                have hf3 := h1.frozen 1
                simp [pathV] at hc3
                refine hK _ _ ?_
                clear hK K
                refine wpAnyIn_ready (rs := [6]) (by kernel_rfl) (by simp) ?_
                refine AllReadyIn.cons rfl (fun K hK => ?_) ?_
                · go_simp
                  refine hK _ _ ?_
                  clear hK K
                  refine wpAnyIn_ready (rs := [7]) (by kernel_rfl) (by simp) ?_
                  refine AllReadyIn.cons rfl (fun K hK => ?_) ?_
                  · go_simp
                    refine hK _ _ ?_
                    clear hK K
                    refine wpAnyIn_done (by kernel_rfl) ?_ _
                    exact ⟨(hkeep.trans h4).from _, trivial, ⟨⟨_, by simpa [pathV] using h2, by simpa [strsV] using h3⟩, hr2⟩, hB1.trans h5⟩
                  exact AllReadyIn.nil
                exact AllReadyIn.nil
              exact AllReadyIn.nil
            exact AllReadyIn.nil
          exact AllReadyIn.nil
        refine AllReadyIn.cons rfl (fun K hK => ?_) ?_
        · go_simp
          gi_wp2_with (refine ⟨trivial, ?_⟩; gi_at_call 57; refine (CallsIn.inRound l (callsIn_wide.2 (Clone_any x.1 _ (Nat.le_trans x.2 (by decide))))).mono ?_; rintro e w2 ⟨rfl, hC⟩; have hc2 : w2.cell? ⟨w.heap.size + 1, 1, none⟩ = some v := (hC.cell (p := ⟨w.heap.size + 1, 1, none⟩) hv1.lt).trans hc; have hc4 : ∀ o, (w2.alloc o).cell? ⟨w.heap.size + 1, 1, none⟩ = some v := fun o => ((hv1.next hC).alloc o).cell 1; have hrow2 := own_keep hrow1 hC)
          refine wpAnyIn_ready (rs := [1, 4]) (by kernel_rfl) (by simp) ?_
          refine AllReadyIn.cons rfl (fun K hK => ?_) ?_
          · go_simp
            refine hK _ _ ?_
            clear hK K
            refine wpAnyIn_ready (rs := [4]) (by kernel_rfl) (by simp) ?_
            refine AllReadyIn.cons rfl (fun K hK => ?_) ?_
            · go_simp
              refine hK _ _ ?_
              clear hK K
              refine wpAnyIn_ready (rs := [5]) (by kernel_rfl) (by simp) ?_
              refine AllReadyIn.cons rfl (fun K hK => ?_) ?_
              · refine stepIn_append_own rfl (.tmp 12) (.tmp 15) 46 9 rfl Tryd.underlying46 hsi hs0 hs1 hs2 rfl (by decide) w.heap.size ⟨w2.heap.size, 0, none⟩ 1 [.string ⟨x.1.toArray⟩] rfl rfl (hrow2.alloc _) rfl (cell_one_new _ _ _) (by simp [Value.oneCell']) (by unfold maxLen; omega) (by omega) (by have := hC.size; have := hB1.size; simp; omega) ?_
                intro v' w1 hown' hgrow
                have hr2 := (((hr1.next hC).alloc _).kept hgrow ((hr1.next hC).not_row (by decide) hrow2)).other (B2 := w.heap.size + 1) (i := 1) (by omega) v'
                obtain ⟨g', cap', rfl⟩ := ownsRow_succ hown'
                obtain ⟨h1, h2, h3, h4, h5⟩ := hv1.appended (i := 1) (by decide) hrow1 hB1.size (by omega) hC hown' hgrow
                have hc3 := h1.cell 1
                have hf3 := h1.frozen 1
                simp [pathV] at hc3
                refine hK _ _ ?_
                clear hK K
                refine wpAnyIn_ready (rs := [6]) (by kernel_rfl) (by simp) ?_
                refine AllReadyIn.cons rfl (fun K hK => ?_) ?_
                · go_simp
                  refine hK _ _ ?_
                  clear hK K
                  refine wpAnyIn_ready (rs := [7]) (by kernel_rfl) (by simp) ?_
                  refine AllReadyIn.cons rfl (fun K hK => ?_) ?_
                  · go_simp
                    refine hK _ _ ?_
                    clear hK K
                    refine wpAnyIn_done (by kernel_rfl) ?_ _
                    exact ⟨(hkeep.trans h4).from _, trivial, ⟨⟨_, by simpa [pathV] using h2, by simpa [strsV] using h3⟩, hr2⟩, hB1.trans h5⟩
                  exact AllReadyIn.nil
                exact AllReadyIn.nil
              exact AllReadyIn.nil
            exact AllReadyIn.nil
          refine AllReadyIn.cons rfl (fun K hK => ?_) ?_
          · go_simp
            refine hK _ _ ?_
            clear hK K
            refine wpAnyIn_ready (rs := [1]) (by kernel_rfl) (by simp) ?_
            refine AllReadyIn.cons rfl (fun K hK => ?_) ?_
            · go_simp
              refine hK _ _ ?_
              clear hK K
              refine wpAnyIn_ready (rs := [5]) (by kernel_rfl) (by simp) ?_
              refine AllReadyIn.cons rfl (fun K hK => ?_) ?_
              · refine stepIn_append_own rfl (.tmp 12) (.tmp 15) 46 9 rfl Tryd.underlying46 hsi hs0 hs1 hs2 rfl (by decide) w.heap.size ⟨w2.heap.size, 0, none⟩ 1 [.string ⟨x.1.toArray⟩] rfl rfl (hrow2.alloc _) rfl (cell_one_new _ _ _) (by simp [Value.oneCell']) (by unfold maxLen; omega) (by omega) (by have := hC.size; have := hB1.size; simp; omega) ?_
                intro v' w1 hown' hgrow
                have hr2 := (((hr1.next hC).alloc _).kept hgrow ((hr1.next hC).not_row (by decide) hrow2)).other (B2 := w.heap.size + 1) (i := 1) (by omega) v'
                obtain ⟨g', cap', rfl⟩ := ownsRow_succ hown'
                obtain ⟨h1, h2, h3, h4, h5⟩ := hv1.appended (i := 1) (by decide) hrow1 hB1.size (by omega) hC hown' hgrow
                have hc3 := h1.cell 1
                have hf3 := h1.frozen 1
                simp [pathV] at hc3
                refine hK _ _ ?_
                clear hK K
                refine wpAnyIn_ready (rs := [6]) (by kernel_rfl) (by simp) ?_
                refine AllReadyIn.cons rfl (fun K hK => ?_) ?_
                · go_simp
                  refine hK _ _ ?_
                  clear hK K
                  refine wpAnyIn_ready (rs := [7]) (by kernel_rfl) (by simp) ?_
                  refine AllReadyIn.cons rfl (fun K hK => ?_) ?_
                  · go_simp
                    refine hK _ _ ?_
                    clear hK K
                    refine wpAnyIn_done (by kernel_rfl) ?_ _
                    exact ⟨(hkeep.trans h4).from _, trivial, ⟨⟨_, by simpa [pathV] using h2, by simpa [strsV] using h3⟩, hr2⟩, hB1.trans h5⟩
                  exact AllReadyIn.nil
                exact AllReadyIn.nil
              exact AllReadyIn.nil
            exact AllReadyIn.nil
          exact AllReadyIn.nil
        exact AllReadyIn.nil
      exact AllReadyIn.nil
    refine AllReadyIn.cons rfl (fun K hK => ?_) ?_
    · go_simp
      refine hK _ _ ?_
      clear hK K
      refine wpAnyIn_ready (rs := [0, 3]) (by kernel_rfl) (by simp) ?_
      refine AllReadyIn.cons rfl (fun K hK => ?_) ?_
      · go_simp
        refine hK _ _ ?_
        clear hK K
        refine wpAnyIn_ready (rs := [1, 3]) (by kernel_rfl) (by simp) ?_
        refine AllReadyIn.cons rfl (fun K hK => ?_) ?_
        · go_simp
          refine hK _ _ ?_
          clear hK K
          refine wpAnyIn_ready (rs := [3]) (by kernel_rfl) (by simp) ?_
          refine AllReadyIn.cons rfl (fun K hK => ?_) ?_
          · go_simp
            gi_wp2_with (refine ⟨trivial, ?_⟩; gi_at_call 57; refine (CallsIn.inRound l (callsIn_wide.2 (Clone_any x.1 _ (Nat.le_trans x.2 (by decide))))).mono ?_; rintro e w2 ⟨rfl, hC⟩; have hc2 : w2.cell? ⟨w.heap.size + 1, 1, none⟩ = some v := (hC.cell (p := ⟨w.heap.size + 1, 1, none⟩) hv1.lt).trans hc; have hc4 : ∀ o, (w2.alloc o).cell? ⟨w.heap.size + 1, 1, none⟩ = some v := fun o => ((hv1.next hC).alloc o).cell 1; have hrow2 := own_keep hrow1 hC)
            refine wpAnyIn_ready (rs := [4]) (by kernel_rfl) (by simp) ?_
            refine AllReadyIn.cons rfl (fun K hK => ?_) ?_
            · go_simp
              refine hK _ _ ?_
              clear hK K
              refine wpAnyIn_ready (rs := [5]) (by kernel_rfl) (by simp) ?_
              refine AllReadyIn.cons rfl (fun K hK => ?_) ?_
              · refine stepIn_append_own rfl (.tmp 12) (.tmp 15) 46 9 rfl Tryd.underlying46 hsi hs0 hs1 hs2 rfl (by decide) w.heap.size ⟨w2.heap.size, 0, none⟩ 1 [.string ⟨x.1.toArray⟩] rfl rfl (hrow2.alloc _) rfl (cell_one_new _ _ _) (by simp [Value.oneCell']) (by unfold maxLen; omega) (by omega) (by have := hC.size; have := hB1.size; simp; omega) ?_
                intro v' w1 hown' hgrow
                have hr2 := (((hr1.next hC).alloc _).kept hgrow ((hr1.next hC).not_row (by decide) hrow2)).other (B2 := w.heap.size + 1) (i := 1) (by omega) v'
                obtain ⟨g', cap', rfl⟩ := ownsRow_succ hown'
                obtain ⟨h1, h2, h3, h4, h5⟩ := hv1.appended (i := 1) (by decide) hrow1 hB1.size (by omega) hC hown' hgrow
                have hc3 := h1.cell 1
                have hf3 := h1.frozen 1
                simp [pathV] at hc3
                refine hK _ _ ?_
                clear hK K
                refine wpAnyIn_ready (rs := [6]) (by kernel_rfl) (by simp) ?_
                refine AllReadyIn.cons rfl (fun K hK => ?_) ?_
                · go_simp
                  refine hK _ _ ?_
                  clear hK K
                  refine wpAnyIn_ready (rs := [7]) (by kernel_rfl) (by simp) ?_
                  refine AllReadyIn.cons rfl (fun K hK => ?_) ?_
                  · go_simp
                    refine hK _ _ ?_
                    clear hK K
                    refine wpAnyIn_done (by kernel_rfl) ?_ _
                    exact ⟨(hkeep.trans h4).from _, trivial, ⟨⟨_, by simpa [pathV] using h2, by simpa [strsV] using h3⟩, hr2⟩, hB1.trans h5⟩
                  exact AllReadyIn.nil
                exact AllReadyIn.nil
              exact AllReadyIn.nil
            exact AllReadyIn.nil
          exact AllReadyIn.nil
        refine AllReadyIn.cons rfl (fun K hK => ?_) ?_
        · go_simp
          gi_wp2_with (refine ⟨trivial, ?_⟩; gi_at_call 57; refine (CallsIn.inRound l (callsIn_wide.2 (Clone_any x.1 _ (Nat.le_trans x.2 (by decide))))).mono ?_; rintro e w2 ⟨rfl, hC⟩; have hc2 : w2.cell? ⟨w.heap.size + 1, 1, none⟩ = some v := (hC.cell (p := ⟨w.heap.size + 1, 1, none⟩) hv1.lt).trans hc; have hc4 : ∀ o, (w2.alloc o).cell? ⟨w.heap.size + 1, 1, none⟩ = some v := fun o => ((hv1.next hC).alloc o).cell 1; have hrow2 := own_keep hrow1 hC)
          refine wpAnyIn_ready (rs := [1, 4]) (by kernel_rfl) (by simp) ?_
          refine AllReadyIn.cons rfl (fun K hK => ?_) ?_
          · go_simp
            refine hK _ _ ?_
            clear hK K
            refine wpAnyIn_ready (rs := [4]) (by kernel_rfl) (by simp) ?_
            refine AllReadyIn.cons rfl (fun K hK => ?_) ?_
            · go_simp
              refine hK _ _ ?_
              clear hK K
              refine wpAnyIn_ready (rs := [5]) (by kernel_rfl) (by simp) ?_
              refine AllReadyIn.cons rfl (fun K hK => ?_) ?_
              · refine stepIn_append_own rfl (.tmp 12) (.tmp 15) 46 9 rfl Tryd.underlying46 hsi hs0 hs1 hs2 rfl (by decide) w.heap.size ⟨w2.heap.size, 0, none⟩ 1 [.string ⟨x.1.toArray⟩] rfl rfl (hrow2.alloc _) rfl (cell_one_new _ _ _) (by simp [Value.oneCell']) (by unfold maxLen; omega) (by omega) (by have := hC.size; have := hB1.size; simp; omega) ?_
                intro v' w1 hown' hgrow
                have hr2 := (((hr1.next hC).alloc _).kept hgrow ((hr1.next hC).not_row (by decide) hrow2)).other (B2 := w.heap.size + 1) (i := 1) (by omega) v'
                obtain ⟨g', cap', rfl⟩ := ownsRow_succ hown'
                obtain ⟨h1, h2, h3, h4, h5⟩ := hv1.appended (i := 1) (by decide) hrow1 hB1.size (by omega) hC hown' hgrow
                have hc3 := h1.cell 1
                have hf3 := h1.frozen 1
                simp [pathV] at hc3
                refine hK _ _ ?_
                clear hK K
                refine wpAnyIn_ready (rs := [6]) (by kernel_rfl) (by simp) ?_
                refine AllReadyIn.cons rfl (fun K hK => ?_) ?_
                · go_simp
                  refine hK _ _ ?_
                  clear hK K
                  refine wpAnyIn_ready (rs := [7]) (by kernel_rfl) (by simp) ?_
                  refine AllReadyIn.cons rfl (fun K hK => ?_) ?_
                  · go_simp
                    refine hK _ _ ?_
                    clear hK K
                    refine wpAnyIn_done (by kernel_rfl) ?_ _
                    exact ⟨(hkeep.trans h4).from _, trivial, ⟨⟨_, by simpa [pathV] using h2, by simpa [strsV] using h3⟩, hr2⟩, hB1.trans h5⟩
                  exact AllReadyIn.nil
                exact AllReadyIn.nil
              exact AllReadyIn.nil
            exact AllReadyIn.nil
          refine AllReadyIn.cons rfl (fun K hK => ?_) ?_
          · go_simp
            refine hK _ _ ?_
            clear hK K
            refine wpAnyIn_ready (rs := [1]) (by kernel_rfl) (by simp) ?_
            refine AllReadyIn.cons rfl (fun K hK => ?_) ?_
            · go_simp
              refine hK _ _ ?_
              clear hK K
              refine wpAnyIn_ready (rs := [5]) (by kernel_rfl) (by simp) ?_
              refine AllReadyIn.cons rfl (fun K hK => ?_) ?_
              · refine stepIn_append_own rfl (.tmp 12) (.tmp 15) 46 9 rfl Tryd.underlying46 hsi hs0 hs1 hs2 rfl (by decide) w.heap.size ⟨w2.heap.size, 0, none⟩ 1 [.string ⟨x.1.toArray⟩] rfl rfl (hrow2.alloc _) rfl (cell_one_new _ _ _) (by simp [Value.oneCell']) (by unfold maxLen; omega) (by omega) (by have := hC.size; have := hB1.size; simp; omega) ?_
                intro v' w1 hown' hgrow
                have hr2 := (((hr1.next hC).alloc _).kept hgrow ((hr1.next hC).not_row (by decide) hrow2)).other (B2 := w.heap.size + 1) (i := 1) (by omega) v'
                obtain ⟨g', cap', rfl⟩ := ownsRow_succ hown'
                obtain ⟨h1, h2, h3, h4, h5⟩ := hv1.appended (i := 1) (by decide) hrow1 hB1.size (by omega) hC hown' hgrow
                have hc3 := h1.cell 1
                have hf3 := h1.frozen 1
                simp [pathV] at hc3
                refine hK _ _ ?_
                clear hK K
                refine wpAnyIn_ready (rs := [6]) (by kernel_rfl) (by simp) ?_
                refine AllReadyIn.cons rfl (fun K hK => ?_) ?_
                · go_simp
                  refine hK _ _ ?_
                  clear hK K
                  refine wpAnyIn_ready (rs := [7]) (by kernel_rfl) (by simp) ?_
                  refine AllReadyIn.cons rfl (fun K hK => ?_) ?_
                  · go_simp
                    refine hK _ _ ?_
                    clear hK K
                    refine wpAnyIn_done (by kernel_rfl) ?_ _
                    exact ⟨(hkeep.trans h4).from _, trivial, ⟨⟨_, by simpa [pathV] using h2, by simpa [strsV] using h3⟩, hr2⟩, hB1.trans h5⟩
                  exact AllReadyIn.nil
                exact AllReadyIn.nil
              exact AllReadyIn.nil
            exact AllReadyIn.nil
          exact AllReadyIn.nil
        exact AllReadyIn.nil
      refine AllReadyIn.cons rfl (fun K hK => ?_) ?_
      · go_simp
        gi_wp2_with (refine ⟨trivial, ?_⟩; gi_at_call 57; refine (CallsIn.inRound l (callsIn_wide.2 (Clone_any x.1 _ (Nat.le_trans x.2 (by decide))))).mono ?_; rintro e w2 ⟨rfl, hC⟩; have hc2 : w2.cell? ⟨w.heap.size + 1, 1, none⟩ = some v := (hC.cell (p := ⟨w.heap.size + 1, 1, none⟩) hv1.lt).trans hc; have hc4 : ∀ o, (w2.alloc o).cell? ⟨w.heap.size + 1, 1, none⟩ = some v := fun o => ((hv1.next hC).alloc o).cell 1; have hrow2 := own_keep hrow1 hC)
        refine wpAnyIn_ready (rs := [0, 4]) (by kernel_rfl) (by simp) ?_
        refine AllReadyIn.cons rfl (fun K hK => ?_) ?_
        · go_simp
          refine hK _ _ ?_
          clear hK K
          refine wpAnyIn_ready (rs := [1, 4]) (by kernel_rfl) (by simp) ?_
          refine AllReadyIn.cons rfl (fun K hK => ?_) ?_
          · go_simp
            refine hK _ _ ?_
            clear hK K
            refine wpAnyIn_ready (rs := [4]) (by kernel_rfl) (by simp) ?_
            refine AllReadyIn.cons rfl (fun K hK => ?_) ?_
            · go_simp
              refine hK _ _ ?_
              clear hK K
              refine wpAnyIn_ready (rs := [5]) (by kernel_rfl) (by simp) ?_
              refine AllReadyIn.cons rfl (fun K hK => ?_) ?_
              · refine stepIn_append_own rfl (.tmp 12) (.tmp 15) 46 9 rfl Tryd.underlying46 hsi hs0 hs1 hs2 rfl (by decide) w.heap.size ⟨w2.heap.size, 0, none⟩ 1 [.string ⟨x.1.toArray⟩] rfl rfl (hrow2.alloc _) rfl (cell_one_new _ _ _) (by simp [Value.oneCell']) (by unfold maxLen; omega) (by omega) (by have := hC.size; have := hB1.size; simp; omega) ?_
                intro v' w1 hown' hgrow
                have hr2 := (((hr1.next hC).alloc _).kept hgrow ((hr1.next hC).not_row (by decide) hrow2)).other (B2 := w.heap.size + 1) (i := 1) (by omega) v'
                obtain ⟨g', cap', rfl⟩ := ownsRow_succ hown'
                obtain ⟨h1, h2, h3, h4, h5⟩ := hv1.appended (i := 1) (by decide) hrow1 hB1.size (by omega) hC hown' hgrow
                have hc3 := h1.cell 1
                have hf3 := h1.frozen 1
                simp [pathV] at hc3
                refine hK _ _ ?_
                clear hK K
                refine wpAnyIn_ready (rs := [6]) (by kernel_rfl) (by simp) ?_
                refine AllReadyIn.cons rfl (fun K hK => ?_) ?_
                · go_simp
                  refine hK _ _ ?_
                  clear hK K
                  refine wpAnyIn_ready (rs := [7]) (by kernel_rfl) (by simp) ?_
                  refine AllReadyIn.cons rfl (fun K hK => ?_) ?_
                  · go_simp
                    refine hK _ _ ?_
                    clear hK K
                    refine wpAnyIn_done (by kernel_rfl) ?_ _
                    exact ⟨(hkeep.trans h4).from _, trivial, ⟨⟨_, by simpa [pathV] using h2, by simpa [strsV] using h3⟩, hr2⟩, hB1.trans h5⟩
                  exact AllReadyIn.nil
                exact AllReadyIn.nil
              exact AllReadyIn.nil
            exact AllReadyIn.nil
          refine AllReadyIn.cons rfl (fun K hK => ?_) ?_
          · go_simp
            refine hK _ _ ?_
            clear hK K
            refine wpAnyIn_ready (rs := [1]) (by kernel_rfl) (by simp) ?_
            refine AllReadyIn.cons rfl (fun K hK => ?_) ?_
            · go_simp
              refine hK _ _ ?_
              clear hK K
              refine wpAnyIn_ready (rs := [5]) (by kernel_rfl) (by simp) ?_
              refine AllReadyIn.cons rfl (fun K hK => ?_) ?_
              · refine stepIn_append_own rfl (.tmp 12) (.tmp 15) 46 9 rfl Tryd.underlying46 hsi hs0 hs1 hs2 rfl (by decide) w.heap.size ⟨w2.heap.size, 0, none⟩ 1 [.string ⟨x.1.toArray⟩] rfl rfl (hrow2.alloc _) rfl (cell_one_new _ _ _) (by simp [Value.oneCell']) (by unfold maxLen; omega) (by omega) (by have := hC.size; have := hB1.size; simp; omega) ?_
                intro v' w1 hown' hgrow
                have hr2 := (((hr1.next hC).alloc _).kept hgrow ((hr1.next hC).not_row (by decide) hrow2)).other (B2 := w.heap.size + 1) (i := 1) (by omega) v'
                obtain ⟨g', cap', rfl⟩ := ownsRow_succ hown'
                obtain ⟨h1, h2, h3, h4, h5⟩ := hv1.appended (i := 1) (by decide) hrow1 hB1.size (by omega) hC hown' hgrow
                have hc3 := h1.cell 1
                have hf3 := h1.frozen 1
                simp [pathV] at hc3
                refine hK _ _ ?_
                clear hK K
                refine wpAnyIn_ready (rs := [6]) (by kernel_rfl) (by simp) ?_
                refine AllReadyIn.cons rfl (fun K hK => ?_) ?_
                · go_simp
                  refine hK _ _ ?_
                  clear hK K
                  refine wpAnyIn_ready (rs := [7]) (by kernel_rfl) (by simp) ?_
                  refine AllReadyIn.cons rfl (fun K hK => ?_) ?_
                  · go_simp
                    refine hK _ _ ?_
                    clear hK K
                    refine wpAnyIn_done (by kernel_rfl) ?_ _
                    exact ⟨(hkeep.trans h4).from _, trivial, ⟨⟨_, by simpa [pathV] using h2, by simpa [strsV] using h3⟩, hr2⟩, hB1.trans h5⟩
                  exact AllReadyIn.nil
                exact AllReadyIn.nil
              exact AllReadyIn.nil
            exact AllReadyIn.nil
          exact AllReadyIn.nil
        refine AllReadyIn.cons rfl (fun K hK => ?_) ?_
        · go_simp
          refine hK _ _ ?_
          clear hK K
          refine wpAnyIn_ready (rs := [0]) (by kernel_rfl) (by simp) ?_
          refine AllReadyIn.cons rfl (fun K hK => ?_) ?_
          · go_simp
            refine hK _ _ ?_
            clear hK K
            refine wpAnyIn_ready (rs := [1]) (by kernel_rfl) (by simp) ?_
            refine AllReadyIn.cons rfl (fun K hK => ?_) ?_
            · go_simp
              refine hK _ _ ?_
              clear hK K
              refine wpAnyIn_ready (rs := [5]) (by kernel_rfl) (by simp) ?_
              refine AllReadyIn.cons rfl (fun K hK => ?_) ?_
              · refine stepIn_append_own rfl (.tmp 12) (.tmp 15) 46 9 rfl Tryd.underlying46 hsi hs0 hs1 hs2 rfl (by decide) w.heap.size ⟨w2.heap.size, 0, none⟩ 1 [.string ⟨x.1.toArray⟩] rfl rfl (hrow2.alloc _) rfl (cell_one_new _ _ _) (by simp [Value.oneCell']) (by unfold maxLen; omega) (by omega) (by have := hC.size; have := hB1.size; simp; omega) ?_
                intro v' w1 hown' hgrow
                have hr2 := (((hr1.next hC).alloc _).kept hgrow ((hr1.next hC).not_row (by decide) hrow2)).other (B2 := w.heap.size + 1) (i := 1) (by omega) v'
                obtain ⟨g', cap', rfl⟩ := ownsRow_succ hown'
                obtain ⟨h1, h2, h3, h4, h5⟩ := hv1.appended (i := 1) (by decide) hrow1 hB1.size (by omega) hC hown' hgrow
                have hc3 := h1.cell 1
                have hf3 := h1.frozen 1
                simp [pathV] at hc3
                refine hK _ _ ?_
                clear hK K
                refine wpAnyIn_ready (rs := [6]) (by kernel_rfl) (by simp) ?_
                refine AllReadyIn.cons rfl (fun K hK => ?_) ?_
                · go_simp
                  refine hK _ _ ?_
                  clear hK K
                  refine wpAnyIn_ready (rs := [7]) (by kernel_rfl) (by simp) ?_
                  refine AllReadyIn.cons rfl (fun K hK => ?_) ?_
                  · go_simp
                    refine hK _ _ ?_
                    clear hK K
                    refine wpAnyIn_done (by kernel_rfl) ?_ _
                    exact ⟨(hkeep.trans h4).from _, trivial, ⟨⟨_, by simpa [pathV] using h2, by simpa [strsV] using h3⟩, hr2⟩, hB1.trans h5⟩
                  exact AllReadyIn.nil
                exact AllReadyIn.nil
              exact AllReadyIn.nil
            exact AllReadyIn.nil
          exact AllReadyIn.nil
        exact AllReadyIn.nil
      exact AllReadyIn.nil
    exact AllReadyIn.nil
  case done =>
    rintro D ys W hD hys ⟨⟨⟨v, hv, hrow⟩, hr⟩, hB⟩ hK
    have hlen : ys.length = (namesB p).length := by rw [← hys, List.length_map]
    rw [hys, hlen] at hrow
    clear hlen
    obtain ⟨av, cap, rfl⟩ : ∃ av cap, v = .slice av (namesB p).length cap := by
      rcases hrow.2 with ⟨rfl, h0⟩ | ⟨g, cap, cur, rfl, _⟩
      · exact ⟨none, 0, by rw [h0]⟩
      · exact ⟨_, _, rfl⟩
    have c0 := hv.cell 0
    have c1 := hv.cell 1
    have c2 := hv.cell 2
    have f2 := hv.frozen 2
    have d0 := hr.cell 0
    have d1 := hr.cell 1
    have d2 := hr.cell 2
    have e0 := hr.frozen 0
    have e1 := hr.frozen 1
    have e2 := hr.frozen 2
    simp [pathV] at c0 c1 c2 d0 d1 d2
    by_cases hn : 0 < (namesB p).length
    · have hS := Lib.hid (show Lib.hasSuffix p [47] = slashB p from by
        rw [endB_suffix]
        have : (namesB p).isEmpty = false := by rw [List.isEmpty_eq_false_iff]; intro e; rw [e] at hn; simp at hn
        simp [slashB, this])
      gi_wp2_with fail
      refine ⟨trivial, ?_⟩
      gi_at_call 58
      refine (callsIn_wide.2 (Tryd.strings_HasSuffix ⟨p.toArray⟩ ⟨#[47]⟩ _ (by simp [ByteArray.size]; omega))).mono ?_
      rintro e w3 ⟨rfl, rfl⟩
      rw [show Lib.hasSuffix (ByteArray.mk p.toArray).data.toList (ByteArray.mk #[47]).data.toList = slashB p from hS.out]
      gi_wp2
      obtain ⟨W', hW', hK', hb', hrow', hB'⟩ := four_set (a := absB p) (s := (slashB p)) hv hr hrow (by decide) hK
      rw [← hW']
      have hb2 := hb'.putObj (.deferred none) hK' rfl
      have g0 := hb2.cell 0
      have g1 := hb2.cell 1
      have g2 := hb2.cell 2
      simp [pathV] at g0 g1 g2
      refine ⟨by simp, .inl ⟨_, _, rfl, run_takeDeferred hK', ?_⟩⟩
      refine ⟨.agg (pathV (absB p) (.slice av (namesB p).length cap) (slashB p)), ?_, _, rfl, ownsRow_putObj hrow' _ hK' rfl, (hB.trans hB').trans (belowK_b (w := w) (Nat.le_refl _) _ D _ _ (by simp at hD; omega) hK' rfl rfl)⟩
      simp [results, Tryd.f46, go_sem, g0, g1, g2]
    · have hS := Lib.hid (show slashB p = false from by
        have : (namesB p).isEmpty = true := by rw [List.isEmpty_iff]; exact List.eq_nil_of_length_eq_zero (by omega)
        simp [slashB, this])
      gi_wp2
      refine ⟨trivial, ?_⟩
      gi_wp2
      obtain ⟨W', hW', hK', hb', hrow', hB'⟩ := four_set (a := absB p) (s := false) hv hr hrow (by decide) hK
      rw [← hW']
      have hb2 := hb'.putObj (.deferred none) hK' rfl
      have g0 := hb2.cell 0
      have g1 := hb2.cell 1
      have g2 := hb2.cell 2
      simp [pathV] at g0 g1 g2
      refine ⟨by simp, .inl ⟨_, _, rfl, run_takeDeferred hK', ?_⟩⟩
      refine ⟨.agg (pathV (absB p) (.slice av (namesB p).length cap) false), ?_, _, by rw [hS.out], ownsRow_putObj hrow' _ hK' rfl, (hB.trans hB').trans (belowK_b (w := w) (Nat.le_refl _) _ D _ _ (by simp at hD; omega) hK' rfl rfl)⟩
      simp [results, Tryd.f46, go_sem, g0, g1, g2]
  case stop =>
    rintro D c pre W _ _ h _
    exact h.elim
end Go.Proofs.YtdplndmhnfalhaaDoor

/- strings.Builder: a writing method's check, and WriteString. -/
set_option linter.unusedVariables false
set_option linter.unusedSimpArgs false
namespace Go.Proofs.YtdplndmhnfalhaaDoor
open Go.RowKit Go.Shelf

set_option maxHeartbeats 1000000 in
set_option maxRecDepth 100000 in
theorem copyCheck_used (b : Nat) (w : World) (h0 : w.cell? ⟨b, 0, none⟩ = some (.pointer (some ⟨b, 0, none⟩))) :
    Calls Tryd.prog 74 #[.pointer (some ⟨b, 0, none⟩)] w fun e w' => e = .returned (.tuple #[]) ∧ w' = w := by
  obtain ⟨j, hj, _⟩ := Option.map_eq_some_iff.1 (show (Tryd.prog.info? 69).map (·.size) = some 2 from by kernel_rfl)
  go_enter Tryd.func74, Tryd.ntmps74
  go_wp2
  rw [Lib.run_neq_ptr_same w _ Tryd.underlying66 hj]
  go_wp2
  go_end0
  exact ⟨rfl, rfl⟩

set_option maxHeartbeats 1000000 in
set_option maxRecDepth 100000 in
theorem copyCheck_fresh (b : Nat) (w : World) (h0 : w.cell? ⟨b, 0, none⟩ = some (.pointer none)) (hsh : w.shape? b = some (69, 2)) (hfz : w.frozen? ⟨b, 0, none⟩ = false) :
    Calls Tryd.prog 74 #[.pointer (some ⟨b, 0, none⟩)] w fun e w' => e = .returned (.tuple #[]) ∧ w' = w.setCell ⟨b, 0, none⟩ (.pointer (some ⟨b, 0, none⟩)) := by
  obtain ⟨j, hj, hjs⟩ := Option.map_eq_some_iff.1 (show (Tryd.prog.info? 69).map (·.size) = some 2 from by kernel_rfl)
  have hlies : liesAt Tryd.prog Tryd.prog.depth 69 (2 / Tryd.prog.cellsOf 69) 0 69 1 = true := by kernel_rfl
  go_enter Tryd.func74, Tryd.ntmps74
  go_wp2
  rw [Lib.run_to_unsafe w ⟨b, 0, none⟩ Tryd.underlying66 Tryd.underlying86 hj (by rw [hjs]; decide) hsh (Nat.zero_lt_succ 1)]
  simp only [Result.andThen]
  rw [Oper.upon_value]
  go_wp2
  rw [run_callFunc_extern Tryd.func79 (by kernel_rfl) (by kernel_rfl) (by kernel_rfl) (e := Extern.AbiNoEscape.same) (by kernel_rfl)]
  rw [Lib.run_noEscape]
  simp only [Result.andThen]
  rw [Oper.upon_value]
  go_wp2
  rw [Lib.run_from_unsafe w ⟨b, 0, none⟩ Tryd.underlying86 Tryd.underlying66 hj hsh hlies]
  simp only [Result.andThen]
  rw [Oper.upon_value]
  go_wp2
  go_end0
  exact ⟨rfl, rfl⟩

/-- A writing method's check: behind it the builder is used. -/
theorem copyCheck_any (B b : Nat) (bs : List Value) (w : World) (h : Lib.IsBuilder 69 5 B b bs w) :
    Calls Tryd.prog 74 #[.pointer (some ⟨b, 0, none⟩)] w fun e w' => e = .returned (.tuple #[]) ∧ (Lib.BuilderAt 69 5 B b (.pointer (some ⟨b, 0, none⟩)) bs w' ∧ Below B w w') := by
  rcases h with h | h
  · refine (copyCheck_fresh b w h.cell0 h.shape h.frozen0).mono ?_
    rintro e w' ⟨rfl, rfl⟩
    exact ⟨rfl, h.used _, (Below.refl B w).setCell (p := ⟨b, 0, none⟩) h.1 _⟩
  · refine (copyCheck_used b w h.cell0).mono ?_
    rintro e w' ⟨rfl, rfl⟩
    exact ⟨rfl, h, Below.refl B _⟩

theorem Tryd.infoByte : (Tryd.prog.info? 5).map (fun i => (i.zero, i.size, i.bytes)) = some (some (.int .u8 0), 1, 1) := by kernel_rfl

set_option maxHeartbeats 2000000 in
set_option maxRecDepth 100000 in
theorem WriteString_any (B b : Nat) (bs : List UInt8) (l : List UInt8) (w : World) (h : Lib.IsBuilder 69 5 B b (bytesV bs) w) (hlen : bs.length + l.length ≤ 1000000000) (hBw : B ≤ w.heap.size) :
    Calls Tryd.prog 67 #[.pointer (some ⟨b, 0, none⟩), .string ⟨l.toArray⟩] w fun e w' => e = .returned (.tuple #[.int .i64 l.length, .nilIface]) ∧ (Lib.IsBuilder 69 5 B b (bytesV (bs ++ l)) w' ∧ Below B w w') := by
  obtain ⟨i0, hi, hz0, hz1, hz2⟩ := info_parts Tryd.infoByte
  go_enter Tryd.func67, Tryd.ntmps67
  go_wp2_with fail
  refine (copyCheck_any B b _ _ h).mono ?_
  rintro e w1 ⟨rfl, h1, hb1⟩
  obtain ⟨hB, v, hbk, hown, hne⟩ := h1
  have c0 : w1.cell? ⟨b, 0, none⟩ = some (.pointer (some ⟨b, 0, none⟩)) := by rw [Lib.cell_of_heap hbk]; rfl
  have c1 : w1.cell? ⟨b, 1, none⟩ = some v := by rw [Lib.cell_of_heap hbk]; rfl
  go_wp2_with (at_builtin; refine Lib.wpList_append_own_string _ rfl _ _ 67 9 rfl B 5 i0 Tryd.underlying67 Tryd.underlying9 hi hz0 hz1 hz2 _ _ _ rfl hown ⟨l.toArray⟩ rfl ?c3 ?c4 ?c5 ?_)
  case c3 => simp [bytesV, ByteArray.size]; unfold maxLen; omega
  case c4 => simp [bytesV, ByteArray.size]; omega
  case c5 => have := hb1.size; omega
  intro v' w2 hown' hgrow _
  have hlt : b < w1.heap.size := by
    rcases Nat.lt_or_ge b w1.heap.size with h' | h'
    · exact h'
    · simp [Array.getElem?_eq_none h'] at hbk
  have hb2 : w2.heap[b]? = some (.cells #[.pointer (some ⟨b, 0, none⟩), v] 69 (0, 0)) := by
    rw [hgrow.block b hlt (fun e => hne e.symm)]
    exact hbk
  have d0 : w2.cell? ⟨b, 0, none⟩ = some (.pointer (some ⟨b, 0, none⟩)) := by rw [Lib.cell_of_heap hb2]; rfl
  have d1 : w2.cell? ⟨b, 1, none⟩ = some v := by rw [Lib.cell_of_heap hb2]; rfl
  have f1 : w2.frozen? ⟨b, 1, none⟩ = false := Lib.frozen_of_heap hb2 1
  obtain ⟨ao, n', cap, rfl⟩ : ∃ ao n' cap, v' = .slice ao n' cap := by
    rcases hown'.2 with ⟨hv, _⟩ | ⟨g, cap, cur, hv, _⟩
    · exact ⟨_, _, _, hv⟩
    · exact ⟨_, _, _, hv⟩
  go_wp2
  go_ret2
  refine ⟨by simp [ByteArray.size], .inr ?_, ?_⟩
  · exact Lib.BuilderAt.put (T := 69) (e := 5) hB hb2 (bs' := bytesV (bs ++ l)) (by simpa [bytesV, Lib.strCells, ByteArray.size] using hown') (by decide)
  · exact (hb1.grown hgrow (by have := hb1.size; omega) (fun k hk => (hown.lt k hk).1)).setCell (p := ⟨b, 1, none⟩) hB _

/-- A builder as 'var b strings.Builder' lays it. -/
theorem builder_new (w : World) : Lib.IsBuilder 69 5 w.heap.size w.heap.size (bytesV []) (w.alloc (.cells #[.pointer none, .slice none 0 0] 69)) := by
  refine .inl ⟨Nat.le_refl _, .slice none 0 0, World.alloc_heap_new w _, World.ownsRow_nil _ _ _ _, by simp [Value.ownBlock]⟩

theorem builder_String (B b : Nat) (l : List UInt8) (w : World) (h : Lib.IsBuilder 69 5 B b (bytesV l) w) (hBw : B ≤ w.heap.size) :
    Calls Tryd.prog 68 #[.pointer (some ⟨b, 0, none⟩)] w fun e w' => e = .returned (.string ⟨l.toArray⟩) ∧ Below B w w' := Tryd.Builder_String_any B b l w h hBw
end Go.Proofs.YtdplndmhnfalhaaDoor

/- Walks: Put, Join. -/
set_option linter.unusedVariables false
set_option linter.unusedSimpArgs false
namespace Go.Proofs.YtdplndmhnfalhaaDoor
open Go.RowKit

abbrev pathA (a : Bool) (v : Value) (s : Bool) : Array Value := #[.bool a, v, .bool s]
theorem str_cell {w : World} {b off : Nat} {l : List (List UInt8)} (hc : ∀ i (h : i < l.length), w.cell? ⟨b, off + i, none⟩ = some (.string ⟨l[i].toArray⟩)) {k : Nat} (h : k < l.length) : w.cell? ⟨b, off + k, none⟩ = some (.string ⟨l[k].toArray⟩) := hc k h
theorem interB_next (ns : List (List UInt8)) (k : Nat) (h : k < ns.length) : interB (ns.take (k + 1)) = if k = 0 then ns[k] else interB (ns.take k) ++ 47 :: ns[k] := by
  rw [List.take_succ_eq_append_getElem h, interB_snoc]
  by_cases hk : k = 0
  · subst hk; simp
  · rw [if_neg hk, if_neg (by cases ns <;> cases k <;> simp_all)]
theorem putB_inter (a s : Bool) (ns : List (List UInt8)) : (interB ns).length ≤ (putB a ns s).length := by simp [putB]; omega
theorem putB_no (a s : Bool) (ns : List (List UInt8)) (h : s = false ∨ ns = []) : putB a ns s = (if a then [47] else []) ++ interB ns := by
  rcases h with rfl | rfl <;> simp [putB]
theorem putB_yes (a : Bool) (ns : List (List UInt8)) (h : 0 < ns.length) : putB a ns true = (if a then [47] else []) ++ interB ns ++ [47] := by
  have : ns.isEmpty = false := by rw [List.isEmpty_eq_false_iff]; rintro rfl; simp at h
  simp [putB, this]

set_option maxRecDepth 100000 in
set_option maxHeartbeats 4000000 in
theorem Put_true (s : Bool) (ns : List (List UInt8)) (v : Value) (w : World) (hv : Strs w v ns) (hl : ns.length ≤ 1000000) (hj : (interB ns).length ≤ 1000000) :
    Calls Tryd.prog 60 #[.agg (pathA true v s)] w fun e w' => e = .returned (.string ⟨(putB true ns s).toArray⟩) ∧ Below w.heap.size w w' := by
  obtain ⟨ad, ca, rfl, hm, HA0⟩ := hv
  have HA := Lib.hid HA0
  have HJ := Lib.hid hj
  clear HA0 hm hj
  have b0 := Blk.new w 52 (pathA true (.slice ad ns.length ca) s)
  have bb := builder_new (w.alloc (.cells (pathA true (.slice ad ns.length ca) s) 52))
  rw [World.size_alloc] at bb
  have hB0 : Below (w.heap.size + 1) (w.alloc (.cells (pathA true (.slice ad ns.length ca) s) 52)) ((w.alloc (.cells (pathA true (.slice ad ns.length ca) s) 52)).alloc (.cells #[.pointer none, .slice none 0 0] 69)) := (Below.refl _ _).alloc (by simp) _
  have hW0 : Below w.heap.size w (w.alloc (.cells (pathA true (.slice ad ns.length ca) s) 52)) := (Below.refl _ w).alloc (Nat.le_refl _) _
  have hs1 : (w.alloc (.cells (pathA true (.slice ad ns.length ca) s) 52)).heap.size = w.heap.size + 1 := by simp
  go_enter Tryd.func60, Tryd.ntmps60
  go_wp2_with fail
  refine (WriteString_any (w.heap.size + 1) (w.heap.size + 1) [] [47] _ bb (by decide) (by simp)).mono ?_
  rintro e w1 ⟨rfl, hb, h1⟩
  replace h1 := hB0.trans h1
  have bz : w1.cell? ⟨w.heap.size, 1, none⟩ = some (.slice ad ns.length ca) := (b0.below h1 (by simp)).cell 1
  go_wp2
  go_loopw [12] (fun i wr => ∃ k : Nat, k ≤ ns.length ∧ i = .int .i64 k ∧ Lib.IsBuilder 69 5 (w.heap.size + 1) (w.heap.size + 1) (bytesV ([47] ++ interB (ns.take k))) wr ∧ Below (w.heap.size + 1) (w.alloc (.cells (pathA true (.slice ad ns.length ca) s) 52)) wr) (fun i _ => ns.length - (intOf i).toNat)
  case atStart => exact ⟨0, Nat.zero_le _, rfl, by simpa [interB] using hb, h1⟩
  case round =>
    obtain ⟨k, hk, rfl, hbl, hBl⟩ := hrel
    have hsz := hBl.size
    rw [World.size_alloc] at hsz
    have hlen := Nat.le_trans (interB_take ns k) HJ.out
    by_cases hlt : k < ns.length
    · obtain ⟨ba, oa, rfl, hba, hca⟩ := HA.out (by omega)
      have c1 : wr.cell? ⟨ba, oa + k, none⟩ = some (.string ⟨ns[k].toArray⟩) := (hBl.cell (p := ⟨ba, oa + k, none⟩) (by simp; omega)).trans ((hW0.cell (p := ⟨ba, oa + k, none⟩) hba).trans (hca k hlt))
      clear hca
      have HN := Lib.hid (interB_next ns k hlt)
      have hlen2 := Nat.le_trans (interB_take ns (k + 1)) HJ.out
      by_cases h0 : 0 < k
      · have hkz : Hid (¬ k = 0) := by (show ¬ _); omega
        have hN2 := Lib.hid (HN.out.trans (if_neg hkz.out))
        rw [hN2.out, List.length_append, List.length_cons] at hlen2
        go_wp2_with fail
        refine (WriteString_any (w.heap.size + 1) (w.heap.size + 1) _ [47] _ hbl (by simp; omega) (by omega)).mono ?_
        rintro e w2 ⟨rfl, hb2, hB2⟩
        have c2 : w2.cell? ⟨ba, oa + k, none⟩ = some (.string ⟨ns[k].toArray⟩) := (hB2.cell (p := ⟨ba, oa + k, none⟩) (by simp; omega)).trans c1
        have hs2 := hB2.size
        clear c1
        go_wp2_with fail
        refine (WriteString_any (w.heap.size + 1) (w.heap.size + 1) _ ns[k] _ hb2 (by simp; omega) (by omega)).mono ?_
        rintro e w3 ⟨rfl, hb3, hB3⟩
        go_wp2
        go_roundw
        case rel => exact ⟨k + 1, by omega, by go_num, by rw [hN2.out]; simpa using hb3, (hBl.trans hB2).trans hB3⟩
        case measure => simp [intOf]; omega
      · obtain rfl : k = 0 := by omega
        have hN2 := Lib.hid (HN.out.trans (if_pos rfl))
        have c0 : wr.cell? ⟨ba, oa, none⟩ = some (.string ⟨ns[0].toArray⟩) := c1
        clear c1
        rw [hN2.out] at hlen2
        go_wp2_with fail
        refine (WriteString_any (w.heap.size + 1) (w.heap.size + 1) _ ns[0] _ hbl (by simp [interB]; omega) (by omega)).mono ?_
        rintro e w3 ⟨rfl, hb3, hB3⟩
        go_wp2
        go_roundw
        case rel => exact ⟨1, by omega, by go_num, by rw [hN2.out]; simpa [interB] using hb3, hBl.trans hB3⟩
        case measure => simp [intOf]; omega
    · obtain rfl : k = ns.length := by omega
      rw [List.take_length] at hbl hlen
      have bx := b0.below hBl (by simp)
      have x1 := bx.cell 1
      have x2 := bx.cell 2
      simp at x1 x2
      cases s
      · have HP := Lib.hid (putB_no true false ns (.inl rfl))
        go_wp2_with fail
        refine (builder_String (w.heap.size + 1) (w.heap.size + 1) _ _ hbl (by omega)).mono ?_
        rintro e w3 ⟨rfl, hB3⟩
        go_wp2
        go_ret
        exact ⟨ret_str (by rw [HP.out]; rfl), hW0.trans ((hBl.trans hB3).mono (by simp))⟩
      · by_cases hn : 0 < ns.length
        · have HP := Lib.hid (putB_yes true ns hn)
          go_wp2_with fail
          refine (WriteString_any (w.heap.size + 1) (w.heap.size + 1) _ [47] _ hbl (by simp; omega) (by omega)).mono ?_
          rintro e w2 ⟨rfl, hb2, hB2⟩
          have hs2 := hB2.size
          go_wp2_with fail
          refine (builder_String (w.heap.size + 1) (w.heap.size + 1) _ _ hb2 (by omega)).mono ?_
          rintro e w3 ⟨rfl, hB3⟩
          go_wp2
          go_ret
          exact ⟨ret_str (by rw [HP.out]; rfl), hW0.trans (((hBl.trans hB2).trans hB3).mono (by simp))⟩
        · have HP := Lib.hid (putB_no true true ns (.inr (List.eq_nil_of_length_eq_zero (by omega))))
          go_wp2_with fail
          refine (builder_String (w.heap.size + 1) (w.heap.size + 1) _ _ hbl (by omega)).mono ?_
          rintro e w3 ⟨rfl, hB3⟩
          go_wp2
          go_ret
          exact ⟨ret_str (by rw [HP.out]; rfl), hW0.trans ((hBl.trans hB3).mono (by simp))⟩

set_option maxRecDepth 100000 in
set_option maxHeartbeats 4000000 in
theorem Put_false (s : Bool) (ns : List (List UInt8)) (v : Value) (w : World) (hv : Strs w v ns) (hl : ns.length ≤ 1000000) (hj : (interB ns).length ≤ 1000000) :
    Calls Tryd.prog 60 #[.agg (pathA false v s)] w fun e w' => e = .returned (.string ⟨(putB false ns s).toArray⟩) ∧ Below w.heap.size w w' := by
  obtain ⟨ad, ca, rfl, hm, HA0⟩ := hv
  have HA := Lib.hid HA0
  have HJ := Lib.hid hj
  clear HA0 hm hj
  have b0 := Blk.new w 52 (pathA false (.slice ad ns.length ca) s)
  have bb := builder_new (w.alloc (.cells (pathA false (.slice ad ns.length ca) s) 52))
  rw [World.size_alloc] at bb
  have hB0 : Below (w.heap.size + 1) (w.alloc (.cells (pathA false (.slice ad ns.length ca) s) 52)) ((w.alloc (.cells (pathA false (.slice ad ns.length ca) s) 52)).alloc (.cells #[.pointer none, .slice none 0 0] 69)) := (Below.refl _ _).alloc (by simp) _
  have hW0 : Below w.heap.size w (w.alloc (.cells (pathA false (.slice ad ns.length ca) s) 52)) := (Below.refl _ w).alloc (Nat.le_refl _) _
  have hs1 : (w.alloc (.cells (pathA false (.slice ad ns.length ca) s) 52)).heap.size = w.heap.size + 1 := by simp
  go_enter Tryd.func60, Tryd.ntmps60
  have h1 := hB0
  have hb := bb
  go_wp2
  go_loopw [12] (fun i wr => ∃ k : Nat, k ≤ ns.length ∧ i = .int .i64 k ∧ Lib.IsBuilder 69 5 (w.heap.size + 1) (w.heap.size + 1) (bytesV ([] ++ interB (ns.take k))) wr ∧ Below (w.heap.size + 1) (w.alloc (.cells (pathA false (.slice ad ns.length ca) s) 52)) wr) (fun i _ => ns.length - (intOf i).toNat)
  case atStart => exact ⟨0, Nat.zero_le _, rfl, by simpa [interB] using hb, h1⟩
  case round =>
    obtain ⟨k, hk, rfl, hbl, hBl⟩ := hrel
    have hsz := hBl.size
    rw [World.size_alloc] at hsz
    have hlen := Nat.le_trans (interB_take ns k) HJ.out
    by_cases hlt : k < ns.length
    · obtain ⟨ba, oa, rfl, hba, hca⟩ := HA.out (by omega)
      have c1 : wr.cell? ⟨ba, oa + k, none⟩ = some (.string ⟨ns[k].toArray⟩) := (hBl.cell (p := ⟨ba, oa + k, none⟩) (by simp; omega)).trans ((hW0.cell (p := ⟨ba, oa + k, none⟩) hba).trans (hca k hlt))
      clear hca
      have HN := Lib.hid (interB_next ns k hlt)
      have hlen2 := Nat.le_trans (interB_take ns (k + 1)) HJ.out
      by_cases h0 : 0 < k
      · have hkz : Hid (¬ k = 0) := by (show ¬ _); omega
        have hN2 := Lib.hid (HN.out.trans (if_neg hkz.out))
        rw [hN2.out, List.length_append, List.length_cons] at hlen2
        go_wp2_with fail
        refine (WriteString_any (w.heap.size + 1) (w.heap.size + 1) _ [47] _ hbl (by simp; omega) (by omega)).mono ?_
        rintro e w2 ⟨rfl, hb2, hB2⟩
        have c2 : w2.cell? ⟨ba, oa + k, none⟩ = some (.string ⟨ns[k].toArray⟩) := (hB2.cell (p := ⟨ba, oa + k, none⟩) (by simp; omega)).trans c1
        have hs2 := hB2.size
        clear c1
        go_wp2_with fail
        refine (WriteString_any (w.heap.size + 1) (w.heap.size + 1) _ ns[k] _ hb2 (by simp; omega) (by omega)).mono ?_
        rintro e w3 ⟨rfl, hb3, hB3⟩
        go_wp2
        go_roundw
        case rel => exact ⟨k + 1, by omega, by go_num, by rw [hN2.out]; simpa using hb3, (hBl.trans hB2).trans hB3⟩
        case measure => simp [intOf]; omega
      · obtain rfl : k = 0 := by omega
        have hN2 := Lib.hid (HN.out.trans (if_pos rfl))
        have c0 : wr.cell? ⟨ba, oa, none⟩ = some (.string ⟨ns[0].toArray⟩) := c1
        clear c1
        rw [hN2.out] at hlen2
        go_wp2_with fail
        refine (WriteString_any (w.heap.size + 1) (w.heap.size + 1) _ ns[0] _ hbl (by simp [interB]; omega) (by omega)).mono ?_
        rintro e w3 ⟨rfl, hb3, hB3⟩
        go_wp2
        go_roundw
        case rel => exact ⟨1, by omega, by go_num, by rw [hN2.out]; simpa [interB] using hb3, hBl.trans hB3⟩
        case measure => simp [intOf]; omega
    · obtain rfl : k = ns.length := by omega
      rw [List.take_length] at hbl hlen
      have bx := b0.below hBl (by simp)
      have x1 := bx.cell 1
      have x2 := bx.cell 2
      simp at x1 x2
      cases s
      · have HP := Lib.hid (putB_no false false ns (.inl rfl))
        go_wp2_with fail
        refine (builder_String (w.heap.size + 1) (w.heap.size + 1) _ _ hbl (by omega)).mono ?_
        rintro e w3 ⟨rfl, hB3⟩
        go_wp2
        go_ret
        exact ⟨ret_str (by rw [HP.out]; rfl), hW0.trans ((hBl.trans hB3).mono (by simp))⟩
      · by_cases hn : 0 < ns.length
        · have HP := Lib.hid (putB_yes false ns hn)
          go_wp2_with fail
          refine (WriteString_any (w.heap.size + 1) (w.heap.size + 1) _ [47] _ hbl (by simp; omega) (by omega)).mono ?_
          rintro e w2 ⟨rfl, hb2, hB2⟩
          have hs2 := hB2.size
          go_wp2_with fail
          refine (builder_String (w.heap.size + 1) (w.heap.size + 1) _ _ hb2 (by omega)).mono ?_
          rintro e w3 ⟨rfl, hB3⟩
          go_wp2
          go_ret
          exact ⟨ret_str (by rw [HP.out]; rfl), hW0.trans (((hBl.trans hB2).trans hB3).mono (by simp))⟩
        · have HP := Lib.hid (putB_no false true ns (.inr (List.eq_nil_of_length_eq_zero (by omega))))
          go_wp2_with fail
          refine (builder_String (w.heap.size + 1) (w.heap.size + 1) _ _ hbl (by omega)).mono ?_
          rintro e w3 ⟨rfl, hB3⟩
          go_wp2
          go_ret
          exact ⟨ret_str (by rw [HP.out]; rfl), hW0.trans ((hBl.trans hB3).mono (by simp))⟩

theorem Put_any (a s : Bool) (ns : List (List UInt8)) (v : Value) (w : World) (hv : Strs w v ns) (hl : ns.length ≤ 1000000) (hj : (interB ns).length ≤ 1000000) :
    Calls Tryd.prog 60 #[.agg (pathA a v s)] w fun e w' => e = .returned (.string ⟨(putB a ns s).toArray⟩) ∧ Below w.heap.size w w' := by
  cases a
  · exact Put_false s ns v w hv hl hj
  · exact Put_true s ns v w hv hl hj

theorem Join_any (ns : List (List UInt8)) (v : Value) (w : World) (hv : Strs w v ns) (hl : ns.length ≤ 1000000) (hj : (interB ns).length ≤ 1000000) :
    Calls Tryd.prog 48 #[v] w fun e w' => e = .returned (.string ⟨(joinB ns).toArray⟩) ∧ Below w.heap.size w w' := by
  have hv2 := hv
  obtain ⟨ad, ca, rfl, hm, HA0⟩ := hv
  clear HA0
  go_enter Tryd.func48, Tryd.ntmps48
  go_wp2_with fail; refine (Put_any true false ns _ _ hv2 hl hj).mono ?_; rintro e w' ⟨rfl, hB⟩
  go_wp2
  go_ret
  exact ⟨ret_str (joinB_put ns), hB⟩
end Go.Proofs.YtdplndmhnfalhaaDoor

/- Slots that rise; plans and undo plans told by their operations and their slots. No program's function. -/
set_option linter.unusedVariables false
set_option linter.unusedSimpArgs false
namespace Go.Proofs.YtdplndmhnfalhaaDoor
open Go.Lib

def riseL (a : Int) : List Int → Bool
  | [] => true
  | x :: t => decide (a < x) && riseL x t
def fallL (a : Int) : List Int → Bool
  | [] => true
  | x :: t => decide (x < a) && fallL x t
/-- Each is greater than the one ahead of it. -/
def adjB : List Int → Bool
  | [] => true
  | x :: t => riseL x t
theorem riseL_iff (L : List Int) : ∀ a, riseL a L = true ↔ ∀ j, j < L.length → (a :: L).getD j 0 < L.getD j 0 := by
  induction L with
  | nil => intro a; simp [riseL]
  | cons x t ih =>
    intro a
    rw [riseL, Bool.and_eq_true, decide_eq_true_eq, ih x]
    constructor
    · rintro ⟨h1, h2⟩ j hj
      cases j with
      | zero => exact h1
      | succ j => exact h2 j (by simp at hj; omega)
    · intro h
      exact ⟨h 0 (by simp), fun j hj => h (j + 1) (by simp; omega)⟩
theorem fallL_iff (L : List Int) : ∀ a, fallL a L = true ↔ ∀ j, j < L.length → L.getD j 0 < (a :: L).getD j 0 := by
  induction L with
  | nil => intro a; simp [fallL]
  | cons x t ih =>
    intro a
    rw [fallL, Bool.and_eq_true, decide_eq_true_eq, ih x]
    constructor
    · rintro ⟨h1, h2⟩ j hj
      cases j with
      | zero => exact h1
      | succ j => exact h2 j (by simp at hj; omega)
    · intro h
      exact ⟨h 0 (by simp), fun j hj => h (j + 1) (by simp; omega)⟩
theorem adjB_iff (L : List Int) : adjB L = true ↔ ∀ j, j + 1 < L.length → L.getD j 0 < L.getD (j + 1) 0 := by
  cases L with
  | nil => simp [adjB]
  | cons x t =>
    rw [adjB, riseL_iff]
    exact ⟨fun h j hj => h j (by simp at hj; omega), fun h j hj => h j (by simp; omega)⟩
theorem adjB_rev (L : List Int) : adjB L.reverse = true ↔ ∀ j, j + 1 < L.length → L.getD (j + 1) 0 < L.getD j 0 := by
  rw [adjB_iff, List.length_reverse]
  constructor
  · intro h j hj
    have := h (L.length - 2 - j) (by omega)
    rw [List.getD_eq_getElem?_getD, List.getD_eq_getElem?_getD, List.getElem?_reverse (by omega), List.getElem?_reverse (by omega)] at this
    rw [List.getD_eq_getElem?_getD, List.getD_eq_getElem?_getD]
    rw [show L.length - 1 - (L.length - 2 - j) = j + 1 by omega, show L.length - 1 - (L.length - 2 - j + 1) = j by omega] at this
    exact this
  · intro h j hj
    rw [List.getD_eq_getElem?_getD, List.getD_eq_getElem?_getD, List.getElem?_reverse (by omega), List.getElem?_reverse (by omega)]
    have := h (L.length - 1 - (j + 1)) (by omega)
    rw [List.getD_eq_getElem?_getD, List.getD_eq_getElem?_getD, show L.length - 1 - (j + 1) + 1 = L.length - 1 - j by omega] at this
    exact this
/-- None is less than the one ahead of it. -/
def sortB19 (L : List Int) : Bool := (List.range (L.length - 1)).all fun j => decide (L.getD j 0 ≤ L.getD (j + 1) 0)
theorem sortB19_iff (L : List Int) : sortB19 L = true ↔ ∀ j, j + 1 < L.length → L.getD j 0 ≤ L.getD (j + 1) 0 := by
  unfold sortB19
  rw [List.all_eq_true]
  constructor
  · intro h j hj; simpa using h j (List.mem_range.2 (by omega))
  · intro h j hj; simpa using h j (by have := List.mem_range.1 hj; omega)
theorem keeps_list19 (L : List Int) (j : Nat) (h : j + 1 < L.length) : keeps L.toArray (j + 1) = true ↔ L.getD (j + 1) 0 ≠ L.getD j 0 := by
  unfold keeps
  have e1 : (L.toArray)[j + 1]! = L.getD (j + 1) 0 := by
    rw [getElem!_pos L.toArray (j + 1) (by simpa using h), List.getD_eq_getElem?_getD, List.getElem?_eq_getElem h]; simp
  have e2 : (L.toArray)[j + 1 - 1]! = L.getD j 0 := by
    rw [Nat.add_sub_cancel, getElem!_pos L.toArray j (by simp; omega), List.getD_eq_getElem?_getD, List.getElem?_eq_getElem (show j < L.length by omega)]; simp
  rw [e1, e2]
  simp
theorem compact_len19 (L : List Int) : (compact L).length = L.length ↔ ∀ j, j + 1 < L.length → L.getD (j + 1) 0 ≠ L.getD j 0 := by
  constructor
  · intro h j hj
    unfold compact compactUpTo at h
    rw [List.length_map] at h
    have h2 : ((List.range L.length).filter (keeps L.toArray)).length = (List.range L.length).length := by rw [h, List.length_range]
    rw [List.length_filter_eq_length_iff] at h2
    exact (keeps_list19 L j hj).1 (h2 (j + 1) (List.mem_range.2 hj))
  · intro h
    rw [compact_all L (fun j hj => ?_)]
    cases j with
    | zero => exact keeps_lt_one _ 0 (by omega)
    | succ j => exact (keeps_list19 L j hj).2 (h j hj)
theorem rise_yes19 {L : List Int} (hs : sortB19 L = true) : adjB L = decide ((compact L).length = L.length) := by
  rw [sortB19_iff] at hs
  rw [Bool.eq_iff_iff, decide_eq_true_eq, adjB_iff, compact_len19]
  exact ⟨fun h j hj => by have := h j hj; omega, fun h j hj => by have := h j hj; have := hs j hj; omega⟩
theorem rise_no19 {L : List Int} (hs : sortB19 L = false) : adjB L = false := by
  rw [Bool.eq_false_iff]
  intro h
  rw [adjB_iff] at h
  have : sortB19 L = true := (sortB19_iff L).2 fun j hj => by have := h j hj; omega
  rw [this] at hs
  cases hs

theorem plan_parts19 (l : List OpV) : ∀ last, planB last l = ((l.all fun o => mayO o && decide (o.kind ≤ 7)) && riseL last (slotsO l)) := by
  induction l with
  | nil => intro _; rfl
  | cons o t ih =>
    intro last
    rw [planB, slotsO, List.all_cons]
    by_cases hs : slotK o.kind = true
    · rw [if_pos hs, if_pos hs, ih, List.singleton_append, riseL]
      generalize (mayO o && decide (o.kind ≤ 7)) = a
      generalize (t.all fun o => mayO o && decide (o.kind ≤ 7)) = b
      cases a <;> cases b <;> simp
    · rw [if_neg hs, if_neg hs, ih, List.nil_append]
      simp only [Bool.and_assoc]
theorem undo_parts19 (l : List OpV) : ∀ last, undoB last l = ((l.all fun o => mayO o && (decide (6 ≤ o.kind) && !(o.kind == 7))) && fallL last (slotsO l)) := by
  induction l with
  | nil => intro _; rfl
  | cons o t ih =>
    intro last
    rw [undoB, slotsO, List.all_cons]
    by_cases hs : slotK o.kind = true
    · rw [if_pos hs, if_pos hs, ih, List.singleton_append, fallL]
      generalize (mayO o && (decide (6 ≤ o.kind) && !(o.kind == 7))) = a
      generalize (t.all fun o => mayO o && (decide (6 ≤ o.kind) && !(o.kind == 7))) = b
      cases a <;> cases b <;> simp
    · rw [if_neg hs, if_neg hs, ih, List.nil_append]
      simp only [Bool.and_assoc]
theorem slots_from {l : List OpV} {x : Int} (h : x ∈ slotsO l) : ∃ o ∈ l, slotK o.kind = true ∧ o.slot = x := by
  induction l with
  | nil => cases h
  | cons o t ih =>
    rw [slotsO, List.mem_append] at h
    rcases h with h | h
    · by_cases hs : slotK o.kind = true
      · rw [if_pos hs, List.mem_singleton] at h
        exact ⟨o, by simp, hs, h.symm⟩
      · rw [if_neg hs] at h; cases h
    · obtain ⟨u, hu, h1, h2⟩ := ih h
      exact ⟨u, by simp [hu], h1, h2⟩
theorem may_kind {o : OpV} (h : mayO o = true) : 1 ≤ o.kind ∧ o.kind ≤ 10 := by
  unfold mayO at h
  simp only [Bool.and_eq_true, decide_eq_true_eq] at h
  exact h.1.1
/-- As the program asks it. -/
theorem plan_is19 (l : List OpV) : planO l = ((l.all fun o => decide (1 ≤ o.kind ∧ o.kind ≤ 7) && mayO o) && adjB (slotsO l)) := by
  unfold planO
  rw [plan_parts19, show (fun o : OpV => decide (1 ≤ o.kind ∧ o.kind ≤ 7) && mayO o) = fun o => mayO o && decide (o.kind ≤ 7) from funext fun o => by
    cases hm : mayO o
    · simp
    · have := may_kind hm
      rw [Bool.and_true, Bool.true_and]
      exact decide_eq_decide.2 (by omega)]
  cases ha : l.all fun o => mayO o && decide (o.kind ≤ 7)
  · rfl
  · rw [Bool.true_and, Bool.true_and]
    cases hS : slotsO l with
    | nil => rfl
    | cons x t =>
      obtain ⟨o, ho, hs, rfl⟩ := slots_from (l := l) (x := x) (by rw [hS]; simp)
      have hm := List.all_eq_true.1 ha o ho
      rw [Bool.and_eq_true] at hm
      have := may_slot hm.1 hs
      rw [riseL, adjB, decide_eq_true (by omega), Bool.true_and]
theorem undo_is19 (l : List OpV) : undoO l = ((l.all fun o => (o.kind == 6 || (o.kind == 8 || (o.kind == 9 || o.kind == 10))) && mayO o) && adjB (slotsO l).reverse) := by
  unfold undoO
  rw [undo_parts19, show (fun o : OpV => (o.kind == 6 || (o.kind == 8 || (o.kind == 9 || o.kind == 10))) && mayO o) = fun o => mayO o && (decide (6 ≤ o.kind) && !(o.kind == 7)) from funext fun o => by
    cases hm : mayO o
    · simp
    · have := may_kind hm
      rw [Bool.and_true, Bool.true_and, Bool.eq_iff_iff]
      simp only [Bool.or_eq_true, beq_iff_eq, Bool.and_eq_true, decide_eq_true_eq, Bool.not_eq_true', beq_eq_false_iff_ne]
      omega]
  cases ha : l.all fun o => mayO o && (decide (6 ≤ o.kind) && !(o.kind == 7))
  · rfl
  · rw [Bool.true_and, Bool.true_and, Bool.eq_iff_iff, fallL_iff, adjB_rev]
    constructor
    · intro h j hj
      exact h (j + 1) hj
    · intro h j hj
      cases j with
      | zero =>
        have hx : (slotsO l).getD 0 0 ∈ slotsO l := by
          rw [List.getD_eq_getElem?_getD, List.getElem?_eq_getElem hj]
          exact List.getElem_mem hj
        obtain ⟨o, ho, hs, he⟩ := slots_from hx
        have hm := List.all_eq_true.1 ha o ho
        rw [Bool.and_eq_true] at hm
        have := may_slot hm.1 hs
        rw [← he]
        show o.slot < 2147483648
        omega
      | succ j => exact h j hj
end Go.Proofs.YtdplndmhnfalhaaDoor
