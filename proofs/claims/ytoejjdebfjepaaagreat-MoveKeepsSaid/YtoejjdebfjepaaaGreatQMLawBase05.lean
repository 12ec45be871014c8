/- Texts put together: WalkD03, Builder, WalkE03, WalkC04, WalkD04, WalkF04, Sound14, Below14, Over14, Way14, Gone14, Pure10c, Pure14c, WalkH04, WalkG05, WalkH05, LawBase05. -/
import Derived.Test.YtoejjdebfjepaaaGreatQMWalkB03
import Derived.Test.YtoejjdebfjepaaaGreatQMList11
import Derived.Test.YtoejjdebfjepaaaGreatChecked
import Derived.Test.YtoejjdebfjepaaaGreatQMWalkB05
import Derived.Shelf.Strings.Builder1
import Derived.Lib.Builder
import Derived.Lib.AppendStr
import Derived.RangeFuncRecord
import Derived.Test.YtoejjdebfjepaaaGreatQMPure09
import Derived.Deep.LoopGhost
import Derived.Shelf.SlSortCmp.Kit1
import Derived.BigQuiet
import Derived.Laws.StructEq
import Derived.StillTailTactics
import Derived.Test.YtoejjdebfjepaaaGreatRows
import Derived.ProofKit
import Derived.OpenShut
import Derived.ShutString
import Derived.ChangeOld
import Derived.SizedLaws
import Derived.Deep.SlicePairs
import Derived.Lib.SmallJoins
set_option linter.unusedVariables false
set_option linter.unusedSimpArgs false
/- Walks: Read. -/
set_option linter.unusedVariables false
set_option linter.unusedSimpArgs false
namespace Go.Proofs.YtoejjdebfjepaaaGreat
open Go.RowKit Go.Shelf
attribute [local go_sem] Oper.semAt_some

theorem Tryz.infoS : (Tryz.prog.info? 9).map (fun i => (i.zero, i.size, i.bytes)) = some (some (.string ByteArray.empty), 1, 16) := by kernel_rfl
abbrev pathV (a : Bool) (v : Value) (s : Bool) : Array Value := #[.bool a, v, .bool s]

theorem endB_suffix (l : List UInt8) : Lib.hasSuffix l [47] = endB l := by
  unfold Lib.hasSuffix endB
  rw [Bool.eq_iff_iff, List.isSuffixOf_iff_suffix, beq_iff_eq]
  constructor
  · rintro ⟨r, rfl⟩; simp
  · intro h
    obtain ⟨ys, rfl⟩ := List.getLast?_eq_some_iff.1 h
    exact ⟨ys, rfl⟩
/-- The stores at the end: the field, then the whole result. -/
theorem four_set {W : World} {n D : Nat} {t e : TypeId} {cs : Array Value} {a s : Bool} {v : Value} {k : Nat} {xs : List Value} (hv : Blk W (n + 1) t cs) (hr : Blk W n t (pathV false (.slice none 0 0) false))
    (hrow : W.ownsRow n e 1 v k xs) (hte : t ≠ e) (hK : W.heap[D]? = some (.deferred (some []))) :
    ∃ W', W' = (((W.setCell ⟨n + 1, 2, none⟩ (.bool s)).setCell ⟨n, 0, none⟩ (.bool a)).setCell ⟨n, 1, none⟩ v).setCell ⟨n, 2, none⟩ (.bool s) ∧
      W'.heap[D]? = some (.deferred (some [])) ∧ Blk W' n t (pathV a v s) ∧ W'.ownsRow n e 1 v k xs ∧ Below n W W' := by
  refine ⟨_, rfl, ?_, ?_, ?_, ?_⟩
  · exact ((((KeepsOthers.setCell W _ _).trans (KeepsOthers.setCell _ _ _)).trans (KeepsOthers.setCell _ _ _)).trans (KeepsOthers.setCell _ _ _)).same D _ hK rfl
  · simpa [pathV] using (((hr.other (B2 := n + 1) (i := 2) (by omega) (.bool s)).set 0 (.bool a)).set 1 v).set 2 (.bool s)
  · have r1 := hrow.kept (grownBy_set W (n + 1) 2 (.bool s)) (.inr (hv.not_row hte hrow).symm)
    have q1 := hr.other (B2 := n + 1) (i := 2) (by omega) (.bool s)
    have r2 := r1.kept (grownBy_set _ n 0 (.bool a)) (.inr (q1.not_row hte r1).symm)
    have q2 := q1.set 0 (.bool a)
    have r3 := r2.kept (grownBy_set _ n 1 v) (.inr (q2.not_row hte r2).symm)
    have q3 := q2.set 1 v
    exact r3.kept (grownBy_set _ n 2 (.bool s)) (.inr (q3.not_row hte r3).symm)
  · exact ((((Below.refl n W).setCell (p := ⟨n + 1, 2, none⟩) (by simp) _).setCell (p := ⟨n, 0, none⟩) (Nat.le_refl _) _).setCell (p := ⟨n, 1, none⟩) (Nat.le_refl _) _).setCell (p := ⟨n, 2, none⟩) (Nat.le_refl _) _
theorem Blk.putObj {W : World} {B D : Nat} {t : TypeId} {cs : Array Value} (h : Blk W B t cs) {o : Obj} (o' : Obj) (hD : W.heap[D]? = some o) (ho : o.isCells = false) : Blk (W.putObj D o') B t cs :=
  h.kept (grownBy_putObj' W D o') (fun e => by
    obtain rfl : B = D := by simpa using e
    rw [show W.heap[B]? = _ from h] at hD; cases hD; cases ho)
set_option maxRecDepth 100000 in
set_option maxHeartbeats 4000000 in
theorem Read_any (p : List UInt8) (hp : p.length ≤ 1000000) (w : World) :
    Calls Tryz.prog 29 #[.string ⟨p.toArray⟩] w fun e w' => ∃ v, e = .returned (.agg (pathV (absB p) v (slashB p))) ∧ w'.ownsRow w.heap.size 9 1 v (namesB p).length (strsV (namesB p)) ∧ Below w.heap.size w w' := by
  obtain ⟨is, hsi, hs0, hs1, hs2⟩ := info_parts Tryz.infoS
  refine (callsIn_wide (n := 3)).1 ?_
  (refine callsIn_of_wp_marks Tryz.func29 rfl trivial ?_ rfl; simp only [Tryz.ntmps29, List.size_toArray, List.length_cons, List.length_nil, Nat.reduceAdd, Nat.reduceSub, Array.replicate_succ, Array.replicate_zero, List.push_toArray, List.append_toArray, List.nil_append, List.cons_append])
  gi_wp2_with fail
  refine ⟨trivial, ?_⟩
  gi_at_call 59
  refine (callsIn_wide.2 (absolute_any p _)).mono ?_
  rintro e w' ⟨rfl, rfl⟩
  gi_wp2_with fail
  refine ⟨trivial, ?_⟩
  gi_at_call 60
  refine (namesOf_in p _).mono ?_
  rintro e w' ⟨rfl, rfl⟩
  gi_wp2
  have b0 := Blk.new w 60 (pathV false (.slice none 0 0) false)
  have b1 := Blk.new (w.alloc (.cells (pathV false (.slice none 0 0) false) 60)) 60 (pathV (absB p) (.slice none 0 0) false)
  have b2 := Blk.new ((w.alloc (.cells (pathV false (.slice none 0 0) false) 60)).alloc (.cells (pathV (absB p) (.slice none 0 0) false) 60)) 9 #[.string ⟨p.toArray⟩]
  simp only [World.size_alloc] at b1 b2
  have hB0 : Below w.heap.size w (((w.alloc (.cells (pathV false (.slice none 0 0) false) 60)).alloc (.cells (pathV (absB p) (.slice none 0 0) false) 60)).alloc (.cells #[.string ⟨p.toArray⟩] 9)) := (((Below.refl _ w).alloc (Nat.le_refl _) _).alloc (by simp) _).alloc (by simp; omega) _
  refine wpIn_rangeFunc_ownG rfl (by omega) (gf := 84) (lb := #[.pointer (some ⟨w.heap.size + 1 + 1, 0, none⟩)]) rfl trivial (enters_of Tryz.func84 (by kernel_rfl) rfl)
    (names_stops (w.heap.size + 1 + 1) p hp _ (by simp) (b2.cell 0)) (fun _ _ => trivial) (fun _ _ _ _ _ _ _ _ => trivial) (Below.refl _ _) (fun _ => rfl)
    (fun pre W => ((∃ v, Blk W (w.heap.size + 1) 60 (pathV (absB p) v false) ∧ W.ownsRow w.heap.size 9 1 v pre.length (strsV (pre.map (·.1)))) ∧ Blk W w.heap.size 60 (pathV false (.slice none 0 0) false)) ∧ Below w.heap.size w W)
    (fun _ _ _ => False)
    (OwnFrom.and (Own.from (fun s A B row hs hg hr => ⟨blkRow_own (β := List Txt) w.heap.size (w.heap.size + 1) 60 9 1 (fun pre => pre.length) (fun pre => strsV (pre.map (·.1))) (fun v => pathV (absB p) v false) s A B row hs.1 hg hr, blk_own (β := Unit) _ _ (fun _ => pathV false (.slice none 0 0) false) () A B row hs.2 hg hr⟩) _) (ownFrom_below (Nat.le_refl _) (by simp; omega)))
    (fun _ _ _ _ _ hs _ _ => hs)
    ⟨⟨⟨_, b1.alloc _, World.ownsRow_nil _ _ _ _⟩, (b0.alloc _).alloc _⟩, hB0⟩
    (fun x => { tmps := #[.string ⟨p.toArray⟩, undef, .pointer (some ⟨w.heap.size, 0, none⟩), .pointer (some ⟨w.heap.size + 1, 0, none⟩), .string ⟨x.1.toArray⟩, .string ⟨p.toArray⟩, .bool (absB p), .agg (pathV (absB p) (.slice none 0 0) false), .string ⟨p.toArray⟩,
      .func (.func 84) #[] #[.pointer (some ⟨w.heap.size + 1 + 1, 0, none⟩)], .string ⟨x.1.toArray⟩, undef, undef, undef, undef, undef, undef, undef, undef, undef, undef, undef, undef, undef, undef, undef, undef, undef], defers := [] }) ?assign ?body ?done ?stop
  case assign =>
    intro l x W K hK
    gi_wp2
    exact hK
  case body =>
    rintro l pre x W ⟨⟨⟨v, hv, hrow⟩, hr0⟩, hB⟩ hlen
    have hmx : Tryz.prog.follows .mixedOrders = true := by kernel_rfl
    gi_wp2
    refine wpIn_region_any hmx ?_
    try (change wpAnyIn _ _ _ _ _ _ _ _ _ (World.drew _))
    have hB1 : Below w.heap.size w W.drew := hB.drew
    have hv1 : Blk W.drew (w.heap.size + 1) 60 (pathV (absB p) v false) := hv
    have hr1 : Blk W.drew w.heap.size 60 (pathV false (.slice none 0 0) false) := hr0
    have hrow1 : W.drew.ownsRow w.heap.size 9 1 v pre.length (strsV (pre.map (·.1))) := hrow
    have hkeep : KeepsOthers W W.drew := KeepsOthers.drew _
    generalize W.drew = Wd at *
    clear hv hrow hr0 hB
    have hc := hv1.cell 1
    simp [pathV] at hc
    -- THE ORDERS
    refine wpAnyIn_ready (rs := [0, 2]) (by kernel_rfl) (by simp) ?_
    refine AllReadyIn.cons rfl (fun K hK => ?_) ?_
    · go_simp
      refine hK _ _ ?_
      clear hK K
      refine wpAnyIn_ready (rs := [1, 2]) (by kernel_rfl) (by simp) ?_
      refine AllReadyIn.cons rfl (fun K hK => ?_) ?_
      · go_simp
        refine hK _ _ ?_
        clear hK K
        refine wpAnyIn_ready (rs := [2]) (by kernel_rfl) (by simp) ?_
        refine AllReadyIn.cons rfl (fun K hK => ?_) ?_
        · go_simp
          refine hK _ _ ?_
          clear hK K
          refine wpAnyIn_ready (rs := [3]) (by kernel_rfl) (by simp) ?_
          refine AllReadyIn.cons rfl (fun K hK => ?_) ?_
          · go_simp
            gi_wp2_with (refine ⟨trivial, ?_⟩; gi_at_call 61; refine (CallsIn.inRound l (callsIn_wide.2 (Clone_any x.1 _ (Nat.le_trans x.2 (by decide))))).mono ?_; rintro e w2 ⟨rfl, hC⟩; have hc2 : w2.cell? ⟨w.heap.size + 1, 1, none⟩ = some v := (hC.cell (p := ⟨w.heap.size + 1, 1, none⟩) hv1.lt).trans hc; have hc4 : ∀ o, (w2.alloc o).cell? ⟨w.heap.size + 1, 1, none⟩ = some v := fun o => ((hv1.next hC).alloc o).cell 1; have hrow2 := own_keep hrow1 hC)
            refine wpAnyIn_ready (rs := [4]) (by kernel_rfl) (by simp) ?_
            refine AllReadyIn.cons rfl (fun K hK => ?_) ?_
            · go_simp
              refine hK _ _ ?_
              clear hK K
              refine wpAnyIn_ready (rs := [5]) (by kernel_rfl) (by simp) ?_
              refine AllReadyIn.cons rfl (fun K hK => ?_) ?_
              · refine stepIn_append_own rfl (.tmp 12) (.tmp 15) 46 9 rfl Tryz.underlying46 hsi hs0 hs1 hs2 rfl (by decide) w.heap.size ⟨w2.heap.size, 0, none⟩ 1 [.string ⟨x.1.toArray⟩] rfl rfl (hrow2.alloc _) rfl (cell_one_new _ _ _) (by simp [Value.oneCell']) (by unfold maxLen; omega) (by omega) (by have := hC.size; have := hB1.size; simp; omega) ?_
                intro v' w1 hown' hgrow
                have hr2 := (((hr1.next hC).alloc _).kept hgrow ((hr1.next hC).not_row (by decide) hrow2)).other (B2 := w.heap.size + 1) (i := 1) (by omega) v'
                obtain ⟨g', cap', rfl⟩ := ownsRow_succ hown'
                obtain ⟨h1, h2, h3, h4, h5⟩ := hv1.appended (i := 1) (by decide) hrow1 hB1.size (by omega) hC hown' hgrow
                have hc3 := h1.cell 1
                have hf3 := h1.frozen 1
                simp [pathV] at hc3
                refine hK _ _ ?_
                clear hK K
                refine wpAnyIn_ready (rs := [6]) (by kernel_rfl) (by simp) ?_
                refine AllReadyIn.cons rfl (fun K hK => ?_) ?_
                · go_simp
                  refine hK _ _ ?_
                  clear hK K
                  refine wpAnyIn_ready (rs := [7]) (by kernel_rfl) (by simp) ?_
                  refine AllReadyIn.cons rfl (fun K hK => ?_) ?_
                  · go_simp
                    refine hK _ _ ?_
                    clear hK K
                    refine wpAnyIn_done (by kernel_rfl) ?_ _
                    exact ⟨(hkeep.trans h4).from _, trivial, ⟨⟨_, by simpa [pathV] using h2, by simpa [strsV] using h3⟩, hr2⟩, hB1.trans h5⟩
                  exact AllReadyIn.nil
                exact AllReadyIn.nil
              exact AllReadyIn.nil
            exact AllReadyIn.nil
          exact AllReadyIn.nil
        exact AllReadyIn.nil
      refine AllReadyIn.cons rfl (fun K hK => ?_) ?_
      · go_simp
        refine hK _ _ ?_
        clear hK K
        refine wpAnyIn_ready (rs := [1, 3]) (by kernel_rfl) (by simp) ?_
        refine AllReadyIn.cons rfl (fun K hK => ?_) ?_
        · go_simp
          refine hK _ _ ?_
          clear hK K
          refine wpAnyIn_ready (rs := [3]) (by kernel_rfl) (by simp) ?_
          refine AllReadyIn.cons rfl (fun K hK => ?_) ?_
          · go_simp
            gi_wp2_with (refine ⟨trivial, ?_⟩; gi_at_call 61; refine (CallsIn.inRound l (callsIn_wide.2 (Clone_any x.1 _ (Nat.le_trans x.2 (by decide))))).mono ?_; rintro e w2 ⟨rfl, hC⟩; have hc2 : w2.cell? ⟨w.heap.size + 1, 1, none⟩ = some v := (hC.cell (p := ⟨w.heap.size + 1, 1, none⟩) hv1.lt).trans hc; have hc4 : ∀ o, (w2.alloc o).cell? ⟨w.heap.size + 1, 1, none⟩ = some v := fun o => ((hv1.next hC).alloc o).cell 1; have hrow2 := own_keep hrow1 hC)
            refine wpAnyIn_ready (rs := [4]) (by kernel_rfl) (by simp) ?_
            refine AllReadyIn.cons rfl (fun K hK => ?_) ?_
            · go_simp
              refine hK _ _ ?_
              clear hK K
              refine wpAnyIn_ready (rs := [5]) (by kernel_rfl) (by simp) ?_
              refine AllReadyIn.cons rfl (fun K hK => ?_) ?_
              · refine stepIn_append_own rfl (.tmp 12) (.tmp 15) 46 9 rfl Tryz.underlying46 hsi hs0 hs1 hs2 rfl (by decide) w.heap.size ⟨w2.heap.size, 0, none⟩ 1 [.string ⟨x.1.toArray⟩] rfl rfl (hrow2.alloc _) rfl (cell_one_new _ _ _) (by simp [Value.oneCell']) (by unfold maxLen; omega) (by omega) (by have := hC.size; have := hB1.size; simp; omega) ?_
                intro v' w1 hown' hgrow
                have hr2 := (((hr1.next hC).alloc _).kept hgrow ((hr1.next hC).not_row (by decide) hrow2)).other (B2 := w.heap.size + 1) (i := 1) (by omega) v'
                obtain ⟨g', cap', rfl⟩ := ownsRow_succ hown'
                obtain ⟨h1, h2, h3, h4, h5⟩ := hv1.appended (i := 1) (by decide) hrow1 hB1.size (by omega) hC hown' hgrow
                have hc3 := h1.cell 1
                have hf3 := h1.frozen 1
                simp [pathV] at hc3
                refine hK _ _ ?_
                clear hK K
                refine wpAnyIn_ready (rs := [6]) (by kernel_rfl) (by simp) ?_
                refine AllReadyIn.cons rfl (fun K hK => ?_) ?_
                · go_simp
                  refine hK _ _ ?_
                  clear hK K
                  refine wpAnyIn_ready (rs := [7]) (by kernel_rfl) (by simp) ?_
                  refine AllReadyIn.cons rfl (fun K hK => ?_) ?_
                  · go_simp
                    refine hK _ _ ?_
                    clear hK K
                    refine wpAnyIn_done (by kernel_rfl) ?_ _
                    exact ⟨(hkeep.trans h4).from _, trivial, ⟨⟨_, by simpa [pathV] using h2, by simpa [strsV] using h3⟩, hr2⟩, hB1.trans h5⟩
                  exact AllReadyIn.nil
                exact AllReadyIn.nil
              exact AllReadyIn.nil
            exact AllReadyIn.nil
          exact AllReadyIn.nil
        refine AllReadyIn.cons rfl (fun K hK => ?_) ?_
        · go_simp
          gi_wp2_with (refine ⟨trivial, ?_⟩; gi_at_call 61; refine (CallsIn.inRound l (callsIn_wide.2 (Clone_any x.1 _ (Nat.le_trans x.2 (by decide))))).mono ?_; rintro e w2 ⟨rfl, hC⟩; have hc2 : w2.cell? ⟨w.heap.size + 1, 1, none⟩ = some v := (hC.cell (p := ⟨w.heap.size + 1, 1, none⟩) hv1.lt).trans hc; have hc4 : ∀ o, (w2.alloc o).cell? ⟨w.heap.size + 1, 1, none⟩ = some v := fun o => ((hv1.next hC).alloc o).cell 1; have hrow2 := own_keep hrow1 hC)
          refine wpAnyIn_ready (rs := [1, 4]) (by kernel_rfl) (by simp) ?_
          refine AllReadyIn.cons rfl (fun K hK => ?_) ?_
          · go_simp
            refine hK _ _ ?_
            clear hK K
            refine wpAnyIn_ready (rs := [4]) (by kernel_rfl) (by simp) ?_
            refine AllReadyIn.cons rfl (fun K hK => ?_) ?_
            · go_simp
              refine hK _ _ ?_
              clear hK K
              refine wpAnyIn_ready (rs := [5]) (by kernel_rfl) (by simp) ?_
              refine AllReadyIn.cons rfl (fun K hK => ?_) ?_
              · refine stepIn_append_own rfl (.tmp 12) (.tmp 15) 46 9 rfl Tryz.underlying46 hsi hs0 hs1 hs2 rfl (by decide) w.heap.size ⟨w2.heap.size, 0, none⟩ 1 [.string ⟨x.1.toArray⟩] rfl rfl (hrow2.alloc _) rfl (cell_one_new _ _ _) (by simp [Value.oneCell']) (by unfold maxLen; omega) (by omega) (by have := hC.size; have := hB1.size; simp; omega) ?_
                intro v' w1 hown' hgrow
                have hr2 := (((hr1.next hC).alloc _).kept hgrow ((hr1.next hC).not_row (by decide) hrow2)).other (B2 := w.heap.size + 1) (i := 1) (by omega) v'
                obtain ⟨g', cap', rfl⟩ := ownsRow_succ hown'
                obtain ⟨h1, h2, h3, h4, h5⟩ := hv1.appended (i := 1) (by decide) hrow1 hB1.size (by omega) hC hown' hgrow
                have hc3 := h1.cell 1
                have hf3 := h1.frozen 1
                simp [pathV] at hc3
                refine hK _ _ ?_
                clear hK K
                refine wpAnyIn_ready (rs := [6]) (by kernel_rfl) (by simp) ?_
                refine AllReadyIn.cons rfl (fun K hK => ?_) ?_
                · go_simp
                  refine hK _ _ ?_
                  clear hK K
                  refine wpAnyIn_ready (rs := [7]) (by kernel_rfl) (by simp) ?_
                  refine AllReadyIn.cons rfl (fun K hK => ?_) ?_
                  · go_simp
                    refine hK _ _ ?_
                    clear hK K
                    refine wpAnyIn_done (by kernel_rfl) ?_ _
                    exact ⟨(hkeep.trans h4).from _, trivial, ⟨⟨_, by simpa [pathV] using h2, by simpa [strsV] using h3⟩, hr2⟩, hB1.trans h5⟩
                  exact AllReadyIn.nil
                exact AllReadyIn.nil
              exact AllReadyIn.nil
            exact AllReadyIn.nil
          refine AllReadyIn.cons rfl (fun K hK => ?_) ?_
          · go_simp
            refine hK _ _ ?_
            clear hK K
            refine wpAnyIn_ready (rs := [1]) (by kernel_rfl) (by simp) ?_
            refine AllReadyIn.cons rfl (fun K hK => ?_) ?_
            · go_simp
              refine hK _ _ ?_
              clear hK K
              refine wpAnyIn_ready (rs := [5]) (by kernel_rfl) (by simp) ?_
              refine AllReadyIn.cons rfl (fun K hK => ?_) ?_
              · refine stepIn_append_own rfl (.tmp 12) (.tmp 15) 46 9 rfl Tryz.underlying46 hsi hs0 hs1 hs2 rfl (by decide) w.heap.size ⟨w2.heap.size, 0, none⟩ 1 [.string ⟨x.1.toArray⟩] rfl rfl (hrow2.alloc _) rfl (cell_one_new _ _ _) (by simp [Value.oneCell']) (by unfold maxLen; omega) (by omega) (by have := hC.size; have := hB1.size; simp; omega) ?_
                intro v' w1 hown' hgrow
                have hr2 := (((hr1.next hC).alloc _).kept hgrow ((hr1.next hC).not_row (by decide) hrow2)).other (B2 := w.heap.size + 1) (i := 1) (by omega) v'
                obtain ⟨g', cap', rfl⟩ := ownsRow_succ hown'
                obtain ⟨h1, h2, h3, h4, h5⟩ := hv1.appended (i := 1) (by decide) hrow1 hB1.size (by omega) hC hown' hgrow
                have hc3 := h1.cell 1
                have hf3 := h1.frozen 1
                simp [pathV] at hc3
                refine hK _ _ ?_
                clear hK K
                refine wpAnyIn_ready (rs := [6]) (by kernel_rfl) (by simp) ?_
                refine AllReadyIn.cons rfl (fun K hK => ?_) ?_
                · go_simp
                  refine hK _ _ ?_
                  clear hK K
                  refine wpAnyIn_ready (rs := [7]) (by kernel_rfl) (by simp) ?_
                  refine AllReadyIn.cons rfl (fun K hK => ?_) ?_
                  · go_simp
                    refine hK _ _ ?_
                    clear hK K
                    refine wpAnyIn_done (by kernel_rfl) ?_ _
                    exact ⟨(hkeep.trans h4).from _, trivial, ⟨⟨_, by simpa [pathV] using h2, by simpa [strsV] using h3⟩, hr2⟩, hB1.trans h5⟩
                  exact AllReadyIn.nil
                exact AllReadyIn.nil
              exact AllReadyIn.nil
            exact AllReadyIn.nil
          exact AllReadyIn.nil
        exact AllReadyIn.nil
      exact AllReadyIn.nil
    refine AllReadyIn.cons rfl (fun K hK => ?_) ?_
    · go_simp
      refine hK _ _ ?_
      clear hK K
      refine wpAnyIn_ready (rs := [0, 3]) (by kernel_rfl) (by simp) ?_
      refine AllReadyIn.cons rfl (fun K hK => ?_) ?_
      · go_simp
        refine hK _ _ ?_
        clear hK K
        refine wpAnyIn_ready (rs := [1, 3]) (by kernel_rfl) (by simp) ?_
        refine AllReadyIn.cons rfl (fun K hK => ?_) ?_
        · go_simp
          refine hK _ _ ?_
          clear hK K
          refine wpAnyIn_ready (rs := [3]) (by kernel_rfl) (by simp) ?_
          refine AllReadyIn.cons rfl (fun K hK => ?_) ?_
          · go_simp
            gi_wp2_with (refine ⟨trivial, ?_⟩; gi_at_call 61; refine (CallsIn.inRound l (callsIn_wide.2 (Clone_any x.1 _ (Nat.le_trans x.2 (by decide))))).mono ?_; rintro e w2 ⟨rfl, hC⟩; have hc2 : w2.cell? ⟨w.heap.size + 1, 1, none⟩ = some v := (hC.cell (p := ⟨w.heap.size + 1, 1, none⟩) hv1.lt).trans hc; have hc4 : ∀ o, (w2.alloc o).cell? ⟨w.heap.size + 1, 1, none⟩ = some v := fun o => ((hv1.next hC).alloc o).cell 1; have hrow2 := own_keep hrow1 hC)
            refine wpAnyIn_ready (rs := [4]) (by kernel_rfl) (by simp) ?_
            refine AllReadyIn.cons rfl (fun K hK => ?_) ?_
            · go_simp
              refine hK _ _ ?_
              clear hK K
              refine wpAnyIn_ready (rs := [5]) (by kernel_rfl) (by simp) ?_
              refine AllReadyIn.cons rfl (fun K hK => ?_) ?_
              · refine stepIn_append_own rfl (.tmp 12) (.tmp 15) 46 9 rfl Tryz.underlying46 hsi hs0 hs1 hs2 rfl (by decide) w.heap.size ⟨w2.heap.size, 0, none⟩ 1 [.string ⟨x.1.toArray⟩] rfl rfl (hrow2.alloc _) rfl (cell_one_new _ _ _) (by simp [Value.oneCell']) (by unfold maxLen; omega) (by omega) (by have := hC.size; have := hB1.size; simp; omega) ?_
                intro v' w1 hown' hgrow
                have hr2 := (((hr1.next hC).alloc _).kept hgrow ((hr1.next hC).not_row (by decide) hrow2)).other (B2 := w.heap.size + 1) (i := 1) (by omega) v'
                obtain ⟨g', cap', rfl⟩ := ownsRow_succ hown'
                obtain ⟨h1, h2, h3, h4, h5⟩ := hv1.appended (i := 1) (by decide) hrow1 hB1.size (by omega) hC hown' hgrow
                have hc3 := h1.cell 1
                have hf3 := h1.frozen 1
                simp [pathV] at hc3
                refine hK _ _ ?_
                clear hK K
                refine wpAnyIn_ready (rs := [6]) (by kernel_rfl) (by simp) ?_
                refine AllReadyIn.cons rfl (fun K hK => ?_) ?_
                · go_simp
                  refine hK _ _ ?_
                  clear hK K
                  refine wpAnyIn_ready (rs := [7]) (by kernel_rfl) (by simp) ?_
                  refine AllReadyIn.cons rfl (fun K hK => ?_) ?_
                  · go_simp
                    refine hK _ _ ?_
                    clear hK K
                    refine wpAnyIn_done (by kernel_rfl) ?_ _
                    exact ⟨(hkeep.trans h4).from _, trivial, ⟨⟨_, by simpa [pathV] using h2, by simpa [strsV] using h3⟩, hr2⟩, hB1.trans h5⟩
                  exact AllReadyIn.nil
                exact AllReadyIn.nil
              exact AllReadyIn.nil
            exact AllReadyIn.nil
          exact AllReadyIn.nil
        refine AllReadyIn.cons rfl (fun K hK => ?_) ?_
        · go_simp
          gi_wp2_with (refine ⟨trivial, ?_⟩; gi_at_call 61; refine (CallsIn.inRound l (callsIn_wide.2 (Clone_any x.1 _ (Nat.le_trans x.2 (by decide))))).mono ?_; rintro e w2 ⟨rfl, hC⟩; have hc2 : w2.cell? ⟨w.heap.size + 1, 1, none⟩ = some v := (hC.cell (p := ⟨w.heap.size + 1, 1, none⟩) hv1.lt).trans hc; have hc4 : ∀ o, (w2.alloc o).cell? ⟨w.heap.size + 1, 1, none⟩ = some v := fun o => ((hv1.next hC).alloc o).cell 1; have hrow2 := own_keep hrow1 hC)
          refine wpAnyIn_ready (rs := [1, 4]) (by kernel_rfl) (by simp) ?_
          refine AllReadyIn.cons rfl (fun K hK => ?_) ?_
          · go_simp
            refine hK _ _ ?_
            clear hK K
            refine wpAnyIn_ready (rs := [4]) (by kernel_rfl) (by simp) ?_
            refine AllReadyIn.cons rfl (fun K hK => ?_) ?_
            · go_simp
              refine hK _ _ ?_
              clear hK K
              refine wpAnyIn_ready (rs := [5]) (by kernel_rfl) (by simp) ?_
              refine AllReadyIn.cons rfl (fun K hK => ?_) ?_
              · refine stepIn_append_own rfl (.tmp 12) (.tmp 15) 46 9 rfl Tryz.underlying46 hsi hs0 hs1 hs2 rfl (by decide) w.heap.size ⟨w2.heap.size, 0, none⟩ 1 [.string ⟨x.1.toArray⟩] rfl rfl (hrow2.alloc _) rfl (cell_one_new _ _ _) (by simp [Value.oneCell']) (by unfold maxLen; omega) (by omega) (by have := hC.size; have := hB1.size; simp; omega) ?_
                intro v' w1 hown' hgrow
                have hr2 := (((hr1.next hC).alloc _).kept hgrow ((hr1.next hC).not_row (by decide) hrow2)).other (B2 := w.heap.size + 1) (i := 1) (by omega) v'
                obtain ⟨g', cap', rfl⟩ := ownsRow_succ hown'
                obtain ⟨h1, h2, h3, h4, h5⟩ := hv1.appended (i := 1) (by decide) hrow1 hB1.size (by omega) hC hown' hgrow
                have hc3 := h1.cell 1
                have hf3 := h1.frozen 1
                simp [pathV] at hc3
                refine hK _ _ ?_
                clear hK K
                refine wpAnyIn_ready (rs := [6]) (by kernel_rfl) (by simp) ?_
                refine AllReadyIn.cons rfl (fun K hK => ?_) ?_
                · go_simp
                  refine hK _ _ ?_
                  clear hK K
                  refine wpAnyIn_ready (rs := [7]) (by kernel_rfl) (by simp) ?_
                  refine AllReadyIn.cons rfl (fun K hK => ?_) ?_
                  · go_simp
                    refine hK _ _ ?_
                    clear hK K
                    refine wpAnyIn_done (by kernel_rfl) ?_ _
                    exact ⟨(hkeep.trans h4).from _, trivial, ⟨⟨_, by simpa [pathV] using h2, by simpa [strsV] using h3⟩, hr2⟩, hB1.trans h5⟩
                  exact AllReadyIn.nil
                exact AllReadyIn.nil
              exact AllReadyIn.nil
            exact AllReadyIn.nil
          refine AllReadyIn.cons rfl (fun K hK => ?_) ?_
          · go_simp
            refine hK _ _ ?_
            clear hK K
            refine wpAnyIn_ready (rs := [1]) (by kernel_rfl) (by simp) ?_
            refine AllReadyIn.cons rfl (fun K hK => ?_) ?_
            · go_simp
              refine hK _ _ ?_
              clear hK K
              refine wpAnyIn_ready (rs := [5]) (by kernel_rfl) (by simp) ?_
              refine AllReadyIn.cons rfl (fun K hK => ?_) ?_
              · refine stepIn_append_own rfl (.tmp 12) (.tmp 15) 46 9 rfl Tryz.underlying46 hsi hs0 hs1 hs2 rfl (by decide) w.heap.size ⟨w2.heap.size, 0, none⟩ 1 [.string ⟨x.1.toArray⟩] rfl rfl (hrow2.alloc _) rfl (cell_one_new _ _ _) (by simp [Value.oneCell']) (by unfold maxLen; omega) (by omega) (by have := hC.size; have := hB1.size; simp; omega) ?_
                intro v' w1 hown' hgrow
                have hr2 := (((hr1.next hC).alloc _).kept hgrow ((hr1.next hC).not_row (by decide) hrow2)).other (B2 := w.heap.size + 1) (i := 1) (by omega) v'
                obtain ⟨g', cap', rfl⟩ := ownsRow_succ hown'
                obtain ⟨h1, h2, h3, h4, h5⟩ := hv1.appended (i := 1) (by decide) hrow1 hB1.size (by omega) hC hown' hgrow
                have hc3 := h1.cell 1
                have hf3 := h1.frozen 1
                simp [pathV] at hc3
                refine hK _ _ ?_
                clear hK K
                refine wpAnyIn_ready (rs := [6]) (by kernel_rfl) (by simp) ?_
                refine AllReadyIn.cons rfl (fun K hK => ?_) ?_
                · go_simp
                  refine hK _ _ ?_
                  clear hK K
                  refine wpAnyIn_ready (rs := [7]) (by kernel_rfl) (by simp) ?_
                  refine AllReadyIn.cons rfl (fun K hK => ?_) ?_
                  · go_simp
                    refine hK _ _ ?_
                    clear hK K
                    refine wpAnyIn_done (by kernel_rfl) ?_ _
                    exact ⟨(hkeep.trans h4).from _, trivial, ⟨⟨_, by simpa [pathV] using h2, by simpa [strsV] using h3⟩, hr2⟩, hB1.trans h5⟩
                  exact AllReadyIn.nil
                exact AllReadyIn.nil
              exact AllReadyIn.nil
            exact AllReadyIn.nil
          exact AllReadyIn.nil
        exact AllReadyIn.nil
      refine AllReadyIn.cons rfl (fun K hK => ?_) ?_
      · go_simp
        gi_wp2_with (refine ⟨trivial, ?_⟩; gi_at_call 61; refine (CallsIn.inRound l (callsIn_wide.2 (Clone_any x.1 _ (Nat.le_trans x.2 (by decide))))).mono ?_; rintro e w2 ⟨rfl, hC⟩; have hc2 : w2.cell? ⟨w.heap.size + 1, 1, none⟩ = some v := (hC.cell (p := ⟨w.heap.size + 1, 1, none⟩) hv1.lt).trans hc; have hc4 : ∀ o, (w2.alloc o).cell? ⟨w.heap.size + 1, 1, none⟩ = some v := fun o => ((hv1.next hC).alloc o).cell 1; have hrow2 := own_keep hrow1 hC)
        refine wpAnyIn_ready (rs := [0, 4]) (by kernel_rfl) (by simp) ?_
        refine AllReadyIn.cons rfl (fun K hK => ?_) ?_
        · go_simp
          refine hK _ _ ?_
          clear hK K
          refine wpAnyIn_ready (rs := [1, 4]) (by kernel_rfl) (by simp) ?_
          refine AllReadyIn.cons rfl (fun K hK => ?_) ?_
          · go_simp
            refine hK _ _ ?_
            clear hK K
            refine wpAnyIn_ready (rs := [4]) (by kernel_rfl) (by simp) ?_
            refine AllReadyIn.cons rfl (fun K hK => ?_) ?_
            · go_simp
              refine hK _ _ ?_
              clear hK K
              refine wpAnyIn_ready (rs := [5]) (by kernel_rfl) (by simp) ?_
              refine AllReadyIn.cons rfl (fun K hK => ?_) ?_
              · refine stepIn_append_own rfl (.tmp 12) (.tmp 15) 46 9 rfl Tryz.underlying46 hsi hs0 hs1 hs2 rfl (by decide) w.heap.size ⟨w2.heap.size, 0, none⟩ 1 [.string ⟨x.1.toArray⟩] rfl rfl (hrow2.alloc _) rfl (cell_one_new _ _ _) (by simp [Value.oneCell']) (by unfold maxLen; omega) (by omega) (by have := hC.size; have := hB1.size; simp; omega) ?_
                intro v' w1 hown' hgrow
                have hr2 := (((hr1.next hC).alloc _).kept hgrow ((hr1.next hC).not_row (by decide) hrow2)).other (B2 := w.heap.size + 1) (i := 1) (by omega) v'
                obtain ⟨g', cap', rfl⟩ := ownsRow_succ hown'
                obtain ⟨h1, h2, h3, h4, h5⟩ := hv1.appended (i := 1) (by decide) hrow1 hB1.size (by omega) hC hown' hgrow
                have hc3 := h1.cell 1
                have hf3 := h1.frozen 1
                simp [pathV] at hc3
                refine hK _ _ ?_
                clear hK K
                refine wpAnyIn_ready (rs := [6]) (by kernel_rfl) (by simp) ?_
                refine AllReadyIn.cons rfl (fun K hK => ?_) ?_
                · go_simp
                  refine hK _ _ ?_
                  clear hK K
                  refine wpAnyIn_ready (rs := [7]) (by kernel_rfl) (by simp) ?_
                  refine AllReadyIn.cons rfl (fun K hK => ?_) ?_
                  · go_simp
                    refine hK _ _ ?_
                    clear hK K
                    refine wpAnyIn_done (by kernel_rfl) ?_ _
                    exact ⟨(hkeep.trans h4).from _, trivial, ⟨⟨_, by simpa [pathV] using h2, by simpa [strsV] using h3⟩, hr2⟩, hB1.trans h5⟩
                  exact AllReadyIn.nil
                exact AllReadyIn.nil
              exact AllReadyIn.nil
            exact AllReadyIn.nil
          refine AllReadyIn.cons rfl (fun K hK => ?_) ?_
          · go_simp
            refine hK _ _ ?_
            clear hK K
            refine wpAnyIn_ready (rs := [1]) (by kernel_rfl) (by simp) ?_
            refine AllReadyIn.cons rfl (fun K hK => ?_) ?_
            · go_simp
              refine hK _ _ ?_
              clear hK K
              refine wpAnyIn_ready (rs := [5]) (by kernel_rfl) (by simp) ?_
              refine AllReadyIn.cons rfl (fun K hK => ?_) ?_
              · refine stepIn_append_own rfl (.tmp 12) (.tmp 15) 46 9 rfl Tryz.underlying46 hsi hs0 hs1 hs2 rfl (by decide) w.heap.size ⟨w2.heap.size, 0, none⟩ 1 [.string ⟨x.1.toArray⟩] rfl rfl (hrow2.alloc _) rfl (cell_one_new _ _ _) (by simp [Value.oneCell']) (by unfold maxLen; omega) (by omega) (by have := hC.size; have := hB1.size; simp; omega) ?_
                intro v' w1 hown' hgrow
                have hr2 := (((hr1.next hC).alloc _).kept hgrow ((hr1.next hC).not_row (by decide) hrow2)).other (B2 := w.heap.size + 1) (i := 1) (by omega) v'
                obtain ⟨g', cap', rfl⟩ := ownsRow_succ hown'
                obtain ⟨h1, h2, h3, h4, h5⟩ := hv1.appended (i := 1) (by decide) hrow1 hB1.size (by omega) hC hown' hgrow
                have hc3 := h1.cell 1
                have hf3 := h1.frozen 1
                simp [pathV] at hc3
                refine hK _ _ ?_
                clear hK K
                refine wpAnyIn_ready (rs := [6]) (by kernel_rfl) (by simp) ?_
                refine AllReadyIn.cons rfl (fun K hK => ?_) ?_
                · go_simp
                  refine hK _ _ ?_
                  clear hK K
                  refine wpAnyIn_ready (rs := [7]) (by kernel_rfl) (by simp) ?_
                  refine AllReadyIn.cons rfl (fun K hK => ?_) ?_
                  · go_simp
                    refine hK _ _ ?_
                    clear hK K
                    refine wpAnyIn_done (by kernel_rfl) ?_ _
                    exact ⟨(hkeep.trans h4).from _, trivial, ⟨⟨_, by simpa [pathV] using h2, by simpa [strsV] using h3⟩, hr2⟩, hB1.trans h5⟩
                  exact AllReadyIn.nil
                exact AllReadyIn.nil
              exact AllReadyIn.nil
            exact AllReadyIn.nil
          exact AllReadyIn.nil
        refine AllReadyIn.cons rfl (fun K hK => ?_) ?_
        · go_simp
          refine hK _ _ ?_
          clear hK K
          refine wpAnyIn_ready (rs := [0]) (by kernel_rfl) (by simp) ?_
          refine AllReadyIn.cons rfl (fun K hK => ?_) ?_
          · go_simp
            refine hK _ _ ?_
            clear hK K
            refine wpAnyIn_ready (rs := [1]) (by kernel_rfl) (by simp) ?_
            refine AllReadyIn.cons rfl (fun K hK => ?_) ?_
            · go_simp
              refine hK _ _ ?_
              clear hK K
              refine wpAnyIn_ready (rs := [5]) (by kernel_rfl) (by simp) ?_
              refine AllReadyIn.cons rfl (fun K hK => ?_) ?_
              · refine stepIn_append_own rfl (.tmp 12) (.tmp 15) 46 9 rfl Tryz.underlying46 hsi hs0 hs1 hs2 rfl (by decide) w.heap.size ⟨w2.heap.size, 0, none⟩ 1 [.string ⟨x.1.toArray⟩] rfl rfl (hrow2.alloc _) rfl (cell_one_new _ _ _) (by simp [Value.oneCell']) (by unfold maxLen; omega) (by omega) (by have := hC.size; have := hB1.size; simp; omega) ?_
                intro v' w1 hown' hgrow
                have hr2 := (((hr1.next hC).alloc _).kept hgrow ((hr1.next hC).not_row (by decide) hrow2)).other (B2 := w.heap.size + 1) (i := 1) (by omega) v'
                obtain ⟨g', cap', rfl⟩ := ownsRow_succ hown'
                obtain ⟨h1, h2, h3, h4, h5⟩ := hv1.appended (i := 1) (by decide) hrow1 hB1.size (by omega) hC hown' hgrow
                have hc3 := h1.cell 1
                have hf3 := h1.frozen 1
                simp [pathV] at hc3
                refine hK _ _ ?_
                clear hK K
                refine wpAnyIn_ready (rs := [6]) (by kernel_rfl) (by simp) ?_
                refine AllReadyIn.cons rfl (fun K hK => ?_) ?_
                · go_simp
                  refine hK _ _ ?_
                  clear hK K
                  refine wpAnyIn_ready (rs := [7]) (by kernel_rfl) (by simp) ?_
                  refine AllReadyIn.cons rfl (fun K hK => ?_) ?_
                  · go_simp
                    refine hK _ _ ?_
                    clear hK K
                    refine wpAnyIn_done (by kernel_rfl) ?_ _
                    exact ⟨(hkeep.trans h4).from _, trivial, ⟨⟨_, by simpa [pathV] using h2, by simpa [strsV] using h3⟩, hr2⟩, hB1.trans h5⟩
                  exact AllReadyIn.nil
                exact AllReadyIn.nil
              exact AllReadyIn.nil
            exact AllReadyIn.nil
          exact AllReadyIn.nil
        exact AllReadyIn.nil
      exact AllReadyIn.nil
    exact AllReadyIn.nil
  case done =>
    rintro D ys W hD hys ⟨⟨⟨v, hv, hrow⟩, hr⟩, hB⟩ hK
    have hlen : ys.length = (namesB p).length := by rw [← hys, List.length_map]
    rw [hys, hlen] at hrow
    clear hlen
    obtain ⟨av, cap, rfl⟩ : ∃ av cap, v = .slice av (namesB p).length cap := by
      rcases hrow.2 with ⟨rfl, h0⟩ | ⟨g, cap, cur, rfl, _⟩
      · exact ⟨none, 0, by rw [h0]⟩
      · exact ⟨_, _, rfl⟩
    have c0 := hv.cell 0
    have c1 := hv.cell 1
    have c2 := hv.cell 2
    have f2 := hv.frozen 2
    have d0 := hr.cell 0
    have d1 := hr.cell 1
    have d2 := hr.cell 2
    have e0 := hr.frozen 0
    have e1 := hr.frozen 1
    have e2 := hr.frozen 2
    simp [pathV] at c0 c1 c2 d0 d1 d2
    by_cases hn : 0 < (namesB p).length
    · have hS := Lib.hid (show Lib.hasSuffix p [47] = slashB p from by
        rw [endB_suffix]
        have : (namesB p).isEmpty = false := by rw [List.isEmpty_eq_false_iff]; intro e; rw [e] at hn; simp at hn
        simp [slashB, this])
      gi_wp2_with fail
      refine ⟨trivial, ?_⟩
      gi_at_call 62
      refine (callsIn_wide.2 (Tryz.strings_HasSuffix ⟨p.toArray⟩ ⟨#[47]⟩ _ (by simp [ByteArray.size]; omega))).mono ?_
      rintro e w3 ⟨rfl, rfl⟩
      rw [show Lib.hasSuffix (ByteArray.mk p.toArray).data.toList (ByteArray.mk #[47]).data.toList = slashB p from hS.out]
      gi_wp2
      obtain ⟨W', hW', hK', hb', hrow', hB'⟩ := four_set (a := absB p) (s := (slashB p)) hv hr hrow (by decide) hK
      rw [← hW']
      have hb2 := hb'.putObj (.deferred none) hK' rfl
      have g0 := hb2.cell 0
      have g1 := hb2.cell 1
      have g2 := hb2.cell 2
      simp [pathV] at g0 g1 g2
      refine ⟨by simp, .inl ⟨_, _, rfl, run_takeDeferred hK', ?_⟩⟩
      refine ⟨.agg (pathV (absB p) (.slice av (namesB p).length cap) (slashB p)), ?_, _, rfl, ownsRow_putObj hrow' _ hK' rfl, (hB.trans hB').trans (belowK_b (w := w) (Nat.le_refl _) _ D _ _ (by simp at hD; omega) hK' rfl rfl)⟩
      simp [results, Tryz.f29, go_sem, g0, g1, g2]
    · have hS := Lib.hid (show slashB p = false from by
        have : (namesB p).isEmpty = true := by rw [List.isEmpty_iff]; exact List.eq_nil_of_length_eq_zero (by omega)
        simp [slashB, this])
      gi_wp2
      refine ⟨trivial, ?_⟩
      gi_wp2
      obtain ⟨W', hW', hK', hb', hrow', hB'⟩ := four_set (a := absB p) (s := false) hv hr hrow (by decide) hK
      rw [← hW']
      have hb2 := hb'.putObj (.deferred none) hK' rfl
      have g0 := hb2.cell 0
      have g1 := hb2.cell 1
      have g2 := hb2.cell 2
      simp [pathV] at g0 g1 g2
      refine ⟨by simp, .inl ⟨_, _, rfl, run_takeDeferred hK', ?_⟩⟩
      refine ⟨.agg (pathV (absB p) (.slice av (namesB p).length cap) false), ?_, _, by rw [hS.out], ownsRow_putObj hrow' _ hK' rfl, (hB.trans hB').trans (belowK_b (w := w) (Nat.le_refl _) _ D _ _ (by simp at hD; omega) hK' rfl rfl)⟩
      simp [results, Tryz.f29, go_sem, g0, g1, g2]
  case stop =>
    rintro D c pre W _ _ h _
    exact h.elim
end Go.Proofs.YtoejjdebfjepaaaGreat

/- strings.Builder: a writing method's check, and WriteString. -/
set_option linter.unusedVariables false
set_option linter.unusedSimpArgs false
namespace Go.Proofs.YtoejjdebfjepaaaGreat
open Go.RowKit Go.Shelf

set_option maxHeartbeats 1000000 in
set_option maxRecDepth 100000 in
theorem copyCheck_used (b : Nat) (w : World) (h0 : w.cell? ⟨b, 0, none⟩ = some (.pointer (some ⟨b, 0, none⟩))) :
    Calls Tryz.prog 125 #[.pointer (some ⟨b, 0, none⟩)] w fun e w' => e = .returned (.tuple #[]) ∧ w' = w := by
  obtain ⟨j, hj, _⟩ := Option.map_eq_some_iff.1 (show (Tryz.prog.info? 144).map (·.size) = some 2 from by kernel_rfl)
  go_enter Tryz.func125, Tryz.ntmps125
  go_wp2
  rw [Lib.run_neq_ptr_same w _ Tryz.underlying142 hj]
  go_wp2
  go_end0
  exact ⟨rfl, rfl⟩

set_option maxHeartbeats 1000000 in
set_option maxRecDepth 100000 in
theorem copyCheck_fresh (b : Nat) (w : World) (h0 : w.cell? ⟨b, 0, none⟩ = some (.pointer none)) (hsh : w.shape? b = some (144, 2)) (hfz : w.frozen? ⟨b, 0, none⟩ = false) :
    Calls Tryz.prog 125 #[.pointer (some ⟨b, 0, none⟩)] w fun e w' => e = .returned (.tuple #[]) ∧ w' = w.setCell ⟨b, 0, none⟩ (.pointer (some ⟨b, 0, none⟩)) := by
  obtain ⟨j, hj, hjs⟩ := Option.map_eq_some_iff.1 (show (Tryz.prog.info? 144).map (·.size) = some 2 from by kernel_rfl)
  have hlies : liesAt Tryz.prog Tryz.prog.depth 144 (2 / Tryz.prog.cellsOf 144) 0 144 1 = true := by kernel_rfl
  go_enter Tryz.func125, Tryz.ntmps125
  go_wp2
  rw [Lib.run_to_unsafe w ⟨b, 0, none⟩ Tryz.underlying142 Tryz.underlying150 hj (by rw [hjs]; decide) hsh (Nat.zero_lt_succ 1)]
  simp only [Result.andThen]
  rw [Oper.upon_value]
  go_wp2
  rw [run_callFunc_extern Tryz.func126 (by kernel_rfl) (by kernel_rfl) (by kernel_rfl) (e := Extern.AbiNoEscape.same) (by kernel_rfl)]
  rw [Lib.run_noEscape]
  simp only [Result.andThen]
  rw [Oper.upon_value]
  go_wp2
  rw [Lib.run_from_unsafe w ⟨b, 0, none⟩ Tryz.underlying150 Tryz.underlying142 hj hsh hlies]
  simp only [Result.andThen]
  rw [Oper.upon_value]
  go_wp2
  go_end0
  exact ⟨rfl, rfl⟩

/-- A writing method's check: behind it the builder is used. -/
theorem copyCheck_any (B b : Nat) (bs : List Value) (w : World) (h : Lib.IsBuilder 144 5 B b bs w) :
    Calls Tryz.prog 125 #[.pointer (some ⟨b, 0, none⟩)] w fun e w' => e = .returned (.tuple #[]) ∧ (Lib.BuilderAt 144 5 B b (.pointer (some ⟨b, 0, none⟩)) bs w' ∧ Below B w w') := by
  rcases h with h | h
  · refine (copyCheck_fresh b w h.cell0 h.shape h.frozen0).mono ?_
    rintro e w' ⟨rfl, rfl⟩
    exact ⟨rfl, h.used _, (Below.refl B w).setCell (p := ⟨b, 0, none⟩) h.1 _⟩
  · refine (copyCheck_used b w h.cell0).mono ?_
    rintro e w' ⟨rfl, rfl⟩
    exact ⟨rfl, h, Below.refl B _⟩

theorem Tryz.infoByte : (Tryz.prog.info? 5).map (fun i => (i.zero, i.size, i.bytes)) = some (some (.int .u8 0), 1, 1) := by kernel_rfl

set_option maxHeartbeats 2000000 in
set_option maxRecDepth 100000 in
theorem WriteString_any (B b : Nat) (bs : List UInt8) (l : List UInt8) (w : World) (h : Lib.IsBuilder 144 5 B b (bytesV bs) w) (hlen : bs.length + l.length ≤ 1000000000) (hBw : B ≤ w.heap.size) :
    Calls Tryz.prog 123 #[.pointer (some ⟨b, 0, none⟩), .string ⟨l.toArray⟩] w fun e w' => e = .returned (.tuple #[.int .i64 l.length, .nilIface]) ∧ (Lib.IsBuilder 144 5 B b (bytesV (bs ++ l)) w' ∧ Below B w w') := by
  obtain ⟨i0, hi, hz0, hz1, hz2⟩ := info_parts Tryz.infoByte
  go_enter Tryz.func123, Tryz.ntmps123
  go_wp2_with fail
  refine (copyCheck_any B b _ _ h).mono ?_
  rintro e w1 ⟨rfl, h1, hb1⟩
  obtain ⟨hB, v, hbk, hown, hne⟩ := h1
  have c0 : w1.cell? ⟨b, 0, none⟩ = some (.pointer (some ⟨b, 0, none⟩)) := by rw [Lib.cell_of_heap hbk]; rfl
  have c1 : w1.cell? ⟨b, 1, none⟩ = some v := by rw [Lib.cell_of_heap hbk]; rfl
  go_wp2_with (at_builtin; refine Lib.wpList_append_own_string _ rfl _ _ 120 9 rfl B 5 i0 Tryz.underlying120 Tryz.underlying9 hi hz0 hz1 hz2 _ _ _ rfl hown ⟨l.toArray⟩ rfl ?c3 ?c4 ?c5 ?_)
  case c3 => simp [bytesV, ByteArray.size]; unfold maxLen; omega
  case c4 => simp [bytesV, ByteArray.size]; omega
  case c5 => have := hb1.size; omega
  intro v' w2 hown' hgrow _
  have hlt : b < w1.heap.size := by
    rcases Nat.lt_or_ge b w1.heap.size with h' | h'
    · exact h'
    · simp [Array.getElem?_eq_none h'] at hbk
  have hb2 : w2.heap[b]? = some (.cells #[.pointer (some ⟨b, 0, none⟩), v] 144 (0, 0)) := by
    rw [hgrow.block b hlt (fun e => hne e.symm)]
    exact hbk
  have d0 : w2.cell? ⟨b, 0, none⟩ = some (.pointer (some ⟨b, 0, none⟩)) := by rw [Lib.cell_of_heap hb2]; rfl
  have d1 : w2.cell? ⟨b, 1, none⟩ = some v := by rw [Lib.cell_of_heap hb2]; rfl
  have f1 : w2.frozen? ⟨b, 1, none⟩ = false := Lib.frozen_of_heap hb2 1
  obtain ⟨ao, n', cap, rfl⟩ : ∃ ao n' cap, v' = .slice ao n' cap := by
    rcases hown'.2 with ⟨hv, _⟩ | ⟨g, cap, cur, hv, _⟩
    · exact ⟨_, _, _, hv⟩
    · exact ⟨_, _, _, hv⟩
  go_wp2
  go_ret2
  refine ⟨by simp [ByteArray.size], .inr ?_, ?_⟩
  · exact Lib.BuilderAt.put (T := 144) (e := 5) hB hb2 (bs' := bytesV (bs ++ l)) (by simpa [bytesV, Lib.strCells, ByteArray.size] using hown') (by decide)
  · exact (hb1.grown hgrow (by have := hb1.size; omega) (fun k hk => (hown.lt k hk).1)).setCell (p := ⟨b, 1, none⟩) hB _

/-- A builder as 'var b strings.Builder' lays it. -/
theorem builder_new (w : World) : Lib.IsBuilder 144 5 w.heap.size w.heap.size (bytesV []) (w.alloc (.cells #[.pointer none, .slice none 0 0] 144)) := by
  refine .inl ⟨Nat.le_refl _, .slice none 0 0, World.alloc_heap_new w _, World.ownsRow_nil _ _ _ _, by simp [Value.ownBlock]⟩

theorem builder_String (B b : Nat) (l : List UInt8) (w : World) (h : Lib.IsBuilder 144 5 B b (bytesV l) w) (hBw : B ≤ w.heap.size) :
    Calls Tryz.prog 124 #[.pointer (some ⟨b, 0, none⟩)] w fun e w' => e = .returned (.string ⟨l.toArray⟩) ∧ Below B w w' := Tryz.Builder_String_any B b l w h hBw
end Go.Proofs.YtoejjdebfjepaaaGreat

/- Walks: Put, Join. -/
set_option linter.unusedVariables false
set_option linter.unusedSimpArgs false
namespace Go.Proofs.YtoejjdebfjepaaaGreat
open Go.RowKit

abbrev pathA (a : Bool) (v : Value) (s : Bool) : Array Value := #[.bool a, v, .bool s]
theorem str_cell {w : World} {b off : Nat} {l : List (List UInt8)} (hc : ∀ i (h : i < l.length), w.cell? ⟨b, off + i, none⟩ = some (.string ⟨l[i].toArray⟩)) {k : Nat} (h : k < l.length) : w.cell? ⟨b, off + k, none⟩ = some (.string ⟨l[k].toArray⟩) := hc k h
theorem interB_next (ns : List (List UInt8)) (k : Nat) (h : k < ns.length) : interB (ns.take (k + 1)) = if k = 0 then ns[k] else interB (ns.take k) ++ 47 :: ns[k] := by
  rw [List.take_succ_eq_append_getElem h, interB_snoc]
  by_cases hk : k = 0
  · subst hk; simp
  · rw [if_neg hk, if_neg (by cases ns <;> cases k <;> simp_all)]
theorem putB_inter (a s : Bool) (ns : List (List UInt8)) : (interB ns).length ≤ (putB a ns s).length := by simp [putB]; omega
theorem putB_no (a s : Bool) (ns : List (List UInt8)) (h : s = false ∨ ns = []) : putB a ns s = (if a then [47] else []) ++ interB ns := by
  rcases h with rfl | rfl <;> simp [putB]
theorem putB_yes (a : Bool) (ns : List (List UInt8)) (h : 0 < ns.length) : putB a ns true = (if a then [47] else []) ++ interB ns ++ [47] := by
  have : ns.isEmpty = false := by rw [List.isEmpty_eq_false_iff]; rintro rfl; simp at h
  simp [putB, this]

set_option maxRecDepth 100000 in
set_option maxHeartbeats 4000000 in
theorem Put_true (s : Bool) (ns : List (List UInt8)) (v : Value) (w : World) (hv : Strs w v ns) (hl : ns.length ≤ 1000000) (hj : (interB ns).length ≤ 1000000) :
    Calls Tryz.prog 120 #[.agg (pathA true v s)] w fun e w' => e = .returned (.string ⟨(putB true ns s).toArray⟩) ∧ Below w.heap.size w w' := by
  obtain ⟨ad, ca, rfl, hm, HA0⟩ := hv
  have HA := Lib.hid HA0
  have HJ := Lib.hid hj
  clear HA0 hm hj
  have b0 := Blk.new w 60 (pathA true (.slice ad ns.length ca) s)
  have bb := builder_new (w.alloc (.cells (pathA true (.slice ad ns.length ca) s) 60))
  rw [World.size_alloc] at bb
  have hB0 : Below (w.heap.size + 1) (w.alloc (.cells (pathA true (.slice ad ns.length ca) s) 60)) ((w.alloc (.cells (pathA true (.slice ad ns.length ca) s) 60)).alloc (.cells #[.pointer none, .slice none 0 0] 144)) := (Below.refl _ _).alloc (by simp) _
  have hW0 : Below w.heap.size w (w.alloc (.cells (pathA true (.slice ad ns.length ca) s) 60)) := (Below.refl _ w).alloc (Nat.le_refl _) _
  have hs1 : (w.alloc (.cells (pathA true (.slice ad ns.length ca) s) 60)).heap.size = w.heap.size + 1 := by simp
  go_enter Tryz.func120, Tryz.ntmps120
  go_wp2_with fail
  refine (WriteString_any (w.heap.size + 1) (w.heap.size + 1) [] [47] _ bb (by decide) (by simp)).mono ?_
  rintro e w1 ⟨rfl, hb, h1⟩
  replace h1 := hB0.trans h1
  have bz : w1.cell? ⟨w.heap.size, 1, none⟩ = some (.slice ad ns.length ca) := (b0.below h1 (by simp)).cell 1
  go_wp2
  go_loopw [12] (fun i wr => ∃ k : Nat, k ≤ ns.length ∧ i = .int .i64 k ∧ Lib.IsBuilder 144 5 (w.heap.size + 1) (w.heap.size + 1) (bytesV ([47] ++ interB (ns.take k))) wr ∧ Below (w.heap.size + 1) (w.alloc (.cells (pathA true (.slice ad ns.length ca) s) 60)) wr) (fun i _ => ns.length - (intOf i).toNat)
  case atStart => exact ⟨0, Nat.zero_le _, rfl, by simpa [interB] using hb, h1⟩
  case round =>
    obtain ⟨k, hk, rfl, hbl, hBl⟩ := hrel
    have hsz := hBl.size
    rw [World.size_alloc] at hsz
    have hlen := Nat.le_trans (interB_take ns k) HJ.out
    by_cases hlt : k < ns.length
    · obtain ⟨ba, oa, rfl, hba, hca⟩ := HA.out (by omega)
      have c1 : wr.cell? ⟨ba, oa + k, none⟩ = some (.string ⟨ns[k].toArray⟩) := (hBl.cell (p := ⟨ba, oa + k, none⟩) (by simp; omega)).trans ((hW0.cell (p := ⟨ba, oa + k, none⟩) hba).trans (hca k hlt))
      clear hca
      have HN := Lib.hid (interB_next ns k hlt)
      have hlen2 := Nat.le_trans (interB_take ns (k + 1)) HJ.out
      by_cases h0 : 0 < k
      · have hkz : Hid (¬ k = 0) := by (show ¬ _); omega
        have hN2 := Lib.hid (HN.out.trans (if_neg hkz.out))
        rw [hN2.out, List.length_append, List.length_cons] at hlen2
        go_wp2_with fail
        refine (WriteString_any (w.heap.size + 1) (w.heap.size + 1) _ [47] _ hbl (by simp; omega) (by omega)).mono ?_
        rintro e w2 ⟨rfl, hb2, hB2⟩
        have c2 : w2.cell? ⟨ba, oa + k, none⟩ = some (.string ⟨ns[k].toArray⟩) := (hB2.cell (p := ⟨ba, oa + k, none⟩) (by simp; omega)).trans c1
        have hs2 := hB2.size
        clear c1
        go_wp2_with fail
        refine (WriteString_any (w.heap.size + 1) (w.heap.size + 1) _ ns[k] _ hb2 (by simp; omega) (by omega)).mono ?_
        rintro e w3 ⟨rfl, hb3, hB3⟩
        go_wp2
        go_roundw
        case rel => exact ⟨k + 1, by omega, by go_num, by rw [hN2.out]; simpa using hb3, (hBl.trans hB2).trans hB3⟩
        case measure => simp [intOf]; omega
      · obtain rfl : k = 0 := by omega
        have hN2 := Lib.hid (HN.out.trans (if_pos rfl))
        have c0 : wr.cell? ⟨ba, oa, none⟩ = some (.string ⟨ns[0].toArray⟩) := c1
        clear c1
        rw [hN2.out] at hlen2
        go_wp2_with fail
        refine (WriteString_any (w.heap.size + 1) (w.heap.size + 1) _ ns[0] _ hbl (by simp [interB]; omega) (by omega)).mono ?_
        rintro e w3 ⟨rfl, hb3, hB3⟩
        go_wp2
        go_roundw
        case rel => exact ⟨1, by omega, by go_num, by rw [hN2.out]; simpa [interB] using hb3, hBl.trans hB3⟩
        case measure => simp [intOf]; omega
    · obtain rfl : k = ns.length := by omega
      rw [List.take_length] at hbl hlen
      have bx := b0.below hBl (by simp)
      have x1 := bx.cell 1
      have x2 := bx.cell 2
      simp at x1 x2
      cases s
      · have HP := Lib.hid (putB_no true false ns (.inl rfl))
        go_wp2_with fail
        refine (builder_String (w.heap.size + 1) (w.heap.size + 1) _ _ hbl (by omega)).mono ?_
        rintro e w3 ⟨rfl, hB3⟩
        go_wp2
        go_ret
        exact ⟨ret_str (by rw [HP.out]; rfl), hW0.trans ((hBl.trans hB3).mono (by simp))⟩
      · by_cases hn : 0 < ns.length
        · have HP := Lib.hid (putB_yes true ns hn)
          go_wp2_with fail
          refine (WriteString_any (w.heap.size + 1) (w.heap.size + 1) _ [47] _ hbl (by simp; omega) (by omega)).mono ?_
          rintro e w2 ⟨rfl, hb2, hB2⟩
          have hs2 := hB2.size
          go_wp2_with fail
          refine (builder_String (w.heap.size + 1) (w.heap.size + 1) _ _ hb2 (by omega)).mono ?_
          rintro e w3 ⟨rfl, hB3⟩
          go_wp2
          go_ret
          exact ⟨ret_str (by rw [HP.out]; rfl), hW0.trans (((hBl.trans hB2).trans hB3).mono (by simp))⟩
        · have HP := Lib.hid (putB_no true true ns (.inr (List.eq_nil_of_length_eq_zero (by omega))))
          go_wp2_with fail
          refine (builder_String (w.heap.size + 1) (w.heap.size + 1) _ _ hbl (by omega)).mono ?_
          rintro e w3 ⟨rfl, hB3⟩
          go_wp2
          go_ret
          exact ⟨ret_str (by rw [HP.out]; rfl), hW0.trans ((hBl.trans hB3).mono (by simp))⟩

set_option maxRecDepth 100000 in
set_option maxHeartbeats 4000000 in
theorem Put_false (s : Bool) (ns : List (List UInt8)) (v : Value) (w : World) (hv : Strs w v ns) (hl : ns.length ≤ 1000000) (hj : (interB ns).length ≤ 1000000) :
    Calls Tryz.prog 120 #[.agg (pathA false v s)] w fun e w' => e = .returned (.string ⟨(putB false ns s).toArray⟩) ∧ Below w.heap.size w w' := by
  obtain ⟨ad, ca, rfl, hm, HA0⟩ := hv
  have HA := Lib.hid HA0
  have HJ := Lib.hid hj
  clear HA0 hm hj
  have b0 := Blk.new w 60 (pathA false (.slice ad ns.length ca) s)
  have bb := builder_new (w.alloc (.cells (pathA false (.slice ad ns.length ca) s) 60))
  rw [World.size_alloc] at bb
  have hB0 : Below (w.heap.size + 1) (w.alloc (.cells (pathA false (.slice ad ns.length ca) s) 60)) ((w.alloc (.cells (pathA false (.slice ad ns.length ca) s) 60)).alloc (.cells #[.pointer none, .slice none 0 0] 144)) := (Below.refl _ _).alloc (by simp) _
  have hW0 : Below w.heap.size w (w.alloc (.cells (pathA false (.slice ad ns.length ca) s) 60)) := (Below.refl _ w).alloc (Nat.le_refl _) _
  have hs1 : (w.alloc (.cells (pathA false (.slice ad ns.length ca) s) 60)).heap.size = w.heap.size + 1 := by simp
  go_enter Tryz.func120, Tryz.ntmps120
  have h1 := hB0
  have hb := bb
  go_wp2
  go_loopw [12] (fun i wr => ∃ k : Nat, k ≤ ns.length ∧ i = .int .i64 k ∧ Lib.IsBuilder 144 5 (w.heap.size + 1) (w.heap.size + 1) (bytesV ([] ++ interB (ns.take k))) wr ∧ Below (w.heap.size + 1) (w.alloc (.cells (pathA false (.slice ad ns.length ca) s) 60)) wr) (fun i _ => ns.length - (intOf i).toNat)
  case atStart => exact ⟨0, Nat.zero_le _, rfl, by simpa [interB] using hb, h1⟩
  case round =>
    obtain ⟨k, hk, rfl, hbl, hBl⟩ := hrel
    have hsz := hBl.size
    rw [World.size_alloc] at hsz
    have hlen := Nat.le_trans (interB_take ns k) HJ.out
    by_cases hlt : k < ns.length
    · obtain ⟨ba, oa, rfl, hba, hca⟩ := HA.out (by omega)
      have c1 : wr.cell? ⟨ba, oa + k, none⟩ = some (.string ⟨ns[k].toArray⟩) := (hBl.cell (p := ⟨ba, oa + k, none⟩) (by simp; omega)).trans ((hW0.cell (p := ⟨ba, oa + k, none⟩) hba).trans (hca k hlt))
      clear hca
      have HN := Lib.hid (interB_next ns k hlt)
      have hlen2 := Nat.le_trans (interB_take ns (k + 1)) HJ.out
      by_cases h0 : 0 < k
      · have hkz : Hid (¬ k = 0) := by (show ¬ _); omega
        have hN2 := Lib.hid (HN.out.trans (if_neg hkz.out))
        rw [hN2.out, List.length_append, List.length_cons] at hlen2
        go_wp2_with fail
        refine (WriteString_any (w.heap.size + 1) (w.heap.size + 1) _ [47] _ hbl (by simp; omega) (by omega)).mono ?_
        rintro e w2 ⟨rfl, hb2, hB2⟩
        have c2 : w2.cell? ⟨ba, oa + k, none⟩ = some (.string ⟨ns[k].toArray⟩) := (hB2.cell (p := ⟨ba, oa + k, none⟩) (by simp; omega)).trans c1
        have hs2 := hB2.size
        clear c1
        go_wp2_with fail
        refine (WriteString_any (w.heap.size + 1) (w.heap.size + 1) _ ns[k] _ hb2 (by simp; omega) (by omega)).mono ?_
        rintro e w3 ⟨rfl, hb3, hB3⟩
        go_wp2
        go_roundw
        case rel => exact ⟨k + 1, by omega, by go_num, by rw [hN2.out]; simpa using hb3, (hBl.trans hB2).trans hB3⟩
        case measure => simp [intOf]; omega
      · obtain rfl : k = 0 := by omega
        have hN2 := Lib.hid (HN.out.trans (if_pos rfl))
        have c0 : wr.cell? ⟨ba, oa, none⟩ = some (.string ⟨ns[0].toArray⟩) := c1
        clear c1
        rw [hN2.out] at hlen2
        go_wp2_with fail
        refine (WriteString_any (w.heap.size + 1) (w.heap.size + 1) _ ns[0] _ hbl (by simp [interB]; omega) (by omega)).mono ?_
        rintro e w3 ⟨rfl, hb3, hB3⟩
        go_wp2
        go_roundw
        case rel => exact ⟨1, by omega, by go_num, by rw [hN2.out]; simpa [interB] using hb3, hBl.trans hB3⟩
        case measure => simp [intOf]; omega
    · obtain rfl : k = ns.length := by omega
      rw [List.take_length] at hbl hlen
      have bx := b0.below hBl (by simp)
      have x1 := bx.cell 1
      have x2 := bx.cell 2
      simp at x1 x2
      cases s
      · have HP := Lib.hid (putB_no false false ns (.inl rfl))
        go_wp2_with fail
        refine (builder_String (w.heap.size + 1) (w.heap.size + 1) _ _ hbl (by omega)).mono ?_
        rintro e w3 ⟨rfl, hB3⟩
        go_wp2
        go_ret
        exact ⟨ret_str (by rw [HP.out]; rfl), hW0.trans ((hBl.trans hB3).mono (by simp))⟩
      · by_cases hn : 0 < ns.length
        · have HP := Lib.hid (putB_yes false ns hn)
          go_wp2_with fail
          refine (WriteString_any (w.heap.size + 1) (w.heap.size + 1) _ [47] _ hbl (by simp; omega) (by omega)).mono ?_
          rintro e w2 ⟨rfl, hb2, hB2⟩
          have hs2 := hB2.size
          go_wp2_with fail
          refine (builder_String (w.heap.size + 1) (w.heap.size + 1) _ _ hb2 (by omega)).mono ?_
          rintro e w3 ⟨rfl, hB3⟩
          go_wp2
          go_ret
          exact ⟨ret_str (by rw [HP.out]; rfl), hW0.trans (((hBl.trans hB2).trans hB3).mono (by simp))⟩
        · have HP := Lib.hid (putB_no false true ns (.inr (List.eq_nil_of_length_eq_zero (by omega))))
          go_wp2_with fail
          refine (builder_String (w.heap.size + 1) (w.heap.size + 1) _ _ hbl (by omega)).mono ?_
          rintro e w3 ⟨rfl, hB3⟩
          go_wp2
          go_ret
          exact ⟨ret_str (by rw [HP.out]; rfl), hW0.trans ((hBl.trans hB3).mono (by simp))⟩

theorem Put_any (a s : Bool) (ns : List (List UInt8)) (v : Value) (w : World) (hv : Strs w v ns) (hl : ns.length ≤ 1000000) (hj : (interB ns).length ≤ 1000000) :
    Calls Tryz.prog 120 #[.agg (pathA a v s)] w fun e w' => e = .returned (.string ⟨(putB a ns s).toArray⟩) ∧ Below w.heap.size w w' := by
  cases a
  · exact Put_false s ns v w hv hl hj
  · exact Put_true s ns v w hv hl hj

theorem Join_any (ns : List (List UInt8)) (v : Value) (w : World) (hv : Strs w v ns) (hl : ns.length ≤ 1000000) (hj : (interB ns).length ≤ 1000000) :
    Calls Tryz.prog 112 #[v] w fun e w' => e = .returned (.string ⟨(joinB ns).toArray⟩) ∧ Below w.heap.size w w' := by
  have hv2 := hv
  obtain ⟨ad, ca, rfl, hm, HA0⟩ := hv
  clear HA0
  go_enter Tryz.func112, Tryz.ntmps112
  go_wp2_with fail; refine (Put_any true false ns _ _ hv2 hl hj).mono ?_; rintro e w' ⟨rfl, hB⟩
  go_wp2
  go_ret
  exact ⟨ret_str (joinB_put ns), hB⟩
end Go.Proofs.YtoejjdebfjepaaaGreat

/- Walks: the search for a name, by halves. -/
set_option linter.unusedVariables false
set_option linter.unusedSimpArgs false
namespace Go.Proofs.YtoejjdebfjepaaaGreat
open Go.RowKit

theorem hold_any (e : Ent) (n : List UInt8) (w : World) :
    Calls Tryz.prog 102 #[.agg (entC e), .string ⟨n.toArray⟩] w fun x w' => x = .returned (.int .i64 (Lib.compareBytes e.1 n)) ∧ Below w.heap.size w w' := by
  go_enter Tryz.func102, Tryz.ntmps102
  have hb : Below w.heap.size w (w.alloc (.cells (entC e) 76)) := (Below.refl _ w).alloc (Nat.le_refl _) _
  go_wp2_with fail; refine (Tryz.strings_Compare _ _ _).mono ?_; rintro e w' ⟨rfl, rfl⟩
  go_wp2
  go_ret
  exact ⟨rfl, hb⟩

set_option maxHeartbeats 2000000 in
theorem halves_any (l : List Ent) (n : List UInt8) (v : Value) (w : World) (hv : Ents w v l) (hs : sortP l) (hl : l.length ≤ 1000000) :
    Calls Tryz.prog 101 #[v, .string ⟨n.toArray⟩, .func (.func 102) #[] #[]] w fun e w' =>
      ∃ lo : Nat, e = .returned (.tuple #[.int .i64 lo, .bool (hasB l n)]) ∧ SrchP l n lo ∧ Below w.heap.size w w' := by
  obtain ⟨a, ca, rfl, hc, hm, HA0⟩ := hv
  unfold maxLen at hm
  have HA := Lib.hid HA0
  have HS := Lib.hid hs
  clear HA0 hs
  go_enter Tryz.func101, Tryz.ntmps101
  go_wp2
  go_loopg [9, 10] l.length (fun g s9 s10 wr => ∃ lo hi : Nat, s9 = .int .i64 lo ∧ s10 = .int .i64 hi ∧ lo ≤ hi ∧ hi ≤ l.length ∧ hi - lo ≤ g ∧ Below w.heap.size w wr ∧
    Aside ((∀ t (ht : t < l.length), t < lo → ltB l[t].1 n = true) ∧ (∀ t (ht : t < l.length), hi ≤ t → ltB l[t].1 n = false)))
  case atStart => exact ⟨0, l.length, rfl, rfl, Nat.zero_le _, Nat.le_refl _, by omega, Below.refl _ _, ⟨fun t ht h => by omega, fun t ht h => by omega⟩⟩
  case round =>
    obtain ⟨lo, hi, rfl, rfl, hlh, hin, hg, hbw, I⟩ := hrel
    by_cases hlt : lo < hi
    · obtain ⟨b, o, rfl, hb, hcl⟩ := HA.out (by omega)
      have hmid : (lo + hi) / 2 < l.length := by omega
      have c1 : wr.cell? ⟨b, o + (lo + hi) / 2 * 2, none⟩ = some (.string ⟨l[(lo + hi) / 2].1.toArray⟩) := (hbw.cell (p := ⟨b, o + (lo + hi) / 2 * 2, none⟩) hb).trans (hcl _ hmid).1
      have c2 : wr.cell? ⟨b, o + (lo + hi) / 2 * 2 + 1, none⟩ = some (.int .i64 l[(lo + hi) / 2].2) := (hbw.cell (p := ⟨b, o + (lo + hi) / 2 * 2 + 1, none⟩) hb).trans (hcl _ hmid).2
      clear hcl
      generalize hy : l[(lo + hi) / 2] = y at c1 c2
      have Y := Lib.hid hy
      clear hy
      have CM := Lib.hid (cmp_lt y.1 n)
      go_wp2_with fail
      refine (hold_any y n _).mono ?_
      rintro e w2 ⟨rfl, b2⟩
      replace hbw := hbw.trans (b2.mono hbw.size)
      cases hl1 : ltB y.1 n
      · have hcm : decide (Lib.compareBytes y.1 n < 0) = false := CM.out.trans hl1
        have I2 := Lib.hid (show (∀ t (ht : t < l.length), t < lo → ltB l[t].1 n = true) ∧ (∀ t (ht : t < l.length), (lo + hi) / 2 ≤ t → ltB l[t].1 n = false) from ⟨I.out.1, fun t ht h => by
          rw [Bool.eq_false_iff]; intro h2
          have := sort_upto HS.out ht h h2
          rw [Y.out, hl1] at this; cases this⟩)
        go_wp2
        go_roundg ((lo + hi) / 2 - lo)
        case measure => omega
        case rel => exact ⟨lo, (lo + hi) / 2, rfl, by rw [show ((lo : Int) + (hi : Int)) / 2 = (((lo + hi) / 2 : Nat) : Int) by omega], by omega, by omega, Nat.le_refl _, hbw, I2.out⟩
      · have hcm : decide (Lib.compareBytes y.1 n < 0) = true := CM.out.trans hl1
        have I2 := Lib.hid (show (∀ t (ht : t < l.length), t < (lo + hi) / 2 + 1 → ltB l[t].1 n = true) ∧ (∀ t (ht : t < l.length), hi ≤ t → ltB l[t].1 n = false) from ⟨fun t ht h => sort_upto HS.out hmid (by omega) (by rw [Y.out]; exact hl1), I.out.2⟩)
        go_wp2
        go_roundg (hi - ((lo + hi) / 2 + 1))
        case measure => omega
        case rel => exact ⟨(lo + hi) / 2 + 1, hi, by rw [show ((lo : Int) + (hi : Int)) / 2 + 1 = (((lo + hi) / 2 + 1 : Nat) : Int) by omega], rfl, by omega, hin, Nat.le_refl _, hbw, I2.out⟩
    · obtain rfl : hi = lo := by omega
      have SE := Lib.hid (srch_end HS.out hin I.out.1 I.out.2)
      by_cases hn : hi < l.length
      · obtain ⟨b, o, rfl, hb, hcl⟩ := HA.out (by omega)
        have c1 : wr.cell? ⟨b, o + hi * 2, none⟩ = some (.string ⟨l[hi].1.toArray⟩) := (hbw.cell (p := ⟨b, o + hi * 2, none⟩) hb).trans (hcl _ hn).1
        have c2 : wr.cell? ⟨b, o + hi * 2 + 1, none⟩ = some (.int .i64 l[hi].2) := (hbw.cell (p := ⟨b, o + hi * 2 + 1, none⟩) hb).trans (hcl _ hn).2
        clear hcl
        have SH : Hid (hasB l n = (l[hi].1 == n)) := by (show _ = _); rw [SE.out.2, dif_pos hn]
        generalize hy : l[hi] = y at c1 c2 SH
        clear hy
        have CM := Lib.hid (cmp_eq0 y.1 n)
        go_wp2_with fail
        refine (hold_any y n _).mono ?_
        rintro e w2 ⟨rfl, b2⟩
        replace hbw := hbw.trans (b2.mono hbw.size)
        go_wp2
        go_ret2
        exact ⟨hi, by rw [SH.out, ← CM.out]; rfl, SE.out.1, hbw⟩
      · have SH : Hid (hasB l n = false) := by (show _ = _); rw [SE.out.2, dif_neg hn]
        go_wp2
        go_ret2
        exact ⟨hi, by rw [SH.out]; rfl, SE.out.1, hbw⟩

theorem search_any (l : List Ent) (n : List UInt8) (v : Value) (w : World) (hv : Ents w v l) (hs : sortP l) (hl : l.length ≤ 1000000) :
    Calls Tryz.prog 92 #[v, .string ⟨n.toArray⟩] w fun e w' =>
      ∃ lo : Nat, e = .returned (.tuple #[.int .i64 lo, .bool (hasB l n)]) ∧ SrchP l n lo ∧ Below w.heap.size w w' := by
  obtain ⟨a, ca, rfl, hc, hm, HA0⟩ := id hv
  clear HA0
  go_enter Tryz.func92, Tryz.ntmps92
  go_wp2_with fail; refine (halves_any l n _ _ hv hs hl).mono ?_; rintro e w1 ⟨lo, rfl, hS, hb⟩
  go_wp2
  go_ret2
  exact ⟨lo, rfl, hS, hb⟩
end Go.Proofs.YtoejjdebfjepaaaGreat

/- Walks: Find; what stands ahead of a name's place, and behind it. -/
set_option linter.unusedVariables false
set_option linter.unusedSimpArgs false
namespace Go.Proofs.YtoejjdebfjepaaaGreat
open Go.RowKit

theorem Find_any (l : List Ent) (n : List UInt8) (v : Value) (w : World) (hv : Ents w v l) (hs : sortP l) (hl : l.length ≤ 1000000) :
    Calls Tryz.prog 95 #[v, .string ⟨n.toArray⟩] w fun e w' => e = .returned (.tuple #[.int .i64 (numB l n), .bool (hasB l n)]) ∧ Below w.heap.size w w' := by
  obtain ⟨a, ca, rfl, hc, hm, HA0⟩ := id hv
  unfold maxLen at hm
  have HA := Lib.hid HA0
  clear HA0
  go_enter Tryz.func95, Tryz.ntmps95
  go_wp2_with fail; refine (search_any l n _ _ hv hs hl).mono ?_; rintro e w1 ⟨lo, rfl, hS, hb⟩
  cases hh : hasB l n
  · have HF := Lib.hid (find_none hh)
    go_wp2
    go_ret2
    exact ⟨by rw [HF.out.1, HF.out.2]; rfl, hb⟩
  · obtain ⟨hk, hn⟩ := find_srch hS hh
    have HN := Lib.hid hn
    clear hn
    obtain ⟨b, o, rfl, hbl, hcl⟩ := HA.out (by omega)
    have c2 : w1.cell? ⟨b, o + lo * 2 + 1, none⟩ = some (.int .i64 l[lo].2) := (hb.cell (p := ⟨b, o + lo * 2 + 1, none⟩) hbl).trans (hcl _ hk).2
    clear hcl hS
    go_wp2
    go_ret2
    exact ⟨by rw [HN.out, hh]; rfl, hb⟩

def TwoEnts (w : World) (A B : List Ent) (e : Ending) (w' : World) : Prop := ∃ x y, e = .returned (.tuple #[x, y]) ∧ Ents w' x A ∧ Ents w' y B ∧ Below w.heap.size w w'

set_option maxHeartbeats 2000000 in
theorem around_any (l : List Ent) (n : List UInt8) (v : Value) (w : World) (hv : Ents w v l) (hs : sortP l) (hl : l.length ≤ 1000000) :
    Calls Tryz.prog 69 #[v, .string ⟨n.toArray⟩] w (TwoEnts w (aheadB l n) (behindB l n)) := by
  obtain ⟨a, ca, rfl, hc, hm, HA0⟩ := id hv
  have HM := Lib.hid hm
  unfold maxLen at hm
  clear HA0
  go_enter Tryz.func69, Tryz.ntmps69
  go_wp2_with fail; refine (search_any l n _ _ hv hs hl).mono ?_; rintro e w1 ⟨lo, rfl, hS, hb⟩
  have HV := Lib.hid (hv.below hb)
  have HS := Lib.hid hS
  have hlo := hS.1
  have h0 : (0 : Int) ≤ (lo : Int) := by omega
  have h1 : (lo : Int) ≤ (l.length : Int) := by omega
  have h2 : (lo : Int) ≤ (ca : Int) := by omega
  clear hv hS
  have hbd : ∀ q, Below w.heap.size w (w1.drewN q) := fun q => below_drewN hb q
  have HT := Lib.hid HS.out.2.1
  cases hh : hasB l n
  · have HB := Lib.hid (HS.out.2.2.2 hh)
    go_wp2
    go_quiet (fail)
    all_goals go_wp2
    all_goals go_ret2
    all_goals refine ⟨_, _, rfl, ?_, ?_, hbd _⟩
    all_goals first
      | (rw [← HT.out]; exact Ents.head (HV.out.below (below_drewN (Below.refl _ _) _)) lo _ hlo (by omega) (by have := HM.out; omega))
      | (rw [← HB.out]; exact Ents.tail (HV.out.below (below_drewN (Below.refl _ _) _)) lo _ _ _ hlo rfl (by omega) (by have := HM.out; omega) (fun h => by first | rfl | omega))
  · obtain ⟨hk, _, hB⟩ := HS.out.2.2.1 hh
    have HB := Lib.hid hB
    clear hB
    have h3 : (lo : Int) + 1 ≤ (l.length : Int) := by omega
    have h4 : (lo : Int) + 1 ≤ (ca : Int) := by omega
    have h5 : ((lo : Int) + 1).toNat = lo + 1 := by omega
    go_wp2
    go_quiet (fail)
    all_goals go_wp2
    all_goals go_ret2
    all_goals refine ⟨_, _, rfl, ?_, ?_, hbd _⟩
    all_goals first
      | (rw [← HT.out]; exact Ents.head (HV.out.below (below_drewN (Below.refl _ _) _)) lo _ hlo (by omega) (by have := HM.out; omega))
      | (rw [← HB.out]; exact Ents.tail (HV.out.below (below_drewN (Below.refl _ _) _)) (lo + 1) _ _ _ hk rfl (by omega) (by have := HM.out; omega) (fun h => by first | rfl | omega))
end Go.Proofs.YtoejjdebfjepaaaGreat

/- Walks: With, Without, Names. -/
set_option linter.unusedVariables false
set_option linter.unusedSimpArgs false
namespace Go.Proofs.YtoejjdebfjepaaaGreat
open Go.RowKit

theorem parts_two {w : World} {x y : Value} {A B : List Ent} (hx : Ents w x A) (hy : Ents w y B) (t : TypeId) : Parts (w.alloc (.cells #[x, y] t)) (.slice (some ⟨w.heap.size, 0, none⟩) 2 2) [A, B] := by
  have hb : Below w.heap.size w (w.alloc (.cells #[x, y] t)) := (Below.refl _ w).alloc (Nat.le_refl _) _
  have hB := Blk.new w t #[x, y]
  refine ⟨_, 2, rfl, fun _ => ⟨w.heap.size, 0, rfl, hB.lt, fun i hi => ?_⟩⟩
  have : i = 0 ∨ i = 1 := by simp at hi; omega
  rcases this with rfl | rfl
  · exact ⟨x, (hB.cell 0).trans rfl, hx.below hb⟩
  · exact ⟨y, (hB.cell 1).trans rfl, hy.below hb⟩
theorem parts_three {w : World} {x y z : Value} {A B C : List Ent} (hx : Ents w x A) (hy : Ents w y B) (hz : Ents w z C) (t : TypeId) (n : Nat) (hn : n = w.heap.size) : Parts (w.alloc (.cells #[x, y, z] t)) (.slice (some ⟨n, 0, none⟩) 3 3) [A, B, C] := by
  subst hn
  have hb : Below w.heap.size w (w.alloc (.cells #[x, y, z] t)) := (Below.refl _ w).alloc (Nat.le_refl _) _
  have hB := Blk.new w t #[x, y, z]
  refine ⟨_, 3, rfl, fun _ => ⟨w.heap.size, 0, rfl, hB.lt, fun i hi => ?_⟩⟩
  have : i = 0 ∨ i = 1 ∨ i = 2 := by simp at hi; omega
  rcases this with rfl | rfl | rfl
  · exact ⟨x, (hB.cell 0).trans rfl, hx.below hb⟩
  · exact ⟨y, (hB.cell 1).trans rfl, hy.below hb⟩
  · exact ⟨z, (hB.cell 2).trans rfl, hz.below hb⟩

set_option maxHeartbeats 1000000 in
theorem Without_any (l : List Ent) (n : List UInt8) (v : Value) (w : World) (hv : Ents w v l) (hs : sortP l) (hl : l.length ≤ 1000000) (hsh : shortP 100000000 l) :
    Calls Tryz.prog 38 #[v, .string ⟨n.toArray⟩] w (NewEnts w (withoutB l n)) := by
  obtain ⟨a, ca, rfl, hc, hm, HA0⟩ := id hv
  clear HA0
  go_enter Tryz.func38, Tryz.ntmps38
  go_wp2_with fail; refine (around_any l n _ _ hv hs hl).mono ?_; rintro e w1 ⟨x, y, rfl, hx, hy, hb⟩
  have hp := parts_two hx hy 34
  have hb2 : Below w.heap.size w (w1.alloc (.cells #[x, y] 34)) := hb.alloc hb.size _
  have hfl : [aheadB l n, behindB l n].flatten = withoutB l n := by simp [withoutB]
  have hle := without_len l n
  have hsw := without_short n hsh
  obtain ⟨a1, c1, rfl, _, _, _⟩ := hx
  obtain ⟨a2, c2, rfl, _, _, _⟩ := hy
  go_wp2_with fail
  refine (join_any _ _ _ hp (by simp) (by rw [hfl]; omega) (by rw [hfl]; exact hsw)).mono ?_
  rintro e w2 ⟨g, rfl, hg, hB, hb3⟩
  rw [hfl] at hB ⊢
  go_wp2
  go_ret
  exact ⟨g, rfl, Nat.le_trans hb2.size hg, hB, hb2.trans (hb3.mono hb2.size)⟩

set_option maxHeartbeats 1000000 in
theorem With_any (l : List Ent) (n : List UInt8) (i : Int) (v : Value) (w : World) (hv : Ents w v l) (hs : sortP l) (hl : l.length ≤ 999999) (hsh : shortP 100000000 l) (hn : n.length ≤ 100000000) :
    Calls Tryz.prog 40 #[v, .string ⟨n.toArray⟩, .int .i64 i] w (NewEnts w (withB l n i)) := by
  obtain ⟨a, ca, rfl, hc, hm, HA0⟩ := id hv
  clear HA0
  go_enter Tryz.func40, Tryz.ntmps40
  go_wp2_with fail; refine (around_any l n _ _ hv hs (by omega)).mono ?_; rintro e w1 ⟨x, y, rfl, hx, hy, hb⟩
  have hbo : Below w1.heap.size w1 (w1.alloc (.cells (entC (n, i)) 76)) := (Below.refl _ w1).alloc (Nat.le_refl _) _
  have hone : Ents (w1.alloc (.cells (entC (n, i)) 76)) (.slice (some ⟨w1.heap.size, 0, none⟩) 1 1) [(n, i)] := blk_ents (L := [(n, i)]) (Blk.new w1 76 (entC (n, i))) (by simp [maxLen])
  have hb1 := hb.trans (hbo.mono hb.size)
  have hp := parts_three (hx.below hbo) hone (hy.below hbo) 34 (w1.heap.size + 1) (by simp)
  have hb2 := hb1.alloc hb1.size (.cells #[x, .slice (some ⟨w1.heap.size, 0, none⟩) 1 1, y] 34)
  have hfl : [aheadB l n, [(n, i)], behindB l n].flatten = withB l n i := by simp [withB]
  have hle := with_len l n i
  have hsw := with_short i hsh hn
  obtain ⟨a1, c1, rfl, _, _, _⟩ := hx
  obtain ⟨a2, c2, rfl, _, _, _⟩ := hy
  go_wp2_with fail
  refine (join_any _ _ _ hp (by simp) (by rw [hfl]; omega) (by rw [hfl]; exact hsw)).mono ?_
  rintro e w2 ⟨g, rfl, hg, hB, hb3⟩
  rw [hfl] at hB ⊢
  go_wp2
  go_ret
  exact ⟨g, rfl, Nat.le_trans hb2.size hg, hB, hb2.trans (hb3.mono hb2.size)⟩

theorem infoT : (Tryz.prog.info? 9).map (fun i => (i.zero, i.size, i.bytes)) = some (some (.string ⟨#[]⟩), 1, 16) := by kernel_rfl

end Go.Proofs.YtoejjdebfjepaaaGreat

/- What is moved in a sound file system: it stays sound. No program's function. -/
set_option linter.unusedVariables false
set_option linter.unusedSimpArgs false
namespace Go.Proofs.YtoejjdebfjepaaaGreat

/-- A name stands for one entry. -/
theorem sort_one {es : List Ent} (hs : sortP es) {n : List UInt8} {a b : Int} (ha : (n, a) ∈ es) (hb : (n, b) ∈ es) : a = b := by
  obtain ⟨i, hi, e1⟩ := List.getElem_of_mem ha
  obtain ⟨j, hj, e2⟩ := List.getElem_of_mem hb
  rcases Nat.lt_trichotomy i j with h | h | h
  · have := List.pairwise_iff_getElem.1 hs i j hi hj h
    rw [e1, e2] at this
    exact absurd rfl (lt_ne this)
  · subst h
    rw [e1] at e2
    exact congrArg Prod.snd e2
  · have := List.pairwise_iff_getElem.1 hs j i hj hi h
    rw [e1, e2] at this
    exact absurd rfl (lt_ne this)
section
variable {mi mb nx : Int} {l l' : List Nd} {ad : Int} {an : List UInt8} {ai bd : Int} {bn : List UInt8}
/-- What stays where it was. -/
theorem moved_keep (h : SoundP mi mb nx l) (hv : Mv l ad an ai bd bn) (m : Moved l l' ad an ai bd bn) {k i : Int} {n : List UInt8} (he : (n, i) ∈ (getN l k).ents) (hne : i ≠ ai) : (n, i) ∈ (getN l' k).ents := by
  refine (m.ents k _).2 (.inr ⟨he, fun ⟨hk, hn⟩ => hne ?_⟩)
  subst hk
  have hn' : n = an := hn
  subst hn'
  exact sort_one (dir_sort h k) he hv.ent
theorem mv_one (h : SoundP mi mb nx l) (hv : Mv l ad an ai bd bn) : ai ≠ 1 := by
  intro e
  have := names_pos hv.ent
  rw [e, h.noRoot] at this
  omega
theorem mv_out (h : SoundP mi mb nx l) (hv : Mv l ad an ai bd bn) (k : Nat) : parN l k bd ≠ ai := by
  cases hd : isDir l ai
  · intro e
    have := par_dirs h hv.dir k
    rw [e, hd] at this; cases this
  · exact hv.out hd k
/-- The directories that don't lie in it are come to as before. -/
theorem moved_dirs (h : SoundP mi mb nx l) (hv : Mv l ad an ai bd bn) (m : Moved l l' ad an ai bd bn) (q : Nat) : ∀ d, isDir l d = true → d ∈ lvN l q [1] → (∀ k, parN l k d ≠ ai) → Reach l' d := by
  induction q with
  | zero => intro d _ hm _; rw [List.mem_singleton.1 hm]; exact .root
  | succ q ih =>
    intro d hd hm ho
    by_cases h1 : d = 1
    · rw [h1]; exact .root
    obtain ⟨hh, hk⟩ := dir_parts hd
    have hg := get_mem hh
    obtain ⟨_, n, hn⟩ := h.once _ hg.1 hk (by rw [hg.2]; exact h1)
    rw [hg.2] at hn
    have hp := ih _ (par_dir h hd) (lv_par h hd hm) (fun k => ho (k + 1))
    exact .step hp (moved_keep h hv m hn (fun e => ho 0 e))
theorem moved_reach (h : SoundP mi mb nx l) (hv : Mv l ad an ai bd bn) (m : Moved l l' ad an ai bd bn) {k : Int} (hk : Reach l k) : Reach l' k := by
  obtain ⟨q, _, hq⟩ := on_level h.tree (dir_parts hv.dir).1
  have hbd := moved_dirs h hv m q bd hv.dir hq (mv_out h hv)
  have hai : Reach l' ai := .step (e := (bn, ai)) hbd ((m.ents bd _).2 (.inl ⟨rfl, rfl⟩))
  induction hk with
  | root => exact .root
  | @step i e _ he ih =>
    by_cases hne : e.2 = ai
    · rw [hne]; exact hai
    · exact .step ih (moved_keep h hv m (show (e.1, e.2) ∈ _ from he) hne)
theorem moved_get (m : Moved l l' ad an ai bd bn) {x : Nd} (hx : x ∈ l') : getN l' x.ino = x ∧ hasN l x.ino = true := by
  have := getN_of m.rise hx
  exact ⟨this.1, by rw [← m.has]; exact this.2⟩
theorem moved_sound (h : SoundP mi mb nx l) (hv : Mv l ad an ai bd bn) (m : Moved l l' ad an ai bd bn) : SoundP mi mb nx l' := by
  have hai1 := mv_one h hv
  have had : isDir l ad = true := by
    cases hd : isDir l ad
    · have hh := ents_has hv.ent
      have := h.tree.files _ (get_mem hh).1 (fun hk => by rw [dir_mk hh hk] at hd; cases hd)
      have he := hv.ent
      rw [this] at he; cases he
    · rfl
  have hold : ∀ x ∈ l', ∃ y ∈ l, y = getN l x.ino ∧ y.ino = x.ino ∧ y.kind = x.kind ∧ y.links = x.links ∧ y.data = x.data := by
    intro x hx
    obtain ⟨hg, hh⟩ := moved_get m hx
    obtain ⟨s1, s2, s3, s4⟩ := m.same x.ino
    rw [hg] at s1 s2 s3 s4
    exact ⟨_, (get_mem hh).1, rfl, s1.symm, s2.symm, s3.symm, s4.symm⟩
  have hpar : ∀ x ∈ l', x.parent = if x.ino = ai ∧ (getN l ai).kind = 2 then bd else (getN l x.ino).parent := fun x hx => by
    have := m.par x.ino
    rwa [(moved_get m hx).1] at this
  refine ⟨h.lim, ?_, m.rise, by rw [m.has]; exact h.root, by rw [(m.same 1).2.1]; exact h.rootDir, ?_, ?_, ?_, by rw [m.names]; exact h.noRoot, ?_, ?_, ?_, ?_, ?_⟩
  · intro x hx
    obtain ⟨y, hy, _, e1, _⟩ := hold x hx
    rw [← e1]; exact h.ino y hy
  · intro x hx
    obtain ⟨y, hy, ey, e1, e2, e3, e4⟩ := hold x hx
    have hs := h.kind y hy
    have hg := (moved_get m hx).1
    by_cases hk : x.kind = 2
    · unfold secondX at hs ⊢
      rw [if_pos (e2.trans hk), Bool.and_eq_true] at hs
      rw [if_pos hk, Bool.and_eq_true, ← e4]
      refine ⟨hs.1, ?_⟩
      have := m.right x.ino (by rw [← ey]; exact hs.2)
      rwa [hg] at this
    · have hne : ∀ d, isDir l d = true → x.ino ≠ d := fun d hd e => hk (by
        rw [← e2, ey, e]; exact (dir_parts hd).2)
      have hb := m.bare x.ino (hne ad had) (hne bd hv.dir)
      rw [hg, ← ey] at hb
      have hp := hpar x hx
      rw [if_neg (fun hc => hk (by rw [← e2, ey, hc.1]; exact hc.2)), ← ey] at hp
      unfold secondX at hs ⊢
      rw [if_neg (by rw [e2]; exact hk)] at hs
      rw [if_neg hk, hb, hp, ← e4, ← e2]
      exact hs
  · intro x hx e he
    rw [m.has]
    have hg := (moved_get m hx).1
    rw [← hg] at he
    rcases (m.ents x.ino e).1 he with ⟨_, rfl⟩ | ⟨he, _⟩
    · exact (h.there _ (get_mem (ents_has hv.ent)).1 (an, ai) hv.ent :)
    · exact h.there _ (get_mem (ents_has (show (e.1, e.2) ∈ _ from he))).1 e he
  · intro x hx
    obtain ⟨y, hy, _, e1, _, e3, _⟩ := hold x hx
    rw [m.names, ← e3, ← e1]; exact h.links y hy
  · rw [m.par, if_neg (fun hc => hai1 hc.1.symm)]; exact h.rootPar
  · intro x hx h1
    obtain ⟨y, hy, _, e1, _⟩ := hold x hx
    rw [m.names, ← e1]; exact h.named y hy (by rw [e1]; exact h1)
  · intro x hx hk h1
    obtain ⟨y, hy, ey, e1, e2, _⟩ := hold x hx
    obtain ⟨h7, n, hn⟩ := h.once y hy (e2.trans hk) (by rw [e1]; exact h1)
    rw [m.names, hpar x hx, ← e1]
    refine ⟨h7, ?_⟩
    by_cases hc : y.ino = ai
    · have hyk : (getN l y.ino).kind = 2 := by rw [(getN_of h.rise hy).1]; exact e2.trans hk
      rw [if_pos ⟨hc, by rw [← hc]; exact hyk⟩, hc]
      exact ⟨bn, (m.ents bd _).2 (.inl ⟨rfl, rfl⟩)⟩
    · rw [if_neg (fun h => hc h.1), (getN_of h.rise hy).1]
      exact ⟨n, moved_keep h hv m hn hc⟩
  · intro x hx
    obtain ⟨y, hy, _, e1, _⟩ := hold x hx
    rw [← e1]; exact moved_reach h hv m (h.reach y hy)
  · have := h.fits
    unfold fitsB at this ⊢
    rw [m.len, m.bytes]; exact this
end
end Go.Proofs.YtoejjdebfjepaaaGreat

/- What lies below what is moved; what is moved there and back. No program's function. -/
set_option linter.unusedVariables false
set_option linter.unusedSimpArgs false
namespace Go.Proofs.YtoejjdebfjepaaaGreat

/-- Who lies below an inode, it among them. -/
inductive SubN (l : List Nd) (a : Int) : Int → Prop
  | self : SubN l a a
  | step {i : Int} {e : Ent} : SubN l a i → e ∈ (getN l i).ents → SubN l a e.2
theorem sort_same : ∀ {a b : List Ent}, sortP a → sortP b → (∀ e, e ∈ a ↔ e ∈ b) → a = b
  | [], [], _, _, _ => rfl
  | [], y :: b, _, _, h => by have := (h y).2 (by simp); cases this
  | x :: a, [], _, _, h => by have := (h x).1 (by simp); cases this
  | x :: a, y :: b, ha, hb, h => by
    obtain ⟨ha1, ha2⟩ := List.pairwise_cons.1 ha
    obtain ⟨hb1, hb2⟩ := List.pairwise_cons.1 hb
    have e : x = y := by
      rcases List.mem_cons.1 ((h x).1 (by simp)) with e | hx
      · exact e
      rcases List.mem_cons.1 ((h y).2 (by simp)) with e | hy
      · exact e.symm
      have h1 := ha1 y hy
      have h2 := hb1 x hx
      rw [lt_asym h1] at h2
      cases h2
    subst e
    rw [sort_same ha2 hb2 fun e => ?_]
    constructor
    · intro he
      rcases List.mem_cons.1 ((h e).1 (by simp [he])) with rfl | h'
      · exact absurd rfl (lt_ne (ha1 e he))
      · exact h'
    · intro he
      rcases List.mem_cons.1 ((h e).2 (by simp [he])) with rfl | h'
      · exact absurd rfl (lt_ne (hb1 e he))
      · exact h'
section
variable {mi mb nx : Int} {l l' : List Nd} {ad : Int} {an : List UInt8} {ai bd : Int} {bn : List UInt8}
theorem sub_par (h : SoundP mi mb nx l) {a i : Int} (hs : SubN l a i) : isDir l i = true → ∃ k, parN l k i = a := by
  induction hs with
  | self => intro _; exact ⟨0, rfl⟩
  | @step i e _ he ih =>
    intro hd
    have hdi : isDir l i = true := by
      have hh := ents_has (show (e.1, e.2) ∈ _ from he)
      by_cases hk : (getN l i).kind = 2
      · exact dir_mk hh hk
      · have := h.tree.files _ (get_mem hh).1 hk
        rw [this] at he; cases he
    obtain ⟨k, hk⟩ := ih hdi
    refine ⟨k + 1, ?_⟩
    show parN l k (getN l e.2).parent = a
    rw [only_parent h hd (show (e.1, e.2) ∈ _ from he)]
    exact hk
theorem mv_dir (h : SoundP mi mb nx l) (hv : Mv l ad an ai bd bn) : isDir l ad = true := by
  cases hd : isDir l ad
  · have hh := ents_has hv.ent
    have := h.tree.files _ (get_mem hh).1 (fun hk => by rw [dir_mk hh hk] at hd; cases hd)
    have he := hv.ent
    rw [this] at he; cases he
  · rfl
theorem sub_out (h : SoundP mi mb nx l) (hv : Mv l ad an ai bd bn) {i : Int} (hs : SubN l ai i) : i ≠ ad ∧ i ≠ bd := by
  constructor
  · rintro rfl
    have hd := mv_dir h hv
    obtain ⟨k, hk⟩ := sub_par h hs hd
    have hai : isDir l ai = true := by rw [← hk]; exact par_dirs h hd k
    refine par_loop h hai (mv_one h hv) k ?_
    show parN l k (getN l ai).parent = ai
    rw [only_parent h hai hv.ent]
    exact hk
  · rintro rfl
    obtain ⟨k, hk⟩ := sub_par h hs hv.dir
    exact mv_out h hv k hk
theorem moved_below (h : SoundP mi mb nx l) (hv : Mv l ad an ai bd bn) (m : Moved l l' ad an ai bd bn) (d : Nat) : ∀ i p, SubN l ai i → belowN l' d i p = belowN l d i p := by
  induction d with
  | zero => intro i p _; rfl
  | succ d ih =>
    intro i p hs
    obtain ⟨h1, h2⟩ := sub_out h hv hs
    show (if hasN l' i = true then _ else _) = (if hasN l i = true then _ else _)
    rw [m.has, m.bare i h1 h2]
    split
    · congr 1
      have : ∀ es : List Ent, (∀ e ∈ es, e ∈ (getN l i).ents) → es.flatMap (fun e => belowN l' d e.2 (underB p e.1)) = es.flatMap (fun e => belowN l d e.2 (underB p e.1)) := by
        intro es
        induction es with
        | nil => intro _; rfl
        | cons e r ih2 =>
          intro hm
          rw [List.flatMap_cons, List.flatMap_cons, ih _ _ (.step hs (hm e (by simp))), ih2 fun x hx => hm x (by simp [hx])]
      exact this _ fun e he => he
    · rfl
/-- There and back: where nothing was, and where it lay. -/
theorem moved_mv (h : SoundP mi mb nx l) (hv : Mv l ad an ai bd bn) (m : Moved l l' ad an ai bd bn) (hdiff : ¬ (ad = bd ∧ an = bn)) (hm : mayB an = true) : Mv l' bd bn ai ad an where
  ent := (m.ents bd _).2 (.inl ⟨rfl, rfl⟩)
  dir := by
    obtain ⟨h1, h2⟩ := dir_parts (mv_dir h hv)
    exact dir_mk (by rw [m.has]; exact h1) (by rw [(m.same ad).2.1]; exact h2)
  gone := by
    rw [Bool.eq_false_iff]
    intro hh
    unfold hasB at hh
    obtain ⟨e, he, hn⟩ := List.any_eq_true.1 hh
    have hn : e.1 = an := by simpa using hn
    rcases (m.ents ad e).1 he with ⟨hb, rfl⟩ | ⟨_, hne⟩
    · exact hdiff ⟨hb, hn.symm⟩
    · exact hne ⟨rfl, hn⟩
  may := hm
  out := by
    intro hd k
    have hs' := moved_sound h hv m
    have hdl : isDir l ai = true := by
      obtain ⟨h1, h2⟩ := dir_parts hd
      exact dir_mk (by rw [← m.has]; exact h1) (by rw [← (m.same ai).2.1]; exact h2)
    -- the directories above where it lay are those of before: none is the one that was moved
    have hup : ∀ k, parN l k ad ≠ ai := by
      intro k e
      refine par_loop h hdl (mv_one h hv) k ?_
      show parN l k (getN l ai).parent = ai
      rw [only_parent h hdl hv.ent]
      exact e
    have heq : ∀ k d, (∀ j, parN l j d ≠ ai) → parN l' k d = parN l k d := by
      intro k
      induction k with
      | zero => intro d _; rfl
      | succ k ih =>
        intro d ho
        show parN l' k (getN l' d).parent = parN l k (getN l d).parent
        rw [m.par, if_neg (fun hc => ho 0 hc.1)]
        exact ih _ (fun j => ho (j + 1))
    rw [heq k ad hup]
    exact hup k
theorem moved_sort (h : SoundP mi mb nx l) (m : SoundP mi mb nx l') (k : Int) : sortP (getN l' k).ents := dir_sort m k
theorem moved_back {l2 : List Nd} (h : SoundP mi mb nx l) (hv : Mv l ad an ai bd bn) (m : Moved l l' ad an ai bd bn) (m2 : Moved l' l2 bd bn ai ad an) (hv2 : Mv l' bd bn ai ad an) : l2.map Nd.key = l.map Nd.key := by
  have hs' := moved_sound h hv m
  have hs2 := moved_sound hs' hv2 m2
  refine key_ext_rise m2.rise h.rise (fun k => (m2.has k).trans (m.has k)) (fun k hk => ?_)
  obtain ⟨a1, a2, a3, a4⟩ := m.same k
  obtain ⟨b1, b2, b3, b4⟩ := m2.same k
  have hp : (getN l2 k).parent = (getN l k).parent := by
    rw [m2.par]
    split
    · rename_i hc
      have hkd : (getN l ai).kind = 2 := by rw [← (m.same ai).2.1]; exact hc.2
      have hd : isDir l ai = true := dir_mk (h.there _ (get_mem (ents_has hv.ent)).1 (an, ai) hv.ent :) hkd
      rw [hc.1]
      exact (only_parent h hd hv.ent).symm
    · rename_i hc
      rw [m.par, if_neg (fun hc' => hc ⟨hc'.1, by rw [(m.same ai).2.1]; exact hc'.2⟩)]
  have he : (getN l2 k).ents = (getN l k).ents := by
    refine sort_same (dir_sort hs2 k) (dir_sort h k) fun e => ?_
    rw [m2.ents, m.ents]
    constructor
    · rintro (⟨rfl, rfl⟩ | ⟨⟨rfl, rfl⟩ | ⟨h1, _⟩, h2⟩)
      · exact hv.ent
      · exact absurd ⟨rfl, rfl⟩ h2
      · exact h1
    · intro h1
      by_cases hc : k = ad ∧ e.1 = an
      · left
        obtain ⟨rfl, hn⟩ := hc
        refine ⟨rfl, ?_⟩
        obtain ⟨en, ei⟩ := e
        have hn : en = an := hn
        subst hn
        rw [sort_one (dir_sort h k) h1 hv.ent]
      · right
        refine ⟨.inr ⟨h1, hc⟩, fun hc2 => ?_⟩
        obtain ⟨rfl, hn⟩ := hc2
        have := (List.any_eq_false.1 hv.gone) e h1
        exact this (by simpa using hn)
  unfold Nd.key
  rw [b1, b2, b3, b4, a1, a2, a3, a4, hp, he]
end
end Go.Proofs.YtoejjdebfjepaaaGreat

/- What lies below what is moved, where something lay at the place to which it is moved. No program's function. -/
set_option linter.unusedVariables false
set_option linter.unusedSimpArgs false
namespace Go.Proofs.YtoejjdebfjepaaaGreat

theorem sub_inv {l : List Nd} {a k : Int} (hs : SubN l a k) : k = a ∨ ∃ i n, SubN l a i ∧ (n, k) ∈ (getN l i).ents := by
  cases hs with
  | self => exact .inl rfl
  | @step i e h1 h2 => exact .inr ⟨i, e.1, h1, h2⟩
theorem sub_not {mi mb nx : Int} {l : List Nd} (h : SoundP mi mb nx l) {a b : Int} (hd : isDir l b = true) (ho : ∀ k, parN l k b ≠ a) : ∀ i, SubN l a i → i ≠ b := by
  rintro i hs rfl
  obtain ⟨k, hk⟩ := sub_par h hs hd
  exact ho k hk
theorem depth_same {l : List Nd} (t : Tree l) (i : Int) (p : List UInt8) {n : Nat} (hn : l.length ≤ n) : belowN l (n + 1) i p = belowN l (l.length + 1) i p := by
  have := below_more t i p (n - l.length)
  rwa [show l.length + 1 + (n - l.length) = n + 1 from by omega] at this
section
variable {mi mb nx : Int} {l l' : List Nd} {ad : Int} {an : List UInt8} {ai bd o : Int} {bn : List UInt8} {ev : Go.Value}
theorem un_below (h : SoundP mi mb nx l) (hg : Gone l bd bn o) {a : Int} (ha : o ≠ a) (hns : ∀ i, SubN l a i → i ≠ bd) (d : Nat) : ∀ i p, SubN l a i → belowN (unL l bd bn o ev) d i p = belowN l d i p := by
  have hi := gone_has h hg
  have hno : SubN l a o → ¬ (getN l o).links - 1 = 0 := by
    intro hs h0
    have hl := h.links _ (get_mem hi).1
    rw [(get_mem hi).2] at hl
    have hn : namesN l o = 1 := by omega
    rcases sub_inv hs with e | ⟨i, n, h1, h2⟩
    · exact ha e
    · exact hns i h1 (by rw [← in_of hn h2, in_of hn hg.ent])
  induction d with
  | zero => intro i p _; rfl
  | succ d ih =>
    intro i p hs
    have hh : hasN (unL l bd bn o ev) i = hasN l i ∧ (getN (unL l bd bn o ev) i).ents = (getN l i).ents := by
      rw [un_has h hg, un_get h hg]
      by_cases e : i = o
      · subst e
        rw [if_pos rfl, if_pos rfl, if_neg (hno hs), hi]
        exact ⟨by simpa using hno hs, rfl⟩
      · rw [if_neg e, if_neg e, if_neg (hns i hs)]
        exact ⟨rfl, rfl⟩
    show (if hasN (unL l bd bn o ev) i = true then _ else _) = (if hasN l i = true then _ else _)
    rw [hh.1, hh.2]
    split
    · congr 1
      have : ∀ es : List Ent, (∀ e ∈ es, e ∈ (getN l i).ents) → es.flatMap (fun e => belowN (unL l bd bn o ev) d e.2 (underB p e.1)) = es.flatMap (fun e => belowN l d e.2 (underB p e.1)) := by
        intro es
        induction es with
        | nil => intro _; rfl
        | cons e r ih2 =>
          intro hm
          rw [List.flatMap_cons, List.flatMap_cons, ih _ _ (.step hs (hm e (by simp))), ih2 fun x hx => hm x (by simp [hx])]
      exact this _ fun e he => he
    · rfl
/-- Where nothing lay. -/
theorem moved_depth (h : SoundP mi mb nx l) (hv : Mv l ad an ai bd bn) (m : Moved l l' ad an ai bd bn) (q : List UInt8) : belowN l' (l'.length + 1) ai q = belowN l (l.length + 1) ai q := by
  rw [m.len]
  exact moved_below h hv m _ ai q .self
/-- Where something lay. -/
theorem over_depth (h : SoundP mi mb nx l) (hg : Gone l bd bn o) (hv : Mv (unL l bd bn o ev) ad an ai bd bn) (m : Moved (unL l bd bn o ev) l' ad an ai bd bn) (ha : o ≠ ai) (ho : ∀ k, parN l k bd ≠ ai) (q : List UInt8) :
    belowN l' (l'.length + 1) ai q = belowN l (l.length + 1) ai q := by
  have hu := un_sound (ev := ev) h hg
  rw [moved_depth hu hv m, ← depth_same hu.tree ai q (un_len (ev := ev) h hg)]
  exact un_below h hg ha (sub_not h (gone_dir h hg) ho) _ ai q .self
/-- What is bare is nobody's parent. -/
theorem par_bare (h : SoundP mi mb nx l) {o : Int} (hb : (getN l o).ents = []) {d : Int} (hd : isDir l d = true) (hne : d ≠ o) : ∀ k, parN l k d ≠ o := by
  intro k
  induction k with
  | zero => exact hne
  | succ k ih =>
    rw [par_add l k 1 d]
    show (getN l (parN l k d)).parent ≠ o
    have hx := par_dirs h hd k
    generalize parN l k d = x at *
    by_cases h1 : x = 1
    · rw [h1, h.rootPar, ← h1]; exact ih
    · obtain ⟨hh, hk⟩ := dir_parts hx
      obtain ⟨_, n, hn⟩ := h.once _ (get_mem hh).1 hk (by rw [(get_mem hh).2]; exact h1)
      rw [(get_mem hh).2] at hn
      rintro e
      rw [e, hb] at hn
      cases hn
theorem un_par (h : SoundP mi mb nx l) (hg : Gone l bd bn o) (k : Nat) : ∀ d, (∀ j, parN l j d ≠ o) → parN (unL l bd bn o ev) k d = parN l k d := by
  induction k with
  | zero => intro d _; rfl
  | succ k ih =>
    intro d hd
    show parN (unL l bd bn o ev) k (getN (unL l bd bn o ev) d).parent = parN l k (getN l d).parent
    have e : (getN (unL l bd bn o ev) d).parent = (getN l d).parent := by
      have h0 : d ≠ o := hd 0
      rw [un_get h hg, if_neg h0]
      split
      · rename_i e; subst e; rfl
      · rfl
    rw [e]
    exact ih _ fun j => hd (j + 1)
/-- What is moved to where something lay, that being away: a move to where nothing is. -/
theorem un_mv (h : SoundP mi mb nx l) (hg : Gone l bd bn o) (he : (an, ai) ∈ (getN l ad).ents) (ha : ai ≠ o) (hm : mayB bn = true) (ho : ∀ k, parN l k bd ≠ ai) : Mv (unL l bd bn o ev) ad an ai bd bn where
  ent := un_keep h hg he ha
  dir := by
    obtain ⟨h1, h2⟩ := dir_parts (gone_dir h hg)
    have hne := gone_ne hg
    refine dir_mk ?_ ?_
    · rw [un_has h hg, if_neg (fun e => hne e.symm)]; exact h1
    · rw [un_get h hg, if_neg (fun e => hne e.symm), if_pos rfl]; exact h2
  gone := by
    rw [un_get h hg, if_neg (fun e => gone_ne hg e.symm), if_pos rfl]
    show hasB (withoutB (getN l bd).ents bn) bn = false
    rw [(num_without (dir_sort h bd) bn bn).2]
    simp
  may := hm
  out := fun _ k => by
    rw [un_par h hg k bd (par_bare h hg.bare (gone_dir h hg) (fun e => gone_ne hg e.symm))]
    exact ho k
end
end Go.Proofs.YtoejjdebfjepaaaGreat

/- Where paths lead when something has been moved: the way to a directory that doesn't lie in it is as before, and what was moved is at its end. No program's function. -/
set_option linter.unusedVariables false
set_option linter.unusedSimpArgs false
namespace Go.Proofs.YtoejjdebfjepaaaGreat

theorem num_ent {es : List Ent} {n : List UInt8} (h : numB es n ≠ 0) : (n, numB es n) ∈ es := by
  cases hb : hasB es n
  · exact absurd (find_none hb).1 h
  · unfold hasB at hb
    obtain ⟨e, he, hn⟩ := List.any_eq_true.1 hb
    have hn : e.1 = n := by simpa using hn
    unfold numB
    cases hf : es.find? (fun e => e.1 == n) with
    | none =>
      have := List.find?_eq_none.1 hf e he
      exact absurd (by simpa using hn) this
    | some x =>
      have h1 := List.mem_of_find?_eq_some hf
      have h2 : x.1 = n := by have := List.find?_some hf; simpa using this
      rw [← h2]
      exact h1
section
variable {mi mb nx : Int} {l l' : List Nd} {ad : Int} {an : List UInt8} {ai bd : Int} {bn : List UInt8}
theorem num_one (h : SoundP mi mb nx l) {k j : Int} {n : List UInt8} (he : (n, j) ∈ (getN l k).ents) : numB (getN l k).ents n = j := by
  have hj := h.ino _ (get_mem (h.there _ (get_mem (ents_has he)).1 (n, j) he)).1
  have hg : (getN l j).ino = j := (get_mem (h.there _ (get_mem (ents_has he)).1 (n, j) he : hasN l j = true)).2
  have hne : numB (getN l k).ents n ≠ 0 := by
    intro h0
    cases hb : hasB (getN l k).ents n
    · have := List.any_eq_false.1 (show (getN l k).ents.any (fun e => e.1 == n) = false from hb) _ he
      simp at this
    · have hp : (getN l k).ents.Pairwise (fun a b => a.1 ≠ b.1) := (dir_sort h k).imp fun h => lt_ne h
      have := (num_mem hp he).1
      rw [h0] at this
      have h2 : j = 0 := this.symm
      have h3 : 1 ≤ (getN l j).ino := hj.1
      omega
  exact sort_one (dir_sort h k) (num_ent hne) he
/-- The directories on the way to one are those above it. -/
theorem way_par (h : SoundP mi mb nx l) (r : List (List UInt8)) : ∀ (s t : Sp), s.ino ≠ 0 → atN l s r = (t, 0) → isDir l t.ino = true → ∃ k, parN l k t.ino = s.ino := by
  induction r with
  | nil => intro s t _ e _; rw [show t = s from (Prod.mk.inj e).1.symm]; exact ⟨0, rfl⟩
  | cons n r ih =>
    intro s t h0 e hd
    by_cases hk : (getN l s.ino).kind = 2
    · rw [at_on h0 hk] at e
      by_cases h1 : (stepS l s.ino n).ino = 0
      · cases r with
        | nil =>
          rw [show t = stepS l s.ino n from (Prod.mk.inj e).1.symm, h1] at hd
          have := h.ino _ (get_mem (dir_parts hd).1).1
          rw [(get_mem (dir_parts hd).1).2] at this
          omega
        | cons c r => rw [at_gone h1] at e; cases e
      obtain ⟨k, hk2⟩ := ih _ t h1 e hd
      refine ⟨k + 1, ?_⟩
      have hj := par_dirs h hd k
      rw [par_add l k 1 t.ino, hk2]
      rw [hk2] at hj
      show (getN l (stepS l s.ino n).ino).parent = s.ino
      exact only_parent h hj (num_ent (n := n) h1)
    · rw [at_file h0 hk] at e; cases e
theorem moved_way (h : SoundP mi mb nx l) (hv : Mv l ad an ai bd bn) (m : Moved l l' ad an ai bd bn) (r : List (List UInt8)) : ∀ (s t : Sp), s.ino ≠ 0 → atN l s r = (t, 0) → isDir l t.ino = true → (∀ k, parN l k t.ino ≠ ai) → atN l' s r = (t, 0) := by
  have hs' := moved_sound h hv m
  induction r with
  | nil => intro s t _ e _ _; exact e
  | cons n r ih =>
    intro s t h0 e hd ho
    by_cases hk : (getN l s.ino).kind = 2
    · have e0 := e
      rw [at_on h0 hk] at e
      have h1 : (stepS l s.ino n).ino ≠ 0 := by
        intro h1
        cases r with
        | nil =>
          rw [show t = stepS l s.ino n from (Prod.mk.inj e).1.symm, h1] at hd
          have := h.ino _ (get_mem (dir_parts hd).1).1
          rw [(get_mem (dir_parts hd).1).2] at this
          omega
        | cons c r => rw [at_gone h1] at e; cases e
      obtain ⟨k, hk2⟩ := way_par h r _ t h1 e hd
      have hne : (stepS l s.ino n).ino ≠ ai := by rw [← hk2]; exact ho k
      have hent := moved_keep h hv m (num_ent (n := n) h1) hne
      have hst : stepS l' s.ino n = stepS l s.ino n := by
        unfold stepS
        rw [(m.same s.ino).1, num_one hs' hent]
      rw [at_on h0 (by rw [(m.same s.ino).2.1]; exact hk), hst]
      exact ih _ t h1 e hd ho
    · rw [at_file h0 hk] at e; cases e
/-- What was moved is where it was moved to. -/
theorem moved_at (h : SoundP mi mb nx l) (hv : Mv l ad an ai bd bn) (m : Moved l l' ad an ai bd bn) (r : List (List UInt8)) {s t : Sp} (h0 : s.ino ≠ 0) (e : atN l s r = (t, 0)) (ht : t.ino = bd) : atN l' s (r ++ [bn]) = (⟨bd, bn, ai⟩, 0) := by
  have hs' := moved_sound h hv m
  have hb := hv.dir
  obtain ⟨hh, hk⟩ := dir_parts hb
  have hb0 : bd ≠ 0 := by
    have := h.ino _ (get_mem hh).1
    rw [(get_mem hh).2] at this
    omega
  have hw := moved_way h hv m r s t h0 e (by rw [ht]; exact hb) (by rw [ht]; exact mv_out h hv)
  rw [at_append r [bn] hw, at_on (by rw [ht]; exact hb0) (by rw [ht, (m.same bd).2.1]; exact hk), ht]
  show (stepS l' bd bn, (0 : Int)) = _
  unfold stepS
  rw [num_one hs' ((m.ents bd (bn, ai)).2 (.inl ⟨rfl, rfl⟩)), (m.same bd).1, (get_mem hh).2]
end
end Go.Proofs.YtoejjdebfjepaaaGreat

/- What is renamed: the move is one, the old path leads nowhere. No program's function. -/
set_option linter.unusedVariables false
set_option linter.unusedSimpArgs false
namespace Go.Proofs.YtoejjdebfjepaaaGreat

theorem at_last {l : List Nd} {n : List UInt8} {X : Sp} (r : List (List UInt8)) : ∀ s : Sp, atN l s (r ++ [n]) = (X, 0) → ∃ t, atN l s r = (t, 0) ∧ t.ino ≠ 0 ∧ (getN l t.ino).kind = 2 ∧ X = stepS l t.ino n := by
  induction r with
  | nil =>
    intro s e
    rw [List.nil_append] at e
    by_cases h0 : s.ino = 0
    · rw [at_gone h0] at e; cases e
    by_cases hk : (getN l s.ino).kind = 2
    · rw [at_on h0 hk] at e
      exact ⟨s, rfl, h0, hk, (Prod.mk.inj e).1.symm⟩
    · rw [at_file h0 hk] at e; cases e
  | cons c r ih =>
    intro s e
    rw [List.cons_append] at e
    by_cases h0 : s.ino = 0
    · rw [at_gone h0] at e; cases e
    by_cases hk : (getN l s.ino).kind = 2
    · rw [at_on h0 hk] at e
      obtain ⟨t, h1, h2, h3, h4⟩ := ih _ e
      exact ⟨t, by rw [at_on h0 hk]; exact h1, h2, h3, h4⟩
    · rw [at_file h0 hk] at e; cases e
section
variable {mi mb nx : Int} {l l' : List Nd} {ad : Int} {an : List UInt8} {ai bd : Int} {bn : List UInt8} {o : Int} {ev : Go.Value}
/-- An entry taken away: the ways to the directories are as before. -/
theorem un_way (h : SoundP mi mb nx l) (hg : Gone l bd bn o) (r : List (List UInt8)) : ∀ (s t : Sp), s.ino ≠ 0 → atN l s r = (t, 0) → isDir l t.ino = true → t.ino ≠ o → atN (unL l bd bn o ev) s r = (t, 0) := by
  have hs' := un_sound (ev := ev) h hg
  induction r with
  | nil => intro s t _ e _ _; exact e
  | cons n r ih =>
    intro s t h0 e hd ho
    by_cases hk : (getN l s.ino).kind = 2
    · rw [at_on h0 hk] at e
      have h1 : (stepS l s.ino n).ino ≠ 0 := by
        intro h1
        cases r with
        | nil =>
          rw [show t = stepS l s.ino n from (Prod.mk.inj e).1.symm, h1] at hd
          exact has_ne0 h (dir_parts hd).1 rfl
        | cons c r => rw [at_gone h1] at e; cases e
      obtain ⟨k, hk2⟩ := way_par h r _ t h1 e hd
      have hne : (stepS l s.ino n).ino ≠ o := by rw [← hk2]; exact par_bare h hg.bare hd ho k
      have he := num_ent (n := n) h1
      have hso : s.ino ≠ o := by
        intro e2
        rw [e2, hg.bare] at he
        cases he
      have hent := un_keep (ev := ev) h hg he hne
      have hgx : (getN (unL l bd bn o ev) s.ino).ino = (getN l s.ino).ino ∧ (getN (unL l bd bn o ev) s.ino).kind = (getN l s.ino).kind := by
        rw [un_get h hg, if_neg hso]
        split
        · rename_i e2; rw [e2]; exact ⟨rfl, rfl⟩
        · exact ⟨rfl, rfl⟩
      have hst : stepS (unL l bd bn o ev) s.ino n = stepS l s.ino n := by
        unfold stepS
        rw [hgx.1, num_one hs' hent]
      rw [at_on h0 (by rw [hgx.2]; exact hk), hst]
      exact ih _ t h1 e hd ho
    · rw [at_file h0 hk] at e; cases e
/-- Where something was moved from, its directory doesn't lie in it. -/
theorem from_out (h : SoundP mi mb nx l) (hv : Mv l ad an ai bd bn) (k : Nat) : parN l k ad ≠ ai := by
  intro e
  cases hd : isDir l ai
  · have := par_dirs h (mv_dir h hv) k
    rw [e, hd] at this; cases this
  · have hp := only_parent h hd hv.ent
    refine par_loop h hd (mv_one h hv) k ?_
    rw [Nat.add_comm, par_add]
    show parN l k (getN l ai).parent = ai
    rw [hp]; exact e
/-- The old place is empty. -/
theorem moved_gone (h : SoundP mi mb nx l) (hv : Mv l ad an ai bd bn) (m : Moved l l' ad an ai bd bn) (hdiff : ¬ (ad = bd ∧ an = bn)) (r : List (List UInt8)) {s t : Sp} (h0 : s.ino ≠ 0) (e : atN l s r = (t, 0)) (ht : t.ino = ad) : atN l' s (r ++ [an]) = (⟨ad, an, 0⟩, 0) := by
  have hd := mv_dir h hv
  obtain ⟨hh, hk⟩ := dir_parts hd
  have hw := moved_way h hv m r s t h0 e (by rw [ht]; exact hd) (by rw [ht]; exact from_out h hv)
  rw [at_append r [an] hw, at_on (by rw [ht]; exact has_ne0 h hh) (by rw [ht, (m.same ad).2.1]; exact hk), ht]
  show (stepS l' ad an, (0 : Int)) = _
  unfold stepS
  have hz : numB (getN l' ad).ents an = 0 := by
    refine Decidable.byContradiction fun hn => ?_
    rcases (m.ents ad _).1 (num_ent hn) with ⟨h1, h2⟩ | ⟨_, h2⟩
    · exact hdiff ⟨h1, (Prod.mk.inj h2).1⟩
    · exact h2 ⟨rfl, rfl⟩
  rw [hz, (m.same ad).1, (get_mem hh).2]
end
/-- What a rename moves. -/
theorem ren_mv {mi mb nx : Int} {l : List Nd} (h : SoundP mi mb nx l) {A B : Sp} (sA : Spot l A) (sB : Spot l B) (t : RenT l A B) (ev : Go.Value) : Mv (tL l B ev) A.dir A.name A.ino B.dir B.name := by
  obtain ⟨a1, a2, a3⟩ := sA.entry t.aname
  obtain ⟨b1, b2, b3⟩ := sB.entry t.bname
  rw [decide_eq_true t.aino] at a3
  have hent := (has_num h.tree a3).1
  rw [a2] at hent
  have hho : ∀ k, parN l k B.dir ≠ A.ino := by
    intro k e
    cases hd : isDir l A.ino
    · have := par_dirs h b1 k
      rw [e, hd] at this; cases this
    · exact t.out ⟨(dir_parts hd).2, (inside_iff h b1).2 ⟨k, e⟩⟩
  unfold tL
  by_cases hb : B.ino = 0
  · rw [if_neg (by simp [hb])]
    exact ⟨hent, b1, by rw [b3, hb]; rfl, t.may hb, fun _ => hho⟩
  · rw [if_pos hb]
    rw [decide_eq_true hb] at b3
    have hbe := (has_num h.tree b3).1
    have hm : mayB B.name = true := by
      obtain ⟨g1, g2⟩ := dir_parts b1
      have g := ((rightB_iff _).1 (h.tree.rights _ (get_mem g1).1 g2)).1 _ hbe
      unfold goodE at g
      rw [Bool.and_eq_true] at g
      exact g.1
    exact un_mv h (spot_gone h sB hb t.bname (t.bare hb)) hent t.ne hm hho
end Go.Proofs.YtoejjdebfjepaaaGreat

/- The way on, reckoned: with steps counted, so that it can be run. No program's function. -/
set_option linter.unusedVariables false
set_option linter.unusedSimpArgs false
namespace Go.Proofs.YtoejjdebfjepaaaGreat

def onF (l : List Nd) (fo : Bool) : Nat → Nat → Sp → List (List UInt8) → Bool → Option (Sp × Int)
  | 0, _, _, _, _ => none
  | k + 1, g, s, todo, dir =>
    match todo with
    | [] => some (if (hasN l s.ino && dir && (getN l s.ino).kind != 2) = true then (zeroS, 3) else (s, 0))
    | n :: r =>
      if s.ino = 0 then some (zeroS, 1)
      else if (getN l s.ino).kind = 2 then
        if n = [46] then onF l fo k g ⟨0, [], (getN l s.ino).ino⟩ r dir
        else if n = [46, 46] then onF l fo k g ⟨0, [], (getN l s.ino).parent⟩ r dir
        else if stopB l fo dir s.ino n r = true then onF l fo k g (stepS l s.ino n) r dir
        else match g with
          | 0 => some (zeroS, 6)
          | g + 1 => if longB (lnkD l s.ino n) = true then some (zeroS, 7)
            else onF l fo k g ⟨0, [], if absB (lnkD l s.ino n) = true then 1 else (getN l s.ino).ino⟩ (namesB (lnkD l s.ino n) ++ r) (dir || (slashB (lnkD l s.ino n) && r.isEmpty))
      else some (zeroS, 3)
theorem onF_eq {l : List Nd} {fo : Bool} (k : Nat) : ∀ {g : Nat} {s : Sp} {todo : List (List UInt8)} {dir : Bool} {r : Sp × Int}, onF l fo k g s todo dir = some r → onN l fo g s todo dir = r := by
  induction k with
  | zero => intro g s todo dir r h; cases h
  | succ k ih =>
    intro g s todo dir r h
    cases todo with
    | nil => rw [on_nil]; exact Option.some.inj h
    | cons n t =>
      unfold onF at h
      dsimp only at h
      by_cases h0 : s.ino = 0
      · rw [if_pos h0] at h; rw [on_gone h0]; exact Option.some.inj h
      rw [if_neg h0] at h
      by_cases hk : (getN l s.ino).kind = 2
      · rw [if_pos hk] at h
        by_cases h1 : n = [46]
        · rw [if_pos h1] at h; rw [on_dot h0 hk h1]; exact ih h
        rw [if_neg h1] at h
        by_cases h2 : n = [46, 46]
        · rw [if_pos h2] at h; rw [on_dots h0 hk h2]; exact ih h
        rw [if_neg h2] at h
        cases h3 : stopB l fo dir s.ino n t
        · rw [if_neg (by rw [h3]; simp)] at h
          cases g with
          | zero => rw [on_loop h0 hk h1 h2 h3]; exact Option.some.inj h
          | succ g =>
            cases h4 : longB (lnkD l s.ino n)
            · dsimp only at h
              rw [if_neg (by rw [h4]; simp)] at h
              rw [on_link h0 hk h1 h2 h3 h4]; exact ih h
            · dsimp only at h
              rw [if_pos h4] at h
              rw [on_long h0 hk h1 h2 h3 h4]; exact Option.some.inj h
        · rw [if_pos h3] at h
          rw [on_stop h0 hk h1 h2 h3]; exact ih h
      · rw [if_neg hk] at h; rw [on_file h0 hk]; exact Option.some.inj h
def seekF (k : Nat) (l : List Nd) (base p : List UInt8) (fo : Bool) : Option (Sp × Int) :=
  if p = [] then some (zeroS, 1) else if longB p = true then some (zeroS, 7)
  else if absB p = true then onF l fo k 40 rootS (namesB p) (slashB p)
  else if (homeP l base).2 ≠ 0 then some (zeroS, (homeP l base).2)
  else onF l fo k 40 ⟨0, [], (homeP l base).1⟩ (namesB p) (slashB p)
theorem seekF_eq (k : Nat) {l : List Nd} {base p : List UInt8} {fo : Bool} {r : Sp × Int} (h : seekF k l base p fo = some r) : seekP l base p fo = r := by
  unfold seekF at h
  unfold seekP
  split
  · rename_i h0; rw [if_pos h0] at h; exact Option.some.inj h
  rename_i h0
  rw [if_neg h0] at h
  split
  · rename_i h1; rw [if_pos h1] at h; exact Option.some.inj h
  rename_i h1
  rw [if_neg h1] at h
  split
  · rename_i h2; rw [if_pos h2] at h; exact onF_eq k h
  rename_i h2
  rw [if_neg h2] at h
  split
  · rename_i h3; rw [if_pos h3] at h; exact Option.some.inj h
  rename_i h3
  rw [if_neg h3] at h; exact onF_eq k h
end Go.Proofs.YtoejjdebfjepaaaGreat

/- What is renamed, reckoned. No program's function. -/
set_option linter.unusedVariables false
set_option linter.unusedSimpArgs false
namespace Go.Proofs.YtoejjdebfjepaaaGreat

def renameE (r q : Sp × Int) (l : List Nd) (dst : List UInt8) (ev e1 e2 : Go.Value) : List Nd × Int :=
  if r.2 ≠ 0 then (l, r.2)
  else if r.1.ino = 0 then (l, 1)
  else if r.1.name = [] then (l, 10)
  else if q.2 ≠ 0 then (l, q.2)
  else if q.1.name = [] then (l, 10)
  else if r.1.ino = q.1.ino then (l, 0)
  else if (getN l r.1.ino).kind = 2 ∧ insideN l q.1.dir r.1.ino = true then (l, 9)
  else if q.1.ino = 0 then
    (if slashB dst = true ∧ (getN l r.1.ino).kind ≠ 2 then (l, 3)
     else if mayB q.1.name = false then (l, 9)
     else (mvL (tL l q.1 ev) r.1.dir r.1.name r.1.ino q.1.dir q.1.name e1 e2, 0))
  else if (getN l r.1.ino).kind = 2 ∧ (getN l q.1.ino).kind ≠ 2 then (l, 3)
  else if (getN l q.1.ino).kind = 2 ∧ (getN l r.1.ino).kind ≠ 2 then (l, 4)
  else if (getN l q.1.ino).ents.length > 0 then (l, 5)
  else (mvL (tL l q.1 ev) r.1.dir r.1.name r.1.ino q.1.dir q.1.name e1 e2, 0)
theorem renameF_eq (n : Nat) {l : List Nd} {base src dst : List UInt8} {ev e1 e2 : Go.Value} {r q : Sp × Int} (h : seekF n l base src false = some r) (h2 : seekF n l base dst false = some q) : renameF l base src dst ev e1 e2 = renameE r q l dst ev e1 e2 := by
  unfold renameF renameE; rw [seekF_eq n h, seekF_eq n h2]
end Go.Proofs.YtoejjdebfjepaaaGreat

/- Walks: the document's Same. -/
set_option linter.unusedVariables false
set_option linter.unusedSimpArgs false
namespace Go.Proofs.YtoejjdebfjepaaaGreat
open Go.RowKit

theorem refSame_any (la lb : List Ent) (va vb : Value) (w : World) (ha : Ents w va la) (hb : Ents w vb lb) :
    Calls Tryz.prog 88 #[va, vb] w fun e w' => e = .returned (.bool (decide (la = lb))) ∧ Below w.heap.size w w' := by
  obtain ⟨a, ca, rfl, hca, hma, HA⟩ := ha
  obtain ⟨b, cb, rfl, hcb, hmb, HB⟩ := hb
  unfold maxLen at hma hmb
  by_cases hl : la.length = lb.length
  · have HA' := Lib.hid HA
    have HB' := Lib.hid HB
    clear HA HB
    have hne : ((la.length : Int) != (lb.length : Int)) = false := by simp; omega
    have HL := Lib.hid hl
    have hl2 : la.length ≤ lb.length := by omega
    clear hl
    go_enter Tryz.func88, Tryz.ntmps88
    go_wp2
    go_loopw [5] (fun i wr => ∃ k : Nat, k ≤ la.length ∧ i = .int .i64 k ∧ Aside (la.take k = lb.take k) ∧ Below w.heap.size w wr) (fun i _ => la.length - (intOf i).toNat)
    case atStart => exact ⟨0, Nat.zero_le _, rfl, rfl, Below.refl _ _⟩
    case round =>
      obtain ⟨k, hk, rfl, HT, hbw⟩ := hrel
      by_cases hlt : k < la.length
      · have hltb : k < lb.length := by omega
        obtain ⟨ba, oa, rfl, hba, hxa⟩ := HA'.out (by omega)
        obtain ⟨bb, ob, rfl, hbb, hxb⟩ := HB'.out (by omega)
        have c1 : wr.cell? ⟨ba, oa + k * 2, none⟩ = some (.string ⟨la[k].1.toArray⟩) := (hbw.cell (p := ⟨ba, oa + k * 2, none⟩) hba).trans (hxa k hlt).1
        have c2 : wr.cell? ⟨ba, oa + k * 2 + 1, none⟩ = some (.int .i64 la[k].2) := (hbw.cell (p := ⟨ba, oa + k * 2 + 1, none⟩) hba).trans (hxa k hlt).2
        have c3 : wr.cell? ⟨bb, ob + k * 2, none⟩ = some (.string ⟨lb[k].1.toArray⟩) := (hbw.cell (p := ⟨bb, ob + k * 2, none⟩) hbb).trans (hxb k hltb).1
        have c4 : wr.cell? ⟨bb, ob + k * 2 + 1, none⟩ = some (.int .i64 lb[k].2) := (hbw.cell (p := ⟨bb, ob + k * 2 + 1, none⟩) hbb).trans (hxb k hltb).2
        clear hxa hxb
        have k0 : (0 : Int) ≤ (k : Int) := by omega
        have k1 : (k : Int) < (la.length : Int) := by omega
        have k2 : (k : Int) < (lb.length : Int) := by omega
        cases he : la[k].1 == lb[k].1
        · have hne2 : Hid (decide (la = lb) = false) := by
            show _ = _
            rw [decide_eq_false_iff_not]
            intro e
            subst e
            simp at he
          go_wp2
          go_quiet (fail)
          go_wp2
          go_ret
          exact ⟨by rw [hne2.out]; rfl, below_drewN hbw _⟩
        · cases hn : la[k].2 == lb[k].2
          · have hne2 : Hid (decide (la = lb) = false) := by
              show _ = _
              rw [decide_eq_false_iff_not]
              intro e
              subst e
              simp at hn
            go_wp2
            go_quiet (fail)
            go_wp2
            go_ret
            exact ⟨by rw [hne2.out]; rfl, below_drewN hbw _⟩
          · have HT2 : Hid (la.take (k + 1) = lb.take (k + 1)) := by
              show _ = _
              rw [List.take_succ_eq_append_getElem hlt, List.take_succ_eq_append_getElem hltb, HT.out]
              rw [beq_iff_eq] at he hn
              rw [show la[k] = lb[k] from Prod.ext he hn]
            go_wp2
            go_quiet (fail)
            go_wp2
            go_roundw
            case rel => exact ⟨k + 1, by omega, by go_num, HT2.out, below_drewN hbw _⟩
            case measure => simp [intOf]; omega
      · obtain rfl : k = la.length := by omega
        have heq : Hid (decide (la = lb) = true) := by
          show _ = _
          rw [decide_eq_true_eq]
          have := HT.out
          rw [List.take_length, HL.out, List.take_length] at this
          exact this
        clear HT
        go_wp2
        go_ret
        exact ⟨by rw [heq.out]; rfl, hbw⟩
  · have hne : ((la.length : Int) != (lb.length : Int)) = true := by rw [bne_iff_ne]; omega
    have hd : Hid (decide (la = lb) = false) := by
      show _ = _
      rw [decide_eq_false_iff_not]; rintro rfl; exact hl rfl
    clear HA HB
    go_enter Tryz.func88, Tryz.ntmps88
    go_wp2
    go_ret
    exact ⟨by rw [hd.out]; rfl, Below.refl _ _⟩
end Go.Proofs.YtoejjdebfjepaaaGreat

/- Walks: are inodes, lists of inodes, tables alike: the document's and the program's. -/
set_option linter.unusedVariables false
set_option linter.unusedSimpArgs false
namespace Go.Proofs.YtoejjdebfjepaaaGreat
open Go.RowKit

set_option maxHeartbeats 2000000 in
theorem refOne_any (x y : Nd) (w : World) (hx : Ents w x.ev x.ents) (hy : Ents w y.ev y.ents) :
    Calls Tryz.prog 66 #[.agg (ndC x), .agg (ndC y)] w fun e w' => e = .returned (.bool (oneB x y)) ∧ Below w.heap.size w w' := by
  have hB : Below w.heap.size w ((w.alloc (.cells (ndC x) 36)).alloc (.cells (ndC y) 36)) := ((Below.refl _ w).alloc (Nat.le_refl _) _).alloc (by simp) _
  have hx2 := hx.below hB
  have hy2 := hy.below hB
  clear hx hy
  obtain ⟨xi, xk, xl, xd, xp, xe, xn⟩ := x
  obtain ⟨yi, yk, yl, yd, yp, ye, yn⟩ := y
  dsimp only at hx2 hy2
  obtain ⟨a, ca, rfl, _⟩ := id hx2
  obtain ⟨b, cb, rfl, _⟩ := id hy2
  cases h1 : (xi == yi) with | false => (have HN := Lib.hid (oneB_no1 (a := ⟨xi, xk, xl, xd, xp, .slice a xn.length ca, xn⟩) (b := ⟨yi, yk, yl, yd, yp, .slice b yn.length cb, yn⟩) h1); go_enter Tryz.func66, Tryz.ntmps66; go_wp2; go_ret; exact ⟨ret_bool (by rw [HN.out]), hB⟩) | true => (cases h2 : (xk == yk) with | false => (have HN := Lib.hid (oneB_no2 (a := ⟨xi, xk, xl, xd, xp, .slice a xn.length ca, xn⟩) (b := ⟨yi, yk, yl, yd, yp, .slice b yn.length cb, yn⟩) h2); go_enter Tryz.func66, Tryz.ntmps66; go_wp2; go_ret; exact ⟨ret_bool (by rw [HN.out]), hB⟩) | true => (cases h3 : (xl == yl) with | false => (have HN := Lib.hid (oneB_no3 (a := ⟨xi, xk, xl, xd, xp, .slice a xn.length ca, xn⟩) (b := ⟨yi, yk, yl, yd, yp, .slice b yn.length cb, yn⟩) h3); go_enter Tryz.func66, Tryz.ntmps66; go_wp2; go_ret; exact ⟨ret_bool (by rw [HN.out]), hB⟩) | true => (cases h4 : (xd == yd) with | false => (have HN := Lib.hid (oneB_no4 (a := ⟨xi, xk, xl, xd, xp, .slice a xn.length ca, xn⟩) (b := ⟨yi, yk, yl, yd, yp, .slice b yn.length cb, yn⟩) h4); go_enter Tryz.func66, Tryz.ntmps66; go_wp2; go_ret; exact ⟨ret_bool (by rw [HN.out]), hB⟩) | true => (cases h5 : (xp == yp) with | false => (have HN := Lib.hid (oneB_no5 (a := ⟨xi, xk, xl, xd, xp, .slice a xn.length ca, xn⟩) (b := ⟨yi, yk, yl, yd, yp, .slice b yn.length cb, yn⟩) h5); go_enter Tryz.func66, Tryz.ntmps66; go_wp2; go_ret; exact ⟨ret_bool (by rw [HN.out]), hB⟩) | true => (have HN := Lib.hid (oneB_ents (a := ⟨xi, xk, xl, xd, xp, .slice a xn.length ca, xn⟩) (b := ⟨yi, yk, yl, yd, yp, .slice b yn.length cb, yn⟩) h1 h2 h3 h4 h5); go_enter Tryz.func66, Tryz.ntmps66; go_wp2_with fail; refine (refSame_any xn yn _ _ _ hx2 hy2).mono ?_; rintro e w2 ⟨rfl, b2⟩; go_wp2; go_ret; exact ⟨ret_bool (by rw [HN.out]), hB.trans (b2.mono hB.size)⟩)))))

end Go.Proofs.YtoejjdebfjepaaaGreat

/- Walks: are lists of inodes, tables alike. -/
set_option linter.unusedVariables false
set_option linter.unusedSimpArgs false
namespace Go.Proofs.YtoejjdebfjepaaaGreat
open Go.RowKit

set_option maxHeartbeats 2000000 in
set_option maxRecDepth 100000 in
theorem refOnes_any (la lb : List Nd) (va vb : Value) (w : World) (ha : Nds w va la) (hb : Nds w vb lb) :
    Calls Tryz.prog 33 #[va, vb] w fun e w' => e = .returned (.bool (onesB la lb)) ∧ Below w.heap.size w w' := by
  obtain ⟨a, ca, rfl, hca, hma, hea, _, HA⟩ := ha
  obtain ⟨b, cb, rfl, hcb, hmb, heb, _, HB⟩ := hb
  unfold maxLen at hma hmb
  by_cases hl : la.length = lb.length
  · have HA' := Lib.hid HA
    have HB' := Lib.hid HB
    have HEA := Lib.hid hea
    have HEB := Lib.hid heb
    clear HA HB hea heb
    have hne : ((la.length : Int) != (lb.length : Int)) = false := by simp; omega
    have HL := Lib.hid hl
    have hl2 : la.length ≤ lb.length := by omega
    clear hl
    go_enter Tryz.func33, Tryz.ntmps33
    go_wp2
    go_loopw [5] (fun i wr => ∃ k : Nat, k ≤ la.length ∧ i = .int .i64 k ∧ Aside ((la.take k).map Nd.key = (lb.take k).map Nd.key) ∧ Below w.heap.size w wr) (fun i _ => la.length - (intOf i).toNat)
    case atStart => exact ⟨0, Nat.zero_le _, rfl, rfl, Below.refl _ _⟩
    case round =>
      obtain ⟨k, hk, rfl, HT, hbw⟩ := hrel
      by_cases hlt : k < la.length
      · have hltb : k < lb.length := by omega
        obtain ⟨ba, oa, rfl, hba, hxa⟩ := HA'.out (by omega)
        obtain ⟨bb, ob, rfl, hbb, hxb⟩ := HB'.out (by omega)
        obtain ⟨c0, c1, c2, c3, c4, c5⟩ := (hxa k hlt).below hbw hba
        obtain ⟨d0, d1, d2, d3, d4, d5⟩ := (hxb k hltb).below hbw hbb
        clear hxa hxb
        have k0 : (0 : Int) ≤ (k : Int) := by omega
        have k1 : (k : Int) < (la.length : Int) := by omega
        have k2 : (k : Int) < (lb.length : Int) := by omega
        go_upto_region 6 with fail
        go_still_tail 8, (by kernel_rfl)
        change wpList _ _ _ _ _ wr.drew
        generalize hwd : wr.drew = w2
        have hB2 : Below w.heap.size w w2 := by rw [← hwd]; exact hbw.drew
        have hea := HEA.out.below hB2
        have heb := HEB.out.below hB2
        clear hwd c0 c1 c2 c3 c4 c5 d0 d1 d2 d3 d4 d5
        go_wp2_with fail
        refine (refOne_any la[k] lb[k] _ (hea _ (List.getElem_mem hlt)) (heb _ (List.getElem_mem hltb))).mono ?_
        rintro e w3 ⟨rfl, b3⟩
        have hB3 := hB2.trans (b3.mono hB2.size)
        clear hea heb hB2 b3
        cases ho : oneB la[k] lb[k]
        · have HN := Lib.hid (onesB_no hlt hltb ho)
          go_wp2
          go_ret
          exact ⟨ret_bool (by rw [HN.out]), hB3⟩
        · have HT2 := Lib.hid (onesB_next hlt hltb HT.out ho)
          go_wp2
          go_roundw
          case rel => exact ⟨k + 1, by omega, by go_num, HT2.out, hB3⟩
          case measure => simp [intOf]; omega
      · obtain rfl : k = la.length := by omega
        have HN := Lib.hid (onesB_end HL.out HT.out)
        clear HT
        go_wp2
        go_ret
        exact ⟨ret_bool (by rw [HN.out]), hbw⟩
  · have hne : ((la.length : Int) != (lb.length : Int)) = true := by rw [bne_iff_ne]; omega
    have HN := Lib.hid (onesB_len hl)
    clear HA HB hea heb
    go_enter Tryz.func33, Tryz.ntmps33
    go_wp2
    go_ret
    exact ⟨ret_bool (by rw [HN.out]), Below.refl _ _⟩

/-- Are two tables alike? -/
def tabB (ma ba na : Int) (la : List Nd) (mb bb nb : Int) (lb : List Nd) : Bool := (ma == mb) && (ba == bb) && (na == nb) && onesB la lb
theorem tabB_refl (m b n : Int) (l : List Nd) : tabB m b n l m b n l = true := by simp [tabB, onesB_refl]

theorem refTab_any (ma ba na mb bb nb : Int) (la lb : List Nd) (va vb : Value) (w : World) (ha : Nds w va la) (hb : Nds w vb lb) :
    Calls Tryz.prog 12 #[.agg (fsC ma ba na va), .agg (fsC mb bb nb vb)] w fun e w' => e = .returned (.bool (tabB ma ba na la mb bb nb lb)) ∧ Below w.heap.size w w' := by
  obtain ⟨a, ca, rfl, _⟩ := id ha
  obtain ⟨b, cb, rfl, _⟩ := id hb
  have hB : Below w.heap.size w ((w.alloc (.cells (fsC ma ba na (.slice a la.length ca)) 24)).alloc (.cells (fsC mb bb nb (.slice b lb.length cb)) 24)) := ((Below.refl _ w).alloc (Nat.le_refl _) _).alloc (by simp) _
  have ha2 := ha.below hB
  have hb2 := hb.below hB
  clear ha hb
  cases h1 : (ma == mb) with | false => (have HN : Hid (tabB ma ba na la mb bb nb lb = false) := (by (show _ = _); simp only [tabB, h1, Bool.false_and]); go_enter Tryz.func12, Tryz.ntmps12; go_wp2; go_ret; exact ⟨ret_bool (by rw [HN.out]), hB⟩) | true => (cases h2 : (ba == bb) with | false => (have HN : Hid (tabB ma ba na la mb bb nb lb = false) := (by (show _ = _); simp only [tabB, h2, Bool.false_and, Bool.and_false]); go_enter Tryz.func12, Tryz.ntmps12; go_wp2; go_ret; exact ⟨ret_bool (by rw [HN.out]), hB⟩) | true => (cases h3 : (na == nb) with | false => (have HN : Hid (tabB ma ba na la mb bb nb lb = false) := (by (show _ = _); simp only [tabB, h3, Bool.false_and, Bool.and_false]); go_enter Tryz.func12, Tryz.ntmps12; go_wp2; go_ret; exact ⟨ret_bool (by rw [HN.out]), hB⟩) | true => (have HN : Hid (tabB ma ba na la mb bb nb lb = onesB la lb) := (by (show _ = _); simp only [tabB, h1, h2, h3, Bool.true_and]); go_enter Tryz.func12, Tryz.ntmps12; go_wp2_with fail; refine (refOnes_any la lb _ _ _ ha2 hb2).mono ?_; rintro e w2 ⟨rfl, b2⟩; go_wp2; go_ret; exact ⟨ret_bool (by rw [HN.out]), hB.trans (b2.mono hB.size)⟩)))
end Go.Proofs.YtoejjdebfjepaaaGreat

/- What every statement's proof over this translation shares. -/
set_option linter.unusedVariables false
set_option linter.unusedSimpArgs false
namespace Go.Proofs.YtoejjdebfjepaaaGreat
open Go.ChangeShapes Go.WideShapes Go.ChangeAt Go.RowKit

set_option maxRecDepth 100000
theorem laidOut : laidOutB Tryz.prog = true := by kernel_rfl

def textOf5 : Value → List UInt8
  | .string s => s.data.toList
  | _ => []
def numOf5 : Value → Int
  | .int _ n => n
  | _ => 0

/-- A slice of entries, as its cell reads. -/
theorem ents_of_cell {H : Type} {enc : TypeId × Value → H} {W : World} {fuel : Nat} {cs : List Value} {y : DataW H × List MemPlace}
    (hf : DataW.trod enc Tryz.prog W 0 (fun _ => true) true fuel 34 cs = some y) : ∃ v l, cs = [v] ∧ Ents W v l := by
  rcases Deep.open_slice_pairs Tryz.underlying34 Tryz.underlying76 (by kernel_rfl) rfl rfl (by kernel_rfl) (by kernel_rfl) hf with ⟨hcs, _⟩ | ⟨a, len, cap, m, n, V0, V1, D0, D1, P0, P1, hcs, _, hl, hm, hz, hx, hcell⟩
  · exact ⟨_, [], hcs, Ents.nil_ W⟩
  · simp at hz
    subst hz
    refine ⟨_, (List.range len).map fun i => (textOf5 (V0 i), numOf5 (V1 i)), hcs, some a, m, by simp, by simpa using hl, hm, fun h => ?_⟩
    have hn : ((List.range len).map fun i => (textOf5 (V0 i), numOf5 (V1 i))).length = len := by simp
    rw [hn] at h
    have c0 := (hcell 0 (by omega)).1
    obtain ⟨b, off, spot⟩ := a
    have hspot : spot = none := by simpa [Addr.add] using World.cell?_spot c0
    subst hspot
    refine ⟨b, off, rfl, ?_, fun i hi => ?_⟩
    · rw [Addr.add_lit] at c0; exact World.block_lt_of_cell? W _ c0
    · rw [hn] at hi
      obtain ⟨e0, e1, t0, t1⟩ := hcell i (by omega)
      obtain ⟨s, hs, _, _⟩ := DataW.trod_string Tryz.underlying9 t0
      obtain ⟨z, hz, _, _⟩ := DataW.trod_int Tryz.underlying3 t1
      simp only [List.cons.injEq, and_true] at hs hz
      rw [Addr.add_lit] at e0 e1
      rw [hs] at e0
      rw [hz] at e1
      simp only [List.getElem_map, List.getElem_range, hs, hz, textOf5, numOf5]
      exact ⟨by rw [e0], by rw [← e1, Nat.add_assoc]⟩

theorem list6 {α : Type} {cs : List α} (h : cs.length = 6) : ∃ c0 c1 c2 c3 c4 c5, cs = [c0, c1, c2, c3, c4, c5] := by
  match cs, h with
  | [c0, c1, c2, c3, c4, c5], _ => exact ⟨c0, c1, c2, c3, c4, c5, rfl⟩
theorem size_int : Tryz.prog.cellsOf 3 = 1 := by kernel_rfl
theorem size_str : Tryz.prog.cellsOf 9 = 1 := by kernel_rfl
theorem size_ents : Tryz.prog.cellsOf 34 = 1 := by kernel_rfl
theorem size_nds : Tryz.prog.cellsOf 22 = 1 := by kernel_rfl
theorem size_nd : Tryz.prog.cellsOf 36 = 6 := by kernel_rfl
theorem size_fs : Tryz.prog.cellsOf 24 = 4 := by kernel_rfl

/-- An inode, as its six cells read; its content's length is one of the reading's weights. -/
theorem nd_of_cells {H : Type} {enc : TypeId × Value → H} {W : World} {fuel : Nat} {cs : List Value} {y : DataW H × List MemPlace}
    (hf : DataW.trod enc Tryz.prog W 0 (fun _ => true) true fuel 36 cs = some y) : ∃ x : Nd, cs = (ndC x).toList ∧ Ents W x.ev x.ents ∧ x.data.length ≤ maxLen ∧ x.data.length ∈ y.1.weights Tryz.prog 36 := by
  obtain ⟨xs, n, _, rfl, hl, hlen, hx⟩ := DataW.trod_struct Tryz.underlying36 hf
  obtain ⟨c0, c1, c2, c3, c4, c5, rfl⟩ := list6 (hl.trans size_nd)
  obtain ⟨y0, y1, y2, y3, y4, y5, rfl⟩ := list6 hlen
  have g0 := hx 0 _ rfl
  have g1 := hx 1 _ rfl
  have g2 := hx 2 _ rfl
  have g3 := hx 3 _ rfl
  have g4 := hx 4 _ rfl
  have g5 := hx 5 _ rfl
  simp [size_int, size_str, size_ents] at g0 g1 g2 g3 g4 g5
  obtain ⟨z0, e0, _, _⟩ := DataW.trod_int Tryz.underlying3 g0
  obtain ⟨z1, e1, _, _⟩ := DataW.trod_int Tryz.underlying3 g1
  obtain ⟨z2, e2, _, _⟩ := DataW.trod_int Tryz.underlying3 g2
  obtain ⟨s, e3, w3, m3⟩ := DataW.trod_string Tryz.underlying9 g3
  obtain ⟨z4, e4, _, _⟩ := DataW.trod_int Tryz.underlying3 g4
  obtain ⟨v, l, e5, h5⟩ := ents_of_cell g5
  simp only [List.cons.injEq, and_true] at e0 e1 e2 e3 e4 e5
  subst e0 e1 e2 e3 e4 e5
  refine ⟨⟨z0, z1, z2, s.data.toList, z4, c5, l⟩, by simp [ndC], h5, by simpa using m3, ?_⟩
  have hw := DataW.weights_mem_each (P := Tryz.prog) (ts := [3, 3, 3, 9, 3, 34]) (ds := [y0.1, y1.1, y2.1, y3.1, y4.1, y5.1]) (j := 3) rfl rfl s.data.toList.length (by rw [w3]; simp [DataW.weights])
  simp only [DataW.weights, Tryz.underlying36]
  exact hw
theorem weightsAll_mem {H : Type} {P : Program} {e : TypeId} {l : List (DataW H)} {d : DataW H} (h : d ∈ l) {n : Nat} (hn : n ∈ d.weights P e) : n ∈ DataW.weightsAll P e l := by
  induction l with
  | nil => cases h
  | cons x r ih =>
    simp only [DataW.weightsAll, List.mem_append]
    rcases List.mem_cons.1 h with rfl | h
    · exact .inl hn
    · exact .inr (ih h)

instance : Inhabited Nd := ⟨zeroN⟩
/-- A slice of inodes, as its cell reads. -/
theorem nds_of_cell {H : Type} {enc : TypeId × Value → H} {W : World} {fuel : Nat} {cs : List Value} {y : DataW H × List MemPlace}
    (hf : DataW.trod enc Tryz.prog W 0 (fun _ => true) true fuel 22 cs = some y) : ∃ v l, cs = [v] ∧ Nds W v l ∧ (∀ x ∈ l, x.data.length ≤ maxLen ∧ x.data.length ∈ y.1.weights Tryz.prog 22) := by
  rcases Deep.open_slice Tryz.underlying22 hf with ⟨hcs, _⟩ | ⟨a, len, cap, m, n, D, Pl, hcs, _, hl, hm, hmm, rfl, hcell⟩
  · exact ⟨_, [], hcs, Nds.nil_ W, fun x hx => absurd hx (by simp)⟩
  · simp at hmm
    subst hmm
    rw [size_nd] at hcell
    obtain ⟨X, hX⟩ := Deep.choose_lt (p := fun i (x : Nd) => (∀ j, j < 6 → W.cell? ((a.add (i * 6)).add j) = (ndC x).toList[j]?) ∧ Ents W x.ev x.ents ∧ x.data.length ≤ maxLen ∧ x.data.length ∈ (D i).weights Tryz.prog 36) (fun i (hi : i < m) => by
      obtain ⟨cs', h1, h2⟩ := hcell i hi
      obtain ⟨_, _, h3⟩ := World.cells?_some h1
      obtain ⟨x, rfl, hx⟩ := nd_of_cells h2
      exact ⟨x, h3, hx⟩)
    have hn : ((List.range len).map X).length = len := by simp
    refine ⟨_, (List.range len).map X, hcs, ⟨some a, m, by simp, by simpa using hl, hm, ?_, (fun h => by cases h), fun h => ?_⟩, ?_⟩
    · intro x hx
      obtain ⟨i, hi, rfl⟩ := List.mem_map.1 hx
      exact (hX i (by have := List.mem_range.1 hi; omega)).2.1
    · rw [hn] at h
      have c0 := (hX 0 (by omega)).1 0 (by omega)
      obtain ⟨b, off, spot⟩ := a
      have hspot : spot = none := by
        have := World.cell?_spot (c0.trans (rfl : _ = some (Value.int .i64 (X 0).ino)))
        simpa [Addr.add] using this
      subst hspot
      refine ⟨b, off, rfl, ?_, fun i hi => ?_⟩
      · have := World.block_lt_of_cell? W _ (c0.trans (rfl : _ = some (Value.int .i64 (X 0).ino)))
        simpa [Addr.add] using this
      · rw [hn] at hi
        have hc := (hX i (by omega)).1
        simp only [Addr.add_lit] at hc
        simp only [List.getElem_map, List.getElem_range]
        exact ⟨(hc 0 (by omega)).trans rfl, (hc 1 (by omega)).trans rfl, (hc 2 (by omega)).trans rfl, (hc 3 (by omega)).trans rfl, (hc 4 (by omega)).trans rfl, (hc 5 (by omega)).trans rfl⟩
    · intro x hx
      obtain ⟨i, hi, rfl⟩ := List.mem_map.1 hx
      have hi2 := List.mem_range.1 hi
      have h3 := (hX i (by omega)).2.2
      refine ⟨h3.1, ?_⟩
      simp only [DataW.weights, Tryz.underlying22, List.mem_cons, List.mem_append]
      exact .inr (.inl (weightsAll_mem (List.mem_map.2 ⟨i, hi, rfl⟩) h3.2))

theorem nds_of_trod {H : Type} {enc : TypeId × Value → H} {W : World} {v : Value} {d : DataW H} {p : List MemPlace}
    (k : DataW.Trod enc Tryz.prog W 0 (fun _ => true) true 22 v d p) (ok : ∃ base, Value.okWide Tryz.prog W .any base 22 v) : ∃ l, Nds W v l ∧ ∀ x ∈ l, x.data.length ≤ maxLen ∧ x.data.length ∈ d.weights Tryz.prog 22 := by
  obtain ⟨base, ok⟩ := ok
  obtain ⟨a0, len, cap, rfl⟩ := okWide_slice Tryz.underlying22 ok
  obtain ⟨fuel, hf⟩ := k
  obtain ⟨v, l, e, h1, h2⟩ := nds_of_cell hf
  simp [Value.cells] at e
  subst e
  exact ⟨l, h1, h2⟩
/-- An inode that came in. -/
theorem nd_of_trod {H : Type} {enc : TypeId × Value → H} {W : World} {v : Value} {d : DataW H} {p : List MemPlace}
    (k : DataW.Trod enc Tryz.prog W 0 (fun _ => true) true 36 v d p) (ok : ∃ base, Value.okWide Tryz.prog W .any base 36 v) : ∃ x : Nd, v = .agg (ndC x) ∧ Ents W x.ev x.ents ∧ x.data.length ≤ maxLen ∧ x.data.length ∈ d.weights Tryz.prog 36 := by
  obtain ⟨base, ok⟩ := ok
  obtain ⟨cs, rfl, hsz⟩ := okWide_struct Tryz.underlying36 ok
  obtain ⟨fuel, hf⟩ := k
  obtain ⟨x, e, h1, h2⟩ := nd_of_cells hf
  refine ⟨x, ?_, h1, h2⟩
  have : cs.toList = (ndC x).toList := by simpa [Value.cells] using e
  rw [show cs = ndC x from Array.ext' this]
/-- A table that came in. -/
theorem fs_of_trod {H : Type} {enc : TypeId × Value → H} {W : World} {base : Nat} {v : Value} {d : DataW H} {p : List MemPlace}
    (k : DataW.Trod enc Tryz.prog W 0 (fun _ => true) true 24 v d p) (ok : Value.okWide Tryz.prog W .any base 24 v) : ∃ mi mb nx x l, v = .agg (fsC mi mb nx x) ∧ Nds W x l := by
  obtain ⟨v0, v1, v2, v3, y0, y1, y2, y3, n, rfl, rfl, rfl, h0, h1, h2, h3⟩ := Joins.open_agg4 Tryz.underlying24 (by kernel_rfl) (by kernel_rfl) ok k
  obtain ⟨z0, e0, _, _⟩ := DataW.trod_int Tryz.underlying3 h0
  obtain ⟨z1, e1, _, _⟩ := DataW.trod_int Tryz.underlying3 h1
  obtain ⟨z2, e2, _, _⟩ := DataW.trod_int Tryz.underlying3 h2
  obtain ⟨v, l, e3, h, _⟩ := nds_of_cell h3
  simp only [List.cons.injEq, and_true] at e0 e1 e2 e3
  subst e0 e1 e2 e3
  exact ⟨_, _, _, _, l, rfl, h⟩
end Go.Proofs.YtoejjdebfjepaaaGreat
