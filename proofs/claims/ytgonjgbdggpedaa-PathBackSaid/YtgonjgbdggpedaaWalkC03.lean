/- Walks: Base. -/
import Derived.Test.YtgonjgbdggpedaaWalkB03
namespace Go.Proofs.Ytgonjgbdggpedaa
open Go.RowKit Go.Shelf
attribute [local go_sem] Oper.semAt_some

def lastT (d : List UInt8) (pre : List Txt) : List UInt8 := ((pre.map (·.1)).getLast?).getD d
theorem lastT_snoc (d : List UInt8) (pre : List Txt) (x : Txt) : lastT d (pre ++ [x]) = x.1 := by simp [lastT]
theorem lastT_size (d : List UInt8) (pre : List Txt) (h : d.length ≤ 1) : (lastT d pre).length ≤ 1000000 := by
  unfold lastT
  cases hl : (pre.map (·.1)).getLast? with
  | none => simp; omega
  | some y =>
    have := List.mem_of_getLast? hl
    obtain ⟨x, _, rfl⟩ := List.mem_map.1 this
    simpa using x.2

set_option maxRecDepth 100000 in
set_option maxHeartbeats 2000000 in
theorem Base_any (p : List UInt8) (hp : p.length ≤ 1000000) (w : World) :
    Calls Try.prog 13 #[.string ⟨p.toArray⟩] w fun e w' => e = .returned (.string ⟨(baseB p).toArray⟩) ∧ Below w.heap.size w w' := by
  refine (callsIn_wide (n := 3)).1 ?_
  (refine callsIn_of_wp_marks Try.func13 rfl trivial ?_ rfl; simp only [Try.ntmps13, List.size_toArray, List.length_cons, List.length_nil, Nat.reduceAdd, Nat.reduceSub, Array.replicate_succ, Array.replicate_zero, List.push_toArray, List.append_toArray, List.nil_append, List.cons_append])
  gi_wp2_with fail
  refine ⟨trivial, ?_⟩
  gi_at_call 29
  refine (callsIn_wide.2 (absolute_any p _)).mono ?_
  rintro e w' ⟨rfl, rfl⟩
  cases ha : absB p
  · gi_wp2_with fail
    refine ⟨trivial, ?_⟩
    gi_at_call 30
    refine (namesOf_in p _).mono ?_
    rintro e w' ⟨rfl, rfl⟩
    gi_wp2
    have b0 := Blk.new w 9 #[.string ⟨#[]⟩]
    have b1 := Blk.new (w.alloc (.cells #[.string ⟨#[]⟩] 9)) 9 #[.string ⟨p.toArray⟩]
    rw [World.size_alloc] at b1
    have hB0 : Below w.heap.size w ((w.alloc (.cells #[.string ⟨#[]⟩] 9)).alloc (.cells #[.string ⟨p.toArray⟩] 9)) := ((Below.refl _ w).alloc (Nat.le_refl _) _).alloc (by simp) _
    refine wpIn_rangeFunc_ownG rfl (by omega) (gf := 38) (lb := #[.pointer (some ⟨w.heap.size + 1, 0, none⟩)]) rfl trivial (enters_of Try.func38 (by kernel_rfl) rfl)
      (names_stops (w.heap.size + 1) p hp _ (by simp) (b1.cell 0)) (fun _ _ => trivial) (fun _ _ _ _ _ _ _ _ => trivial) (Below.refl _ _) (fun _ => rfl)
      (fun pre W => Blk W w.heap.size 9 #[.string ⟨(lastT [] pre).toArray⟩] ∧ Below w.heap.size w W)
      (fun _ _ _ => False)
      (OwnFrom.and (Own.from (fun s A B row hs hg hr => blk_own (β := List Txt) _ _ (fun pre => #[.string ⟨(lastT [] pre).toArray⟩]) s A B row hs hg hr) _) (ownFrom_below (Nat.le_refl _) (by simp; omega)))
      (fun _ _ _ _ _ hs _ _ => hs)
      ⟨b0.alloc _, hB0⟩
      (fun x => { tmps := #[.string ⟨p.toArray⟩, undef, .string ⟨#[]⟩, .pointer (some ⟨w.heap.size, 0, none⟩), .string ⟨x.1.toArray⟩, .string ⟨p.toArray⟩, .bool false, .string ⟨p.toArray⟩,
        .func (.func 38) #[] #[.pointer (some ⟨w.heap.size + 1, 0, none⟩)], .string ⟨x.1.toArray⟩, undef, undef, undef], defers := [] }) ?assign ?body ?done ?stop
    case assign =>
      intro l x W K hK
      gi_wp2
      exact hK
    case body =>
      rintro l pre x W ⟨hb, hB⟩ _
      have hc := hb.cell 0
      have hf := hb.frozen 0
      simp at hc
      gi_wp2
      exact ⟨(KeepsOthers.setCell _ _ _).from _, trivial, by rw [lastT_snoc]; simpa using hb.set 0 (.string ⟨x.1.toArray⟩), hB.setCell (p := ⟨w.heap.size, 0, none⟩) (Nat.le_refl _) _⟩
    case done =>
      rintro D ys W hD hys ⟨hb, hB⟩ hK
      have hc := hb.cell 0
      simp at hc
      have hbase := Lib.hid (show lastT [] ys = baseB p from by unfold lastT baseB; rw [hys, ha]; rfl)
      have hsz := lastT_size [] ys (by simp)
      gi_wp2_with fail
      refine ⟨trivial, ?_⟩
      gi_at_call 31
      refine (callsIn_wide.2 (Clone_any _ _ (by omega))).mono ?_
      rintro e w3 ⟨rfl, hC⟩
      have hK' : w3.heap[D]? = some (.deferred (some [])) := by rw [hC.block D (Array.getElem?_eq_some_iff.1 hK).1]; exact hK
      have hB3 := hB.trans (hC.mono hB.size)
      gi_wp2
      refine ⟨by simp, .inl ⟨_, _, rfl, run_takeDeferred hK', ?_⟩⟩
      exact ⟨_, results_tmp rfl _ _ _, by exact ret_str hbase.out, hB3.trans (belowK_b (w := w) (Nat.le_refl _) _ D _ _ (by simp at hD; omega) hK' rfl rfl)⟩
    case stop =>
      rintro D c pre W _ _ h _
      exact h.elim
  · gi_wp2_with fail
    refine ⟨trivial, ?_⟩
    gi_at_call 30
    refine (namesOf_in p _).mono ?_
    rintro e w' ⟨rfl, rfl⟩
    gi_wp2
    have b0 := Blk.new w 9 #[.string ⟨#[47]⟩]
    have b1 := Blk.new (w.alloc (.cells #[.string ⟨#[47]⟩] 9)) 9 #[.string ⟨p.toArray⟩]
    rw [World.size_alloc] at b1
    have hB0 : Below w.heap.size w ((w.alloc (.cells #[.string ⟨#[47]⟩] 9)).alloc (.cells #[.string ⟨p.toArray⟩] 9)) := ((Below.refl _ w).alloc (Nat.le_refl _) _).alloc (by simp) _
    refine wpIn_rangeFunc_ownG rfl (by omega) (gf := 38) (lb := #[.pointer (some ⟨w.heap.size + 1, 0, none⟩)]) rfl trivial (enters_of Try.func38 (by kernel_rfl) rfl)
      (names_stops (w.heap.size + 1) p hp _ (by simp) (b1.cell 0)) (fun _ _ => trivial) (fun _ _ _ _ _ _ _ _ => trivial) (Below.refl _ _) (fun _ => rfl)
      (fun pre W => Blk W w.heap.size 9 #[.string ⟨(lastT [47] pre).toArray⟩] ∧ Below w.heap.size w W)
      (fun _ _ _ => False)
      (OwnFrom.and (Own.from (fun s A B row hs hg hr => blk_own (β := List Txt) _ _ (fun pre => #[.string ⟨(lastT [47] pre).toArray⟩]) s A B row hs hg hr) _) (ownFrom_below (Nat.le_refl _) (by simp; omega)))
      (fun _ _ _ _ _ hs _ _ => hs)
      ⟨b0.alloc _, hB0⟩
      (fun x => { tmps := #[.string ⟨p.toArray⟩, undef, .string ⟨#[]⟩, .pointer (some ⟨w.heap.size, 0, none⟩), .string ⟨x.1.toArray⟩, .string ⟨p.toArray⟩, .bool true, .string ⟨p.toArray⟩,
        .func (.func 38) #[] #[.pointer (some ⟨w.heap.size + 1, 0, none⟩)], .string ⟨x.1.toArray⟩, undef, undef, undef], defers := [] }) ?assign ?body ?done ?stop
    case assign =>
      intro l x W K hK
      gi_wp2
      exact hK
    case body =>
      rintro l pre x W ⟨hb, hB⟩ _
      have hc := hb.cell 0
      have hf := hb.frozen 0
      simp at hc
      gi_wp2
      exact ⟨(KeepsOthers.setCell _ _ _).from _, trivial, by rw [lastT_snoc]; simpa using hb.set 0 (.string ⟨x.1.toArray⟩), hB.setCell (p := ⟨w.heap.size, 0, none⟩) (Nat.le_refl _) _⟩
    case done =>
      rintro D ys W hD hys ⟨hb, hB⟩ hK
      have hc := hb.cell 0
      simp at hc
      have hbase := Lib.hid (show lastT [47] ys = baseB p from by unfold lastT baseB; rw [hys, ha]; rfl)
      have hsz := lastT_size [47] ys (by simp)
      gi_wp2_with fail
      refine ⟨trivial, ?_⟩
      gi_at_call 31
      refine (callsIn_wide.2 (Clone_any _ _ (by omega))).mono ?_
      rintro e w3 ⟨rfl, hC⟩
      have hK' : w3.heap[D]? = some (.deferred (some [])) := by rw [hC.block D (Array.getElem?_eq_some_iff.1 hK).1]; exact hK
      have hB3 := hB.trans (hC.mono hB.size)
      gi_wp2
      refine ⟨by simp, .inl ⟨_, _, rfl, run_takeDeferred hK', ?_⟩⟩
      exact ⟨_, results_tmp rfl _ _ _, by exact ret_str hbase.out, hB3.trans (belowK_b (w := w) (Nat.le_refl _) _ D _ _ (by simp at hD; omega) hK' rfl rfl)⟩
    case stop =>
      rintro D c pre W _ _ h _
      exact h.elim
end Go.Proofs.Ytgonjgbdggpedaa
