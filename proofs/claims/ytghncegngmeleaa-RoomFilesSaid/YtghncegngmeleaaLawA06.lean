/- For every table of few inodes, and every two numbers: package room tells what is used, and whether so many more fit, as the document does (no condition). -/
import Derived.Test.YtghncegngmeleaaLawBase05
import Derived.Test.YtghncegngmeleaaWalkB06
import Derived.BigQuiet
import Derived.Deep.RegionHeld3
namespace Go.Proofs.Ytghncegngmeleaa
open Go.ChangeShapes Go.WideShapes Go.ChangeAt Go.RowKit
open Go.ChangeMaps (open_string shut_string)
set_option linter.unusedVariables false

theorem few_bytes {l : List Nd} (h : fewN l = true) : l.length ≤ 1000000 ∧ bytesN l ≤ 200000 := by
  have h1 := fewN_small h
  have h2 := bytesN_few h1.2
  have h3 : l.length * 5000 ≤ 40 * 5000 := Nat.mul_le_mul_right _ h1.1
  omega
theorem within_yes {n : Int} (h : withinB n = true) : -1099511627776 ≤ n ∧ n ≤ 1099511627776 := by simpa [withinB] using h

set_option maxHeartbeats 4000000 in
set_option maxRecDepth 100000 in
theorem lawCounts (mi mb nx i b : Int) (l : List Nd) (v : Value) (w : World) (hv : Nds w v l) :
    Calls Try.prog 3 #[.agg (fsC mi mb nx v), .int .i64 i, .int .i64 b] w fun e w' => e = .returned (.bool true) ∧ Below w.heap.size w w' := by
  obtain ⟨a, ca, rfl⟩ := nds_slice hv
  have bF := Blk.new w 24 (fsC mi mb nx (.slice a l.length ca))
  have hB := alloc_below w (.cells (fsC mi mb nx (.slice a l.length ca)) 24)
  have nV := hv.below hB
  clear hv
  cases hf : fewN l
  · go_enter Try.func3, Try.ntmps3
    go_wp2_with fail; refine (awake_any _).mono ?_; rintro e w1 ⟨rfl, b1⟩
    (replace bF := bF.next b1; replace nV := nV.below b1; replace hB := hB.trans (b1.mono hB.size))
    obtain ⟨⟨p0, p1, p2, p3⟩, _⟩ := bF.four
    go_wp2_with fail; refine (fewT_any mi mb nx l _ _ nV).mono ?_; rintro e w2 ⟨rfl, b2⟩
    (replace bF := bF.next b2; replace nV := nV.below b2; replace hB := hB.trans (b2.mono hB.size))
    rw [hf]
    go_wp2_with fail; refine (awake_any _).mono ?_; rintro e w9 ⟨rfl, b9⟩
    go_wp2
    go_ret
    exact ⟨rfl, hB.trans (b9.mono hB.size)⟩
  have hfb := few_bytes hf
  cases h1 : withinB i
  · go_enter Try.func3, Try.ntmps3
    go_wp2_with fail; refine (awake_any _).mono ?_; rintro e w1 ⟨rfl, b1⟩
    (replace bF := bF.next b1; replace nV := nV.below b1; replace hB := hB.trans (b1.mono hB.size))
    obtain ⟨⟨p0, p1, p2, p3⟩, _⟩ := bF.four
    go_wp2_with fail; refine (fewT_any mi mb nx l _ _ nV).mono ?_; rintro e w2 ⟨rfl, b2⟩
    (replace bF := bF.next b2; replace nV := nV.below b2; replace hB := hB.trans (b2.mono hB.size))
    rw [hf]
    clear p0 p1 p2 p3
    go_wp2_with fail; refine (within_any i _).mono ?_; rintro e w3 ⟨rfl, b3⟩
    (replace bF := bF.next b3; replace nV := nV.below b3; replace hB := hB.trans (b3.mono hB.size))
    rw [h1]
    go_wp2_with fail; refine (awake_any _).mono ?_; rintro e w9 ⟨rfl, b9⟩
    go_wp2
    go_ret
    exact ⟨rfl, hB.trans (b9.mono hB.size)⟩
  cases h2 : withinB b
  · go_enter Try.func3, Try.ntmps3
    go_wp2_with fail; refine (awake_any _).mono ?_; rintro e w1 ⟨rfl, b1⟩
    (replace bF := bF.next b1; replace nV := nV.below b1; replace hB := hB.trans (b1.mono hB.size))
    obtain ⟨⟨p0, p1, p2, p3⟩, _⟩ := bF.four
    go_wp2_with fail; refine (fewT_any mi mb nx l _ _ nV).mono ?_; rintro e w2 ⟨rfl, b2⟩
    (replace bF := bF.next b2; replace nV := nV.below b2; replace hB := hB.trans (b2.mono hB.size))
    rw [hf]
    clear p0 p1 p2 p3
    go_wp2_with fail; refine (within_any i _).mono ?_; rintro e w3 ⟨rfl, b3⟩
    (replace bF := bF.next b3; replace nV := nV.below b3; replace hB := hB.trans (b3.mono hB.size))
    rw [h1]
    go_wp2_with fail; refine (within_any b _).mono ?_; rintro e w4 ⟨rfl, b4⟩
    (replace bF := bF.next b4; replace nV := nV.below b4; replace hB := hB.trans (b4.mono hB.size))
    rw [h2]
    go_wp2_with fail; refine (awake_any _).mono ?_; rintro e w9 ⟨rfl, b9⟩
    go_wp2
    go_ret
    exact ⟨rfl, hB.trans (b9.mono hB.size)⟩
  have hi := within_yes h1
  have hb := within_yes h2
  go_enter Try.func3, Try.ntmps3
  go_wp2_with fail; refine (awake_any _).mono ?_; rintro e w1 ⟨rfl, b1⟩
  (replace bF := bF.next b1; replace nV := nV.below b1; replace hB := hB.trans (b1.mono hB.size))
  obtain ⟨⟨p0, p1, p2, p3⟩, _⟩ := bF.four
  go_wp2_with fail; refine (fewT_any mi mb nx l _ _ nV).mono ?_; rintro e w2 ⟨rfl, b2⟩
  (replace bF := bF.next b2; replace nV := nV.below b2; replace hB := hB.trans (b2.mono hB.size))
  rw [hf]
  clear p0 p1 p2 p3
  go_wp2_with fail; refine (within_any i _).mono ?_; rintro e w3 ⟨rfl, b3⟩
  (replace bF := bF.next b3; replace nV := nV.below b3; replace hB := hB.trans (b3.mono hB.size))
  rw [h1]
  go_wp2_with fail; refine (within_any b _).mono ?_; rintro e w4 ⟨rfl, b4⟩
  (replace bF := bF.next b4; replace nV := nV.below b4; replace hB := hB.trans (b4.mono hB.size))
  rw [h2]
  go_upto_region 3 with fail
  have HMK : ∀ W, Below w4.heap.size w4 W → (W.cell? ⟨w.heap.size, 0, none⟩ = some (.int .i64 mi) ∧ W.cell? ⟨w.heap.size, 1, none⟩ = some (.int .i64 mb) ∧ W.cell? ⟨w.heap.size, 2, none⟩ = some (.int .i64 nx) ∧ W.cell? ⟨w.heap.size, 3, none⟩ = some (.slice a l.length ca)) := by
    intro W h
    exact (bF.next h).four.1
  have hq := (Below.refl w4.heap.size w4).drew
  clear bF b1 b2 b3 b4
  go_region_held3 (fun W => W.cell? ⟨w.heap.size, 0, none⟩ = some (.int .i64 mi) ∧ W.cell? ⟨w.heap.size, 1, none⟩ = some (.int .i64 mb) ∧ W.cell? ⟨w.heap.size, 2, none⟩ = some (.int .i64 nx) ∧ W.cell? ⟨w.heap.size, 3, none⟩ = some (.slice a l.length ca))
    (exact HMK _ hq)
    (first
      | (go_at_call 9; refine (Inodes_any mi mb nx l _ _ (nV.below hq)).mono ?_; rintro e wz ⟨rfl, bz⟩; have hq := hq.trans (bz.mono hq.size))
      | (go_at_call 10; refine (Bytes_any mi mb nx l _ _ (nV.below hq) hfb.1 (by omega)).mono ?_; rintro e wz ⟨rfl, bz⟩; have hq := hq.trans (bz.mono hq.size))
      | (go_at_call 11; refine (refBytes_any mi mb nx l _ _ (nV.below hq) hfb.1 (by omega)).mono ?_; rintro e wz ⟨rfl, bz⟩; have hq := hq.trans (bz.mono hq.size))
      | (go_at_call 12; refine (Fits_any mi mb nx i b l _ _ (nV.below hq) hfb.1 (by omega) hi hb).mono ?_; rintro e wz ⟨rfl, bz⟩; have hq := hq.trans (bz.mono hq.size))
      | (go_at_call 13; refine (refFits_any mi mb nx i b l _ _ (nV.below hq) hfb.1 (by omega) hi hb).mono ?_; rintro e wz ⟨rfl, bz⟩; have hq := hq.trans (bz.mono hq.size)))
  all_goals go_wp2
  all_goals go_ret
  all_goals exact ⟨rfl, hB.trans (hq.mono hB.size)⟩

namespace LRoomCounts
set_option maxRecDepth 100000 in
theorem lifted (os : Os) (started : os.Started) (H : Type) (enc : TypeId × Value → H) :
    ReturnsInHanded {} Try.checked os 3 .any (Rows.roomCountsSpec.pre6 enc Try.prog Try.f3 Rows.roomCountsRow.domain false) (Rows.roomCountsSpec.post enc Try.prog Try.f3 false true false false) := by
  refine returnsInHanded_of_change (C := Try.checked) (by kernel_rfl) started (by kernel_rfl) Try.func3
    (ChangeSpec.witness6 (enc := enc) (C := Try.checked) false ⟨#[], #[.agg #[.int .i64 0, .int .i64 0, .int .i64 0, .slice none 0 0], .int .i64 0, .int .i64 0], []⟩ 8 (by kernel_rfl) (by kernel_rfl) (by kernel_rfl) (by kernel_rfl)) ?_
  intro W base args ds gs before hval0 hW hcnd _
  have hval : ∀ (j : Nat) t v, Try.f3.params[j]? = some t → args[j]? = some v → Value.okWide Try.prog W .any base t v := hval0
  have hW' := hW
  obtain ⟨p, q, hA0, hV, rfl, hfz, hnd⟩ := hW
  have hA : DataW.TrodAll enc Try.prog W 0 (fun _ => true) true Try.f3.params.toList args.toList ds p := hA0
  rw [Try.params3] at hA hval
  obtain ⟨v0, vs0, d0, ds0, p0, q0, hargs, rfl, rfl, k0, r0⟩ := trodAll_cons hA
  obtain ⟨v1, vs1, d1, ds1, p1, q1, rfl, rfl, rfl, k1, r1⟩ := trodAll_cons r0
  obtain ⟨v2, vs2, d2, ds2, p2, q2, rfl, rfl, rfl, k2, r2⟩ := trodAll_cons r1
  obtain ⟨rfl, rfl, rfl⟩ := trodAll_nil r2
  obtain rfl : args = #[v0, v1, v2] := by cases args; simp_all
  obtain ⟨rfl, rfl⟩ := trodVars_none hV
  have ok0 := hval 0 24 v0 rfl rfl
  have ok1 := hval 1 3 v1 rfl rfl
  have ok2 := hval 2 3 v2 rfl rfl
  have lt0 : ∀ x ∈ p0, x.block < W.heap.size := by obtain ⟨m, hm⟩ := k0; exact DataW.trod_lt m _ _ _ hm
  have lt1 : ∀ x ∈ p1, x.block < W.heap.size := by obtain ⟨m, hm⟩ := k1; exact DataW.trod_lt m _ _ _ hm
  have lt2 : ∀ x ∈ p2, x.block < W.heap.size := by obtain ⟨m, hm⟩ := k2; exact DataW.trod_lt m _ _ _ hm
  have C : Calls Try.prog 3 #[v0, v1, v2] W fun e w' => e = .returned (.bool true) ∧ Below W.heap.size W w' := by
    clear hA0 hval0 hval hW' hcnd hV hfz hnd
    obtain ⟨mi, mb, nx, x, l, rfl, hx⟩ := fs_of_trod k0 ok0
    obtain ⟨i, rfl, rfl, rfl, hi⟩ := open_int Try.underlying3 ok1 k1
    obtain ⟨b, rfl, rfl, rfl, hb⟩ := open_int Try.underlying3 ok2 k2
    exact lawCounts mi mb nx i b l x W hx
  refine C.mono fun e W' ⟨he, bel⟩ => ?_
  subst he
  exact ⟨_, rfl, _, _, _, [], _, [], hW', trodAll_mk1 (shut_bool Try.underlying4 _), (trodAll_cons_mk (Below.trod laidOut (by kernel_rfl) (of_decide_eq_true (by kernel_rfl)) k0 bel lt0) (trodAll_cons_mk (Below.trod laidOut (by kernel_rfl) (of_decide_eq_true (by kernel_rfl)) k1 bel lt1) (trodAll_cons_mk (Below.trod laidOut (by kernel_rfl) (of_decide_eq_true (by kernel_rfl)) k2 bel lt2) trodAll_mk0))), rfl, bel.frame _, fun h => by cases h⟩
theorem proved : Rows.RoomCountsSaid :=
  OpenClaim.holds_of_wide 3 Try.f3 rfl rfl rfl rfl rfl rfl rfl ⟨rfl, rfl, rfl, rfl, rfl⟩ rfl rfl rfl rfl rfl (by kernel_rfl) Try.func3 (by kernel_rfl)
    (of_decide_eq_true (by kernel_rfl)) (by unfold Func.isWrapper; first | (rw [if_pos (by decide +kernel)]; kernel_rfl) | (rw [if_neg (by decide +kernel)]; exact ⟨rfl, rfl⟩))
    (fun os started H enc _ => lifted os started H enc)
#print axioms proved
end LRoomCounts
end Go.Proofs.Ytghncegngmeleaa
