/- For every sound file system, every path of at most 1,000 bytes that leads to a place in a directory, and every number from 1 on: package place puts an entry there, and takes it away, as the document does (no condition). -/
import Derived.Test.YtbdgcpimnkieiaaQLawA09
import Derived.Deep.RegionHeld3
namespace Go.Proofs.Ytbdgcpimnkieiaa
open Go.ChangeShapes Go.WideShapes Go.ChangeAt Go.RowKit
open Go.ChangeMaps (open_string shut_string)
set_option linter.unusedVariables false

theorem tab_keys (mi mb nx : Int) (la lb : List Nd) (va vb : Value) (w : World) (ha : Nds w va la) (hb : Nds w vb lb) (h : onesB la lb = true) : Calls Try.prog 13 #[.agg (fsC mi mb nx va), .agg (fsC mi mb nx vb)] w fun e w' => e = .returned (.bool true) ∧ Below w.heap.size w w' := by
  have := refTab_any mi mb nx mi mb nx la lb _ _ w ha hb
  rwa [show tabB mi mb nx la mi mb nx lb = true from by simp [tabB, h]] at this
theorem ents_sort {l : List Nd} (t : Tree l) (i : Int) : sortP (getN l i).ents := by
  cases hh : hasN l i
  · rw [getN_none hh]; exact List.Pairwise.nil
  · have hm := (get_mem hh).1
    by_cases hk : (getN l i).kind = 2
    · exact ((rightB_iff _).1 (t.rights _ hm hk)).2
    · rw [t.files _ hm hk]; exact List.Pairwise.nil
theorem few_get {l : List Nd} (h : fewN l = true) (i : Int) : (getN l i).ents.length ≤ 40 ∧ shortP 300 (getN l i).ents ∧ (getN l i).data.length ≤ 5000 := by
  cases hh : hasN l i
  · rw [getN_none hh]; exact ⟨Nat.zero_le _, fun _ h => (nomatch h), Nat.zero_le _⟩
  · have hm := (get_mem hh).1
    unfold fewN at h
    rw [Bool.and_eq_true, List.all_eq_true] at h
    have := h.2 _ hm
    unfold fewX at this
    simp only [Bool.and_eq_true, decide_eq_true_eq, List.all_eq_true] at this
    exact ⟨this.1.2, this.2, this.1.1⟩

set_option maxHeartbeats 4000000 in
set_option maxRecDepth 100000 in
theorem lawPuts (mi mb nx i : Int) (l : List Nd) (p : List UInt8) (v : Value) (w : World) (hv : Nds w v l) :
    Calls Try.prog 4 #[.agg (fsC mi mb nx v), .string ⟨p.toArray⟩, .int .i64 i] w fun e w' => e = .returned (.bool true) ∧ Below w.heap.size w w' := by
  obtain ⟨a, ca, rfl⟩ := nds_slice hv
  have bF := Blk.new w 24 (fsC mi mb nx (.slice a l.length ca))
  have hB := alloc_below w (.cells (fsC mi mb nx (.slice a l.length ca)) 24)
  have nV := hv.below hB
  clear hv
  cases hok : okB mi mb nx l
  · go_enter Try.func4, Try.ntmps4
    go_wp2_with fail; refine (awake_any _).mono ?_; rintro e w1 ⟨rfl, b⟩
    (replace bF := bF.next b; replace nV := nV.below b; replace hB := hB.trans (b.mono hB.size))
    obtain ⟨⟨p0, p1, p2, p3⟩, _⟩ := bF.four
    go_wp2_with fail; refine (refOk_any mi mb nx l _ _ nV).mono ?_; rintro e w2 ⟨rfl, b2⟩
    (replace bF := bF.next b2; replace nV := nV.below b2; replace hB := hB.trans (b2.mono hB.size))
    rw [hok]
    go_wp2_with fail; refine (awake_any _).mono ?_; rintro e w3 ⟨rfl, b3⟩
    go_wp2
    go_ret
    exact ⟨rfl, hB.trans (b3.mono hB.size)⟩
  have t := tree_of hok
  have hfw := (ok_parts hok).1
  have hl40 := (few_ents hfw).2.1
  by_cases hp : 1000 < p.length
  · go_enter Try.func4, Try.ntmps4
    go_wp2_with fail; refine (awake_any _).mono ?_; rintro e w1 ⟨rfl, b⟩
    (replace bF := bF.next b; replace nV := nV.below b; replace hB := hB.trans (b.mono hB.size))
    obtain ⟨⟨p0, p1, p2, p3⟩, _⟩ := bF.four
    go_wp2_with fail; refine (refOk_any mi mb nx l _ _ nV).mono ?_; rintro e w2 ⟨rfl, b2⟩
    (replace bF := bF.next b2; replace nV := nV.below b2; replace hB := hB.trans (b2.mono hB.size))
    rw [hok]
    go_wp2_with fail; refine (awake_any _).mono ?_; rintro e w3 ⟨rfl, b3⟩
    go_wp2
    go_ret
    exact ⟨rfl, hB.trans (b3.mono hB.size)⟩
  by_cases hi : i < 1
  · go_enter Try.func4, Try.ntmps4
    go_wp2_with fail; refine (awake_any _).mono ?_; rintro e w1 ⟨rfl, b⟩
    (replace bF := bF.next b; replace nV := nV.below b; replace hB := hB.trans (b.mono hB.size))
    obtain ⟨⟨p0, p1, p2, p3⟩, _⟩ := bF.four
    go_wp2_with fail; refine (refOk_any mi mb nx l _ _ nV).mono ?_; rintro e w2 ⟨rfl, b2⟩
    (replace bF := bF.next b2; replace nV := nV.below b2; replace hB := hB.trans (b2.mono hB.size))
    rw [hok]
    go_wp2_with fail; refine (awake_any _).mono ?_; rintro e w3 ⟨rfl, b3⟩
    go_wp2
    go_ret
    exact ⟨rfl, hB.trans (b3.mono hB.size)⟩
  have hRt := fun W hW => refAt_any mi mb nx l p (.slice a l.length ca) W hW (by omega)
  have hAP := fun W hW he hd => PutP_any mi mb nx i l p (.slice a l.length ca) W hW (by omega) (calm_of hok) he hd
  have hRP := fun W hW => refPutP_any mi mb nx l p i (.slice a l.length ca) W hW (by omega) t.rise (ents_sort t _) (by omega) (Nat.le_trans (few_get hfw _).1 (by decide))
  have hAT := fun W hW he hd => TakeP_any mi mb nx l p (.slice a l.length ca) W hW (by omega) (calm_of hok) he hd
  have hRT := fun W hW => refTakeP_any mi mb nx l p (.slice a l.length ca) W hW (by omega) t.rise (ents_sort t _) (by omega) (Nat.le_trans (few_get hfw _).1 (by decide))
  generalize atP l p = q at *
  obtain ⟨⟨sd, sn, si⟩, er⟩ := q
  dsimp only at hRt hAP hRP hAT hRT
  have HAP := Lib.hid hAP
  have HAT := Lib.hid hAT
  clear hAP hAT t hfw hl40
  go_enter Try.func4, Try.ntmps4
  go_wp2_with fail; refine (awake_any _).mono ?_; rintro e w1 ⟨rfl, b⟩
  (replace bF := bF.next b; replace nV := nV.below b; replace hB := hB.trans (b.mono hB.size))
  obtain ⟨⟨p0, p1, p2, p3⟩, _⟩ := bF.four
  go_wp2_with fail; refine (refOk_any mi mb nx l _ _ nV).mono ?_; rintro e w2 ⟨rfl, b2⟩
  (replace bF := bF.next b2; replace nV := nV.below b2; replace hB := hB.trans (b2.mono hB.size))
  rw [hok]
  clear b b2 p0 p1 p2 p3
  obtain ⟨⟨p0, p1, p2, p3⟩, _⟩ := bF.four
  go_wp2_with fail; refine (hRt _ nV).mono ?_; rintro e w3 ⟨rfl, b3⟩
  have s3 := alloc_below w3 (.cells (spC ⟨sd, sn, si⟩) 28)
  have bA := Blk.new w3 28 (spC ⟨sd, sn, si⟩)
  (replace bF := bF.next b3; replace nV := nV.below b3; replace hB := hB.trans (b3.mono hB.size))
  (replace bF := bF.next s3; replace nV := nV.below s3; replace hB := hB.trans (s3.mono hB.size))
  clear b3 s3 p0 p1 p2 p3
  obtain ⟨⟨a0, a1, a2⟩, _⟩ := bA.three
  dsimp only at a0 a1 a2
  by_cases he : er = 0
  · subst he
    by_cases hd : sd = 0
    · subst hd
      go_wp2
      go_ret
      exact ⟨rfl, hB⟩
    · have hAP := fun W hW => HAP.out W hW rfl hd
      have hAT := fun W hW => HAT.out W hW rfl hd
      clear HAP HAT
      go_upto_region 6 with fail
      generalize w3.alloc (.cells #[.int .i64 sd, .string ⟨sn.toArray⟩, .int .i64 si] 28) = A at *
      have HMK : ∀ W, Below A.heap.size A W → (W.cell? ⟨w.heap.size, 0, none⟩ = some (.int .i64 mi) ∧ W.cell? ⟨w.heap.size, 1, none⟩ = some (.int .i64 mb) ∧ W.cell? ⟨w.heap.size, 2, none⟩ = some (.int .i64 nx) ∧ W.cell? ⟨w.heap.size, 3, none⟩ = some (.slice a l.length ca)) := by
        intro W h
        obtain ⟨⟨x0, x1, x2, x3⟩, _⟩ := (bF.next h).four
        exact ⟨x0, x1, x2, x3⟩
      have hq := (Below.refl A.heap.size A).drew
      clear a0 a1 a2 bA bF
      go_region_held3 (fun W => W.cell? ⟨w.heap.size, 0, none⟩ = some (.int .i64 mi) ∧ W.cell? ⟨w.heap.size, 1, none⟩ = some (.int .i64 mb) ∧ W.cell? ⟨w.heap.size, 2, none⟩ = some (.int .i64 nx) ∧ W.cell? ⟨w.heap.size, 3, none⟩ = some (.slice a l.length ca))
        (exact HMK _ hq)
        (first
          | (go_at_call 14; refine (hAP _ (nV.below hq)).mono ?_; rintro e wz ⟨y1, ev1, rfl, n1, bz⟩; obtain ⟨ay1, cy1, rfl⟩ := nds_slice n1; have hq := hq.trans (bz.mono hq.size); (try replace n2 := n2.below bz); (try replace n3 := n3.below bz); (try replace n4 := n4.below bz))
          | (go_at_call 15; refine (hRP _ (nV.below hq)).mono ?_; rintro e wz ⟨y2, ev2, rfl, n2, bz⟩; obtain ⟨ay2, cy2, rfl⟩ := nds_slice n2; have hq := hq.trans (bz.mono hq.size); (try replace n1 := n1.below bz); (try replace n3 := n3.below bz); (try replace n4 := n4.below bz))
          | (go_at_call 16; refine (hAT _ (nV.below hq)).mono ?_; rintro e wz ⟨y3, ev3, rfl, n3, bz⟩; obtain ⟨ay3, cy3, rfl⟩ := nds_slice n3; have hq := hq.trans (bz.mono hq.size); (try replace n1 := n1.below bz); (try replace n2 := n2.below bz); (try replace n4 := n4.below bz))
          | (go_at_call 17; refine (hRT _ (nV.below hq)).mono ?_; rintro e wz ⟨y4, ev4, rfl, n4, bz⟩; obtain ⟨ay4, cy4, rfl⟩ := nds_slice n4; have hq := hq.trans (bz.mono hq.size); (try replace n1 := n1.below bz); (try replace n2 := n2.below bz); (try replace n3 := n3.below bz))
          | (go_at_call 13; with_reducible refine (tab_keys mi mb nx _ _ _ _ _ n1 n2 (put_same l _ _ _ _)).mono ?_; rintro e wz ⟨rfl, bz⟩; have hq := hq.trans (bz.mono hq.size); (try replace n3 := n3.below bz); (try replace n4 := n4.below bz))
          | (go_at_call 13; with_reducible refine (tab_keys mi mb nx _ _ _ _ _ n3 n4 (take_same l _ _ _)).mono ?_; rintro e wz ⟨rfl, bz⟩; have hq := hq.trans (bz.mono hq.size); (try replace n1 := n1.below bz); (try replace n2 := n2.below bz)))
      all_goals go_wp2
      all_goals go_ret
      all_goals exact ⟨rfl, hB.trans (hq.mono hB.size)⟩
  · go_wp2
    go_ret
    exact ⟨rfl, hB⟩

namespace LPlacePuts
set_option maxRecDepth 100000 in
theorem lifted (os : Os) (started : os.Started) (H : Type) (enc : TypeId × Value → H) :
    ReturnsInHanded {} Try.checked os 4 .any (Rows.placePutsSpec.pre6 enc Try.prog Try.f4 Rows.placePutsRow.domain false) (Rows.placePutsSpec.post enc Try.prog Try.f4 false true false false) := by
  refine returnsInHanded_of_change (C := Try.checked) (by kernel_rfl) started (by kernel_rfl) Try.func4
    (ChangeSpec.witness6 (enc := enc) (C := Try.checked) false ⟨#[], #[.agg #[.int .i64 0, .int .i64 0, .int .i64 0, .slice none 0 0], .string ByteArray.empty, .int .i64 0], []⟩ 8 (by kernel_rfl) (by kernel_rfl) (by kernel_rfl) (by kernel_rfl)) ?_
  intro W base args ds gs before hval0 hW hcnd _
  have hval : ∀ (j : Nat) t v, Try.f4.params[j]? = some t → args[j]? = some v → Value.okWide Try.prog W .any base t v := hval0
  have hW' := hW
  obtain ⟨p, q, hA0, hV, rfl, hfz, hnd⟩ := hW
  have hA : DataW.TrodAll enc Try.prog W 0 (fun _ => true) true Try.f4.params.toList args.toList ds p := hA0
  rw [Try.params4] at hA hval
  obtain ⟨v0, vs0, d0, ds0, p0, q0, hargs, rfl, rfl, k0, r0⟩ := trodAll_cons hA
  obtain ⟨v1, vs1, d1, ds1, p1, q1, rfl, rfl, rfl, k1, r1⟩ := trodAll_cons r0
  obtain ⟨v2, vs2, d2, ds2, p2, q2, rfl, rfl, rfl, k2, r2⟩ := trodAll_cons r1
  obtain ⟨rfl, rfl, rfl⟩ := trodAll_nil r2
  obtain rfl : args = #[v0, v1, v2] := by cases args; simp_all
  obtain ⟨rfl, rfl⟩ := trodVars_none hV
  have ok0 := hval 0 24 v0 rfl rfl
  have ok1 := hval 1 9 v1 rfl rfl
  have ok2 := hval 2 3 v2 rfl rfl
  have lt0 : ∀ x ∈ p0, x.block < W.heap.size := by obtain ⟨m, hm⟩ := k0; exact DataW.trod_lt m _ _ _ hm
  have lt1 : ∀ x ∈ p1, x.block < W.heap.size := by obtain ⟨m, hm⟩ := k1; exact DataW.trod_lt m _ _ _ hm
  have lt2 : ∀ x ∈ p2, x.block < W.heap.size := by obtain ⟨m, hm⟩ := k2; exact DataW.trod_lt m _ _ _ hm
  have C : Calls Try.prog 4 #[v0, v1, v2] W fun e w' => e = .returned (.bool true) ∧ Below W.heap.size W w' := by
    clear hA0 hval0 hval hW' hcnd hV hfz hnd
    obtain ⟨mi, mb, nx, x, l, rfl, hx⟩ := fs_of_trod k0 ok0
    obtain ⟨s, rfl, rfl, rfl, hs⟩ := open_string Try.underlying9 ok1 k1
    obtain ⟨i, rfl, rfl, rfl, hi⟩ := open_int Try.underlying3 ok2 k2
    rw [str_eta s]
    exact lawPuts mi mb nx i l _ x W hx
  refine C.mono fun e W' ⟨he, bel⟩ => ?_
  subst he
  exact ⟨_, rfl, _, _, _, [], _, [], hW', trodAll_mk1 (shut_bool Try.underlying4 _), (trodAll_cons_mk (Below.trod laidOut (by kernel_rfl) (of_decide_eq_true (by kernel_rfl)) k0 bel lt0) (trodAll_cons_mk (Below.trod laidOut (by kernel_rfl) (of_decide_eq_true (by kernel_rfl)) k1 bel lt1) (trodAll_cons_mk (Below.trod laidOut (by kernel_rfl) (of_decide_eq_true (by kernel_rfl)) k2 bel lt2) trodAll_mk0))), rfl, bel.frame _, fun h => by cases h⟩
theorem proved : Rows.PlacePutsSaid :=
  OpenClaim.holds_of_wide 4 Try.f4 rfl rfl rfl rfl rfl rfl rfl ⟨rfl, rfl, rfl, rfl, rfl⟩ rfl rfl rfl rfl rfl (by kernel_rfl) Try.func4 (by kernel_rfl)
    (of_decide_eq_true (by kernel_rfl)) (by unfold Func.isWrapper; first | (rw [if_pos (by decide +kernel)]; kernel_rfl) | (rw [if_neg (by decide +kernel)]; exact ⟨rfl, rfl⟩))
    (fun os started H enc _ => lifted os started H enc)
#print axioms proved
end LPlacePuts
end Go.Proofs.Ytbdgcpimnkieiaa
