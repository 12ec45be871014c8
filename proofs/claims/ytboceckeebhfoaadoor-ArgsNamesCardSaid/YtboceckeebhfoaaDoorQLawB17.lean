import Derived.Test.YtboceckeebhfoaaDoorQMByts17
import Derived.Lib.SmallJoins
set_option linter.unusedVariables false
set_option linter.unusedSimpArgs false
/- For whatever number: the command's name is the document's; for whatever command and byte: so is whether it has that option. -/
set_option linter.unusedVariables false
set_option linter.unusedSimpArgs false
namespace Go.Proofs.YtboceckeebhfoaaDoor
open Go.ChangeShapes Go.WideShapes Go.ChangeAt Go.RowKit
set_option linter.unusedVariables false

theorem cmd_of_trod {H : Type} {enc : TypeId × Value → H} {W : World} {base : Nat} {v : Value} {d : DataW H} {p : List MemPlace}
    (ok : Value.okWide Tryd.prog W .any base 26 v) (k : DataW.Trod enc Tryd.prog W 0 (fun _ => true) true 26 v d p) : ∃ (c : CmdV) (a : Option Addr) (n m : Nat), v = .agg (cmdC c (.slice a n m)) ∧ c.opts.length ≤ maxLen := by
  obtain ⟨v0, v1, v2, y0, y1, y2, n, rfl, rfl, rfl, h0, h1, h2⟩ := Joins.open_agg3 Tryd.underlying26 (by kernel_rfl) (by kernel_rfl) ok k
  obtain ⟨z0, e0, _, _⟩ := DataW.trod_int Tryd.underlying3 h0
  obtain ⟨s1, e1, _, m1⟩ := DataW.trod_string Tryd.underlying9 h1
  obtain ⟨ad, len, cap, e2⟩ := Joins.slice_form Tryd.underlying22 h2
  simp only [List.cons.injEq, and_true] at e0 e1 e2
  subst e0 e1 e2
  exact ⟨⟨z0, s1.data.toList, []⟩, ad, len, cap, by simp [cmdC], by simpa using m1⟩

set_option maxHeartbeats 4000000 in
theorem lawNames17 (k : Int) (c : CmdV) (a : Option Addr) (n m : Nat) (x : UInt8) (w : World) (hc : c.opts.length ≤ maxLen) (hL : Laid17 w) :
    Calls Tryd.prog 4 #[.int .i64 k, .agg (cmdC c (.slice a n m)), .int .u8 (x.toNat : Int)] w fun e w' => e = .returned (.bool true) ∧ Below w.heap.size w w' := by
  unfold maxLen at hc
  have HL := Lib.hid hL
  clear hL
  have bC := Blk.new w 26 (cmdC c (.slice a n m))
  have hB := below_new w (.cells (cmdC c (.slice a n m)) 26)
  generalize hW0 : w.alloc (.cells (cmdC c (.slice a n m)) 26) = W0 at *
  by_cases h3 : c.opts.length ≤ 300
  rotate_left
  · have h3' : 300 < c.opts.length := by omega
    go_enter Tryd.func4, Tryd.ntmps4
    go_wp2_with fail; refine (awake17 _ (HL.out.next hB)).mono ?_; rintro e w1 ⟨rfl, b1⟩
    replace bC := bC.next b1
    replace hB := hB.trans (b1.mono hB.size)
    obtain ⟨⟨p0, p1, p2⟩, _⟩ := bC.tri
    go_wp2_with fail; refine (awake17 _ (HL.out.next hB)).mono ?_; rintro e w2 ⟨rfl, b2⟩
    go_wp2
    go_ret
    exact ⟨rfl, hB.trans (b2.mono hB.size)⟩
  have hH := fun W => Has17_any c (.slice a n m) x W (by omega) ⟨a, n, m, rfl⟩
  have hI := fun W => refIn_any c.opts x W (by omega)
  have hN := fun W (hLW : Laid17 W) => Name17_any k W hLW
  have hM := fun W => refName_any k W
  generalize nameK k = nm at *
  go_enter Tryd.func4, Tryd.ntmps4
  go_wp2_with fail; refine (awake17 _ (HL.out.next hB)).mono ?_; rintro e w1 ⟨rfl, b1⟩
  replace bC := bC.next b1
  replace hB := hB.trans (b1.mono hB.size)
  clear b1 hW0
  obtain ⟨⟨p0, p1, p2⟩, _⟩ := bC.tri
  go_upto_region 3 with fail
  have HMK : ∀ W, Below w1.heap.size w1 W → W.cell? ⟨w.heap.size, 0, none⟩ = some (.int .i64 c.kind) ∧ W.cell? ⟨w.heap.size, 1, none⟩ = some (.string ⟨c.opts.toArray⟩) ∧ W.cell? ⟨w.heap.size, 2, none⟩ = some (.slice a n m) := fun W h => (bC.next h).tri.1
  have hq : Below w1.heap.size w1 w1.drew := (Below.refl _ _).drew
  clear p0 p1 p2
  go_region_held3 (fun W => W.cell? ⟨w.heap.size, 0, none⟩ = some (.int .i64 c.kind) ∧ W.cell? ⟨w.heap.size, 1, none⟩ = some (.string ⟨c.opts.toArray⟩) ∧ W.cell? ⟨w.heap.size, 2, none⟩ = some (.slice a n m))
    (first | with_reducible exact HMK _ hq)
    (first
      | (go_at_call 13; (with_reducible refine (hN _ (HL.out.next (hB.trans (hq.mono hB.size)))).mono ?_); rintro e w6 ⟨rfl, b6⟩; have hq := hq.trans (b6.mono hq.size))
      | (go_at_call 14; (with_reducible refine (hM _).mono ?_); rintro e w6 ⟨rfl, b6⟩; have hq := hq.trans (b6.mono hq.size))
      | (go_at_call 15; (with_reducible refine (hH _).mono ?_); rintro e w6 ⟨rfl, b6⟩; have hq := hq.trans (b6.mono hq.size))
      | (go_at_call 16; (with_reducible refine (hI _).mono ?_); rintro e w6 ⟨rfl, rfl⟩))
  all_goals go_wp2
  all_goals go_ret
  all_goals exact ⟨ret_bool (by simp), hB.trans (hq.mono hB.size)⟩
namespace LArgsNames
set_option maxRecDepth 100000 in
theorem lifted (os : Os) (started : os.Started) (H : Type) (enc : TypeId × Value → H) :
    ReturnsInHanded {} Tryd.checked os 4 .any (fun w args => (Rows.argsNamesSpec.pre enc Tryd.prog Tryd.f4 [] false w args ∧ laidMetH Tryd.prog Rows.argsNamesRow.laid w) ∧ sizedMet enc Tryd.prog Tryd.f4 (OpenSpec.ofChange Rows.argsNamesSpec) false w args) (Rows.argsNamesSpec.post enc Tryd.prog Tryd.f4 false true false false) := by
  refine returnsInHanded_of_change_and (C := Tryd.checked) (X := fun w _ => laidMetH Tryd.prog Rows.argsNamesRow.laid w) (fun _ _ _ hh h => h.of_heap hh) (by kernel_rfl) started (by kernel_rfl) Tryd.func4
    (ChangeSpec.witness_shaped (enc := enc) (C := Tryd.checked) (os := os) (X := fun w _ => laidMetH Tryd.prog Rows.argsNamesRow.laid w) false (World.laidAll Tryd.prog os Rows.argsNamesRow.laid) #[.int .i64 0, .agg #[.int .i64 0, .string ByteArray.empty, .slice none 0 0], .int .u8 0] 8 (World.laidAll_os _ _ _)
      (World.shaped_of_ZipB (by kernel_rfl) (by kernel_rfl)) (by kernel_rfl) (by kernel_rfl) (by kernel_rfl)
      (by rw [MakeChecks.laidMetH_plain _ _ _ (by kernel_rfl)]; exact laidMet_laidAll _ (by kernel_rfl) (by kernel_rfl))) ?_
  intro W base args ds gs before hval0 hW hcnd _ hLaid _
  have hL := of_laid hLaid
  clear hLaid
  have hval : ∀ (j : Nat) t v, Tryd.f4.params[j]? = some t → args[j]? = some v → Value.okWide Tryd.prog W .any base t v := hval0
  have hW' := hW
  obtain ⟨p, q, hA0, hV, rfl, hfz, hnd⟩ := hW
  have hA : DataW.TrodAll enc Tryd.prog W 0 (fun _ => true) true Tryd.f4.params.toList args.toList ds p := hA0
  rw [Tryd.params4] at hA hval
  obtain ⟨v0, vs0, d0, ds0, p0, q0, hargs, rfl, rfl, k0, r0⟩ := trodAll_cons hA
  obtain ⟨v1, vs1, d1, ds1, p1, q1, rfl, rfl, rfl, k1, r1⟩ := trodAll_cons r0
  obtain ⟨v2, vs2, d2, ds2, p2, q2, rfl, rfl, rfl, k2, r2⟩ := trodAll_cons r1
  obtain ⟨rfl, rfl, rfl⟩ := trodAll_nil r2
  obtain rfl : args = #[v0, v1, v2] := by cases args; simp_all
  obtain ⟨rfl, rfl⟩ := trodVars_none hV
  have ok0 := hval 0 3 v0 rfl rfl
  have ok1 := hval 1 26 v1 rfl rfl
  have ok2 := hval 2 5 v2 rfl rfl
  have lt0 : ∀ x ∈ p0, x.block < W.heap.size := by obtain ⟨m, hm⟩ := k0; exact DataW.trod_lt m _ _ _ hm
  have lt1 : ∀ x ∈ p1, x.block < W.heap.size := by obtain ⟨m, hm⟩ := k1; exact DataW.trod_lt m _ _ _ hm
  have lt2 : ∀ x ∈ p2, x.block < W.heap.size := by obtain ⟨m, hm⟩ := k2; exact DataW.trod_lt m _ _ _ hm
  have C : Calls Tryd.prog 4 #[v0, v1, v2] W fun e w' => e = .returned (.bool true) ∧ Below W.heap.size W w' := by
    clear hA0 hval0 hval hW' hcnd hV hfz hnd
    obtain ⟨k, rfl, rfl, rfl, hk⟩ := open_int Tryd.underlying3 ok0 k0
    obtain ⟨c, a, n, m, rfl, hc⟩ := cmd_of_trod ok1 k1
    obtain ⟨x, rfl, rfl, rfl, hx⟩ := open_int Tryd.underlying5 ok2 k2
    have hb := bounds_u8 hx
    obtain ⟨y, rfl⟩ := Int.eq_ofNat_of_zero_le hb.1
    have hy : y < 256 := by omega
    rw [show ((y : Nat) : Int) = (((UInt8.ofNat y).toNat : Nat) : Int) from by rw [UInt8.toNat_ofNat_of_lt' hy]]
    exact lawNames17 _ c a n m _ W hc hL
  refine C.mono fun e W' ⟨he, bel⟩ => ?_
  subst he
  exact ⟨_, rfl, _, _, _, [], _, [], hW', trodAll_mk1 (shut_bool Tryd.underlying4 _), (trodAll_cons_mk (Below.trod laidOut (by kernel_rfl) (of_decide_eq_true (by kernel_rfl)) k0 bel lt0) (trodAll_cons_mk (Below.trod laidOut (by kernel_rfl) (of_decide_eq_true (by kernel_rfl)) k1 bel lt1) (trodAll_cons_mk (Below.trod laidOut (by kernel_rfl) (of_decide_eq_true (by kernel_rfl)) k2 bel lt2) trodAll_mk0))), rfl, bel.frame _, fun h => by cases h⟩
theorem bare : Rows.ArgsNamesSaid :=
  OpenClaim.holds_of_wide 4 Tryd.f4 rfl rfl rfl rfl rfl rfl rfl ⟨rfl, rfl, rfl, rfl, rfl⟩ rfl rfl rfl rfl rfl (by kernel_rfl) Tryd.func4 (by kernel_rfl)
    (of_decide_eq_true (by kernel_rfl)) (by unfold Func.isWrapper; first | (rw [if_pos (by decide +kernel)]; kernel_rfl) | (rw [if_neg (by decide +kernel)]; exact ⟨rfl, rfl⟩))
    (fun os started H enc _ => lifted os started H enc)
theorem proved : Rows.ArgsNamesCardSaid :=
  Claim7.holds_tied_plain_at .later [] Rows.argsNamesCard.laidKinds true Rows.argsNamesCard.stood.harness false
    bare (fun _ h => by cases h) (by kernel_rfl) (fun _ h => by cases h) argsNames_row_tie rfl ⟨rfl, rfl⟩ (by kernel_rfl) rfl
    (fun f fn hf hfn => by
      obtain rfl : f = 4 := Option.some.inj ((show Tryd.prog.funcNamed "drayman/draymanlaw17.ArgsNames" = some 4 by kernel_rfl).symm.trans hf) |>.symm
      obtain rfl : fn = Tryd.f4 := (Option.some.inj (Tryd.func4.symm.trans hfn)).symm
      exact ⟨by kernel_rfl, fun j t ht => by
        rw [Tryd.params4] at ht
        have hm : t ∈ [3, 26, 5] := by simpa using Array.mem_of_getElem? ht
        have hall : ([3, 26, 5].all fun u => !Tryd.prog.wantsStandIn u) = true := by kernel_rfl
        exact (show Tryd.prog.wantsStandIn t = false by simpa using List.all_eq_true.1 hall t hm)⟩)
    (by kernel_rfl)
#print axioms proved
end LArgsNames
end Go.Proofs.YtboceckeebhfoaaDoor
