/- Whatever the operands' bytes: a line has signs and blanks alone, and there is one just of commands and phrases. -/
import Derived.Test.YtbaclgnohnmdgaaDoorLawBase18
set_option linter.unusedVariables false
set_option linter.unusedSimpArgs false
namespace Go.Proofs.YtbaclgnohnmdgaaDoor
open Go.ChangeShapes Go.WideShapes Go.ChangeAt Go.RowKit
open Go.ChangeMaps (open_string shut_string)
set_option linter.unusedVariables false

theorem msg_line_all : ∀ k : Fin 14, signL (msgAt k.val) = true := by decide +kernel
theorem msg_line (e : Int) : signL (msgOf e) = true := by
  by_cases h : 0 ≤ e ∧ e ≤ 13
  · obtain ⟨k, rfl⟩ : ∃ k : Nat, e = k := ⟨e.toNat, by omega⟩
    rw [msgOf_nat k (by omega)]
    exact msg_line_all ⟨k, by omega⟩
  · rw [msgOf_no (by omega)]; decide
theorem tell_len (kind what : Int) {a b : List UInt8} (e : Int) (ha : a.length ≤ 1000) (hb : b.length ≤ 1000) : (tellL kind what a b (msgOf e)).length ≤ 10000 := by
  unfold tellL
  have h1 := quoteB_len a
  have h2 := quoteB_len b
  have h3 := msgOf_small e
  have h4 := nameK_len kind
  have h5 := say_len what (quoteB a) (quoteB b) (msgOf e)
  split
  · exact Nat.zero_le _
  · rw [List.length_append, List.length_append]
    simp only [List.length_cons, List.length_nil]
    omega
set_option maxHeartbeats 4000000 in
theorem lawSigns18 (kind what : Int) (a b : List UInt8) (e : Int) (w : World) (hL : LaidD w) (ha : a.length ≤ maxLen) (hb : b.length ≤ maxLen) :
    Calls Tryd.prog 4 #[.int .i64 kind, .int .i64 what, .string ⟨a.toArray⟩, .string ⟨b.toArray⟩, .int .i64 e] w fun r w' => r = .returned (.bool true) ∧ Below w.heap.size w w' := by
  unfold maxLen at ha hb
  have HL := Lib.hid hL
  clear hL
  by_cases h1 : a.length ≤ 1000
  rotate_left
  · go_enter Tryd.func4, Tryd.ntmps4; go_wp2_with fail; refine (awake18 _ HL.out).mono ?_; rintro e w1 ⟨rfl, b1⟩; go_wp2_with fail; refine (awake18 _ (HL.out.next b1)).mono ?_; rintro e w2 ⟨rfl, b2⟩; go_wp2; go_ret; exact ⟨rfl, b1.trans (b2.mono b1.size)⟩
  by_cases h2 : b.length ≤ 1000
  rotate_left
  · go_enter Tryd.func4, Tryd.ntmps4; go_wp2_with fail; refine (awake18 _ HL.out).mono ?_; rintro e w1 ⟨rfl, b1⟩; go_wp2_with fail; refine (awake18 _ (HL.out.next b1)).mono ?_; rintro e w2 ⟨rfl, b2⟩; go_wp2; go_ret; exact ⟨rfl, b1.trans (b2.mono b1.size)⟩
  have hT := fun W (h : LaidD W) => Tell_any kind what a b e W h h1 h2
  have hln := tell_len kind what e h1 h2
  have hS : ∀ j (h : j < (tellL kind what a b (msgOf e)).length), lineC (tellL kind what a b (msgOf e))[j] = true := fun j h => List.all_eq_true.1 (tell_line kind what a b (quote_line a) (quote_line b) (msg_line e)) _ (List.getElem_mem h)
  have hth := tell_there kind what a b (msgOf e)
  generalize tellL kind what a b (msgOf e) = T at *
  have HS := Lib.hid hS
  have HTH := Lib.hid hth
  clear hS hth
  go_enter Tryd.func4, Tryd.ntmps4
  go_wp2_with fail; refine (awake18 _ HL.out).mono ?_; rintro e w1 ⟨rfl, b1⟩
  go_wp2_with fail; refine (hT _ (HL.out.next b1)).mono ?_; rintro e w2 ⟨rfl, b2⟩
  replace b2 := b1.trans (b2.mono b1.size)
  clear b1 hT
  go_wp2
  go_loop [12] (fun i => ∃ k : Nat, k ≤ T.length ∧ i = .int .i64 (k : Int)) (fun i => T.length - (intOf i).toNat)
  case atStart => exact ⟨0, Nat.zero_le _, rfl⟩
  case round =>
    obtain ⟨k, hk, rfl⟩ := hrel
    by_cases hlt : k < T.length
    · have hc := HS.out k hlt
      unfold lineC at hc
      rw [Bool.and_eq_true, decide_eq_true_eq, decide_eq_true_eq] at hc
      have c1 : ¬ ((T[k].toNat : Int) < 32) := by omega
      have c2 : ¬ ((126 : Int) < (T[k].toNat : Int)) := by omega
      clear hc
      go_wp2
      go_round
      case rel => exact ⟨k + 1, by omega, by go_num⟩
      case measure => simp [intOf]; omega
    · obtain rfl : k = T.length := by omega
      by_cases q1 : 1 ≤ kind
      rotate_left
      · have hT0 : T.isEmpty = true := by rw [List.isEmpty_iff]; exact Decidable.byContradiction fun c => q1 (HTH.out.1 c).1
        go_wp2
        go_ret
        exact ⟨rfl, b2⟩
      by_cases q2 : kind ≤ 5
      rotate_left
      · have hT0 : T.isEmpty = true := by rw [List.isEmpty_iff]; exact Decidable.byContradiction fun c => q2 (HTH.out.1 c).2.1
        go_wp2
        go_ret
        exact ⟨rfl, b2⟩
      by_cases q3 : 1 ≤ what
      rotate_left
      · have hT0 : T.isEmpty = true := by rw [List.isEmpty_iff]; exact Decidable.byContradiction fun c => q3 (HTH.out.1 c).2.2.1
        go_wp2
        go_ret
        exact ⟨rfl, b2⟩
      by_cases q4 : what ≤ 22
      rotate_left
      · have hT0 : T.isEmpty = true := by rw [List.isEmpty_iff]; exact Decidable.byContradiction fun c => q4 (HTH.out.1 c).2.2.2
        go_wp2
        go_ret
        exact ⟨rfl, b2⟩
      have hT0 : T.isEmpty = false := by rw [Bool.eq_false_iff, ne_eq, List.isEmpty_iff]; exact HTH.out.2 ⟨q1, q2, q3, q4⟩
      go_wp2
      go_ret
      exact ⟨rfl, b2⟩
namespace LDiagSigns
set_option maxRecDepth 100000 in
theorem lifted (os : Os) (started : os.Started) (H : Type) (enc : TypeId × Value → H) :
    ReturnsInHanded {} Tryd.checked os 4 .any (fun w args => (Rows.diagSignsSpec.pre enc Tryd.prog Tryd.f4 [] false w args ∧ laidMetH Tryd.prog Rows.diagSignsRow.laid w) ∧ sizedMet enc Tryd.prog Tryd.f4 (OpenSpec.ofChange Rows.diagSignsSpec) false w args) (Rows.diagSignsSpec.post enc Tryd.prog Tryd.f4 false true false false) := by
  refine returnsInHanded_of_change_and (C := Tryd.checked) (X := fun w _ => laidMetH Tryd.prog Rows.diagSignsRow.laid w) (fun _ _ _ hh h => h.of_heap hh) (by kernel_rfl) started (by kernel_rfl) Tryd.func4
    (ChangeSpec.witness_shaped (enc := enc) (C := Tryd.checked) (os := os) (X := fun w _ => laidMetH Tryd.prog Rows.diagSignsRow.laid w) false (World.laidAll Tryd.prog os Rows.diagSignsRow.laid) #[.int .i64 0, .int .i64 0, .string ByteArray.empty, .string ByteArray.empty, .int .i64 0] 8 (World.laidAll_os _ _ _)
      (World.shaped_of_ZipB (by kernel_rfl) (by kernel_rfl)) (by kernel_rfl) (by kernel_rfl) (by kernel_rfl)
      (by rw [MakeChecks.laidMetH_plain _ _ _ (by kernel_rfl)]; exact laidMet_laidAll _ (by kernel_rfl) (by kernel_rfl))) ?_
  intro W base args ds gs before hval0 hW hcnd _ hLaid _
  have hL := of_laid hLaid
  clear hLaid
  have hval : ∀ (j : Nat) t v, Tryd.f4.params[j]? = some t → args[j]? = some v → Value.okWide Tryd.prog W .any base t v := hval0
  have hW' := hW
  obtain ⟨p, q, hA0, hV, rfl, hfz, hnd⟩ := hW
  have hA : DataW.TrodAll enc Tryd.prog W 0 (fun _ => true) true Tryd.f4.params.toList args.toList ds p := hA0
  rw [Tryd.params4] at hA hval
  obtain ⟨v0, vs0, d0, ds0, p0, q0, hargs, rfl, rfl, k0, r0⟩ := trodAll_cons hA
  obtain ⟨v1, vs1, d1, ds1, p1, q1, rfl, rfl, rfl, k1, r1⟩ := trodAll_cons r0
  obtain ⟨v2, vs2, d2, ds2, p2, q2, rfl, rfl, rfl, k2, r2⟩ := trodAll_cons r1
  obtain ⟨v3, vs3, d3, ds3, p3, q3, rfl, rfl, rfl, k3, r3⟩ := trodAll_cons r2
  obtain ⟨v4, vs4, d4, ds4, p4, q4, rfl, rfl, rfl, k4, r4⟩ := trodAll_cons r3
  obtain ⟨rfl, rfl, rfl⟩ := trodAll_nil r4
  obtain rfl : args = #[v0, v1, v2, v3, v4] := by cases args; simp_all
  obtain ⟨rfl, rfl⟩ := trodVars_none hV
  have ok0 := hval 0 3 v0 rfl rfl
  have ok1 := hval 1 3 v1 rfl rfl
  have ok2 := hval 2 9 v2 rfl rfl
  have ok3 := hval 3 9 v3 rfl rfl
  have ok4 := hval 4 3 v4 rfl rfl
  have lt0 : ∀ x ∈ p0, x.block < W.heap.size := by obtain ⟨m, hm⟩ := k0; exact DataW.trod_lt m _ _ _ hm
  have lt1 : ∀ x ∈ p1, x.block < W.heap.size := by obtain ⟨m, hm⟩ := k1; exact DataW.trod_lt m _ _ _ hm
  have lt2 : ∀ x ∈ p2, x.block < W.heap.size := by obtain ⟨m, hm⟩ := k2; exact DataW.trod_lt m _ _ _ hm
  have lt3 : ∀ x ∈ p3, x.block < W.heap.size := by obtain ⟨m, hm⟩ := k3; exact DataW.trod_lt m _ _ _ hm
  have lt4 : ∀ x ∈ p4, x.block < W.heap.size := by obtain ⟨m, hm⟩ := k4; exact DataW.trod_lt m _ _ _ hm
  have C : Calls Tryd.prog 4 #[v0, v1, v2, v3, v4] W fun e w' => e = .returned (.bool true) ∧ Below W.heap.size W w' := by
    clear hA0 hval0 hval hW' hcnd hV hfz hnd
    obtain ⟨k, rfl, rfl, rfl, hk⟩ := open_int Tryd.underlying3 ok0 k0
    obtain ⟨n, rfl, rfl, rfl, hn⟩ := open_int Tryd.underlying3 ok1 k1
    obtain ⟨s, rfl, rfl, rfl, hs⟩ := open_string Tryd.underlying9 ok2 k2
    obtain ⟨t, rfl, rfl, rfl, ht⟩ := open_string Tryd.underlying9 ok3 k3
    obtain ⟨e, rfl, rfl, rfl, he⟩ := open_int Tryd.underlying3 ok4 k4
    rw [str_eta s, str_eta t]
    exact lawSigns18 _ _ _ _ _ W hL (str_len hs) (str_len ht)
  refine C.mono fun e W' ⟨he, bel⟩ => ?_
  subst he
  exact ⟨_, rfl, _, _, _, [], _, [], hW', trodAll_mk1 (shut_bool Tryd.underlying4 _), (trodAll_cons_mk (Below.trod laidOut (by kernel_rfl) (of_decide_eq_true (by kernel_rfl)) k0 bel lt0) (trodAll_cons_mk (Below.trod laidOut (by kernel_rfl) (of_decide_eq_true (by kernel_rfl)) k1 bel lt1) (trodAll_cons_mk (Below.trod laidOut (by kernel_rfl) (of_decide_eq_true (by kernel_rfl)) k2 bel lt2) (trodAll_cons_mk (Below.trod laidOut (by kernel_rfl) (of_decide_eq_true (by kernel_rfl)) k3 bel lt3) (trodAll_cons_mk (Below.trod laidOut (by kernel_rfl) (of_decide_eq_true (by kernel_rfl)) k4 bel lt4) trodAll_mk0))))), rfl, bel.frame _, fun h => by cases h⟩
theorem bare : Rows.DiagSignsSaid :=
  OpenClaim.holds_of_wide 4 Tryd.f4 rfl rfl rfl rfl rfl rfl rfl ⟨rfl, rfl, rfl, rfl, rfl⟩ rfl rfl rfl rfl rfl (by kernel_rfl) Tryd.func4 (by kernel_rfl)
    (of_decide_eq_true (by kernel_rfl)) (by unfold Func.isWrapper; first | (rw [if_pos (by decide +kernel)]; kernel_rfl) | (rw [if_neg (by decide +kernel)]; exact ⟨rfl, rfl⟩))
    (fun os started H enc _ => lifted os started H enc)
theorem proved : Rows.DiagSignsCardSaid :=
  Claim7.holds_tied_plain_at .later [] Rows.diagSignsCard.laidKinds true Rows.diagSignsCard.stood.harness false
    bare (fun _ h => by cases h) (by kernel_rfl) (fun _ h => by cases h) diagSigns_row_tie rfl ⟨rfl, rfl⟩ (by kernel_rfl) rfl
    (fun f fn hf hfn => by
      obtain rfl : f = 4 := Option.some.inj ((show Tryd.prog.funcNamed "drayman/draymanlaw18.DiagSigns" = some 4 by kernel_rfl).symm.trans hf) |>.symm
      obtain rfl : fn = Tryd.f4 := (Option.some.inj (Tryd.func4.symm.trans hfn)).symm
      exact ⟨by kernel_rfl, fun j t ht => by
        rw [Tryd.params4] at ht
        have hm : t ∈ [3, 3, 9, 9, 3] := by simpa using Array.mem_of_getElem? ht
        have hall : ([3, 3, 9, 9, 3].all fun u => !Tryd.prog.wantsStandIn u) = true := by kernel_rfl
        exact (show Tryd.prog.wantsStandIn t = false by simpa using List.all_eq_true.1 hall t hm)⟩)
    (by kernel_rfl)
#print axioms proved
end LDiagSigns

end Go.Proofs.YtbaclgnohnmdgaaDoor
