import Derived.Test.YtolbhjjcabiabaaGreatDoorQMLawBase20
import Derived.Laws.StructEq
import Derived.BigQuiet
set_option linter.unusedVariables false
set_option linter.unusedSimpArgs false
/- A text that is cut off, or goes on, isn't read. -/
set_option linter.unusedVariables false
set_option linter.unusedSimpArgs false
namespace Go.Proofs.YtolbhjjcabiabaaGreatDoor
open Go.ChangeShapes Go.WideShapes Go.ChangeAt Go.RowKit
open Go.ChangeMaps (open_string shut_string)
set_option linter.unusedVariables false
attribute [local go_sem] ByteArray.mk_append_mk

set_option maxHeartbeats 8000000 in
set_option maxRecDepth 100000 in
theorem lawCuts20 (l : List OpV) (v : Value) (m : Nat) (s : List UInt8) (w : World) (hL : Laid20 w) (hv : Ops w v l) (hm : m < 65536) (hs : s.length ≤ maxLen) :
    Calls Tryz.prog 7 #[v, .int .u16 (m : Int), .string ⟨s.toArray⟩] w fun e w' => e = .returned (.bool true) ∧ Below w.heap.size w w' := by
  unfold maxLen at hs
  have HL := Lib.hid hL
  clear hL
  obtain ⟨a, ca, rfl⟩ := ops_slice hv
  cases hf : fewOw l
  · go_enter Tryz.func7, Tryz.ntmps7
    go_wp2_with fail; refine (awake20 _ HL.out).mono ?_; rintro e w1 ⟨rfl, b1⟩
    go_wp2_with fail; refine (fewOw_any l _ _ (hv.below b1)).mono ?_; rintro e w2 ⟨rfl, rfl⟩
    rw [hf]
    go_wp2_with fail; refine (awake20 _ (HL.out.next b1)).mono ?_; rintro e w2 ⟨rfl, b2⟩
    go_wp2
    go_ret
    exact ⟨rfl, b1.trans (b2.mono b1.size)⟩
  by_cases h1000 : 1000 < s.length
  · have h1i : (1000 : Int) < (s.length : Int) := by omega
    go_enter Tryz.func7, Tryz.ntmps7
    go_wp2_with fail; refine (awake20 _ HL.out).mono ?_; rintro e w1 ⟨rfl, b1⟩
    go_wp2_with fail; refine (fewOw_any l _ _ (hv.below b1)).mono ?_; rintro e w2 ⟨rfl, rfl⟩
    rw [hf]
    go_wp2_with fail; refine (awake20 _ (HL.out.next b1)).mono ?_; rintro e w2 ⟨rfl, b2⟩
    go_wp2
    go_ret
    exact ⟨rfl, b1.trans (b2.mono b1.size)⟩
  have h1i : ¬ (1000 : Int) < (s.length : Int) := by omega
  obtain ⟨h1, h2, h3, h4⟩ := few_puts hf
  have hP := fun W (hLW : Laid20 W) (h : Ops W (.slice a l.length ca) l) => Put20_any l _ W hLW h h3 h4
  cases he : eitherO l
  · have hp : putO l = ([], 12) := by unfold putO; rw [show (planO l || undoO l) = eitherO l from rfl, he]; rfl
    rw [hp] at hP
    dsimp only at hP
    clear h1 h2 h3 h4
    go_enter Tryz.func7, Tryz.ntmps7
    go_wp2_with fail; refine (awake20 _ HL.out).mono ?_; rintro e w1 ⟨rfl, b1⟩
    go_wp2_with fail; refine (fewOw_any l _ _ (hv.below b1)).mono ?_; rintro e w2 ⟨rfl, rfl⟩
    rw [hf]
    go_wp2_with fail; refine (hP _ (HL.out.next b1) (hv.below b1)).mono ?_; rintro e w2 ⟨rfl, b2⟩
    go_wp2
    go_ret
    exact ⟨rfl, b1.trans (b2.mono b1.size)⟩
  have hp : putO l = (textO l, 0) := by unfold putO; rw [show (planO l || undoO l) = eitherO l from rfl, he]; rfl
  rw [hp] at hP
  dsimp only at hP
  have htl := text_len h1 h2 (either_may he)
  have hsh := short_text h1 h2 (either_may he)
  have hte : 6 ≤ (textO l).length := by
    unfold textO headO
    rw [List.length_append, List.length_append, List.length_cons, show planW.length = 5 from rfl]
    omega
  have hGM := get_more (l := l) s he (by omega)
  have hGC := fun n (h : n < (textO l).length) => get_cut (l := l) he (by omega) h
  clear h1 h2 h3 h4 hp
  generalize textO l = T at *
  obtain ⟨k, hk⟩ : ∃ k, k = m % T.length := ⟨_, rfl⟩
  have hkl : k < T.length := by rw [hk]; exact Nat.mod_lt _ (by omega)
  obtain ⟨q, hq, hqk⟩ := hGC k hkl
  have hg1 := fun W (hLW : Laid20 W) => Get20_short (T.take k) W hLW (by rw [List.length_take]; omega) (by decide) (hsh.take k)
  have hg2 := fun W (hLW : Laid20 W) => Get20_short (T ++ s) W hLW (by rw [List.length_append]; omega) (by decide) (hsh.append (M := 1000) (by omega))
  rw [hq] at hg1
  rw [hGM] at hg2
  have hki : (m : Int).tmod (T.length : Int) = (k : Int) := by rw [hk]; exact (Int.ofNat_tmod m T.length).symm
  have hTb : (T == []) = false := by
    rw [beq_eq_false_iff_ne]
    intro c
    rw [c] at hte
    simp at hte
  have hTl : ¬ (T.length : Int) = 0 := by omega
  have hte0 : 0 < T.length := by omega
  clear hGM hGC hq hk
  go_enter Tryz.func7, Tryz.ntmps7
  go_wp2_with fail; refine (awake20 _ HL.out).mono ?_; rintro e w1 ⟨rfl, b1⟩
  go_wp2_with fail; refine (fewOw_any l _ _ (hv.below b1)).mono ?_; rintro e w2 ⟨rfl, rfl⟩
  rw [hf]
  clear hf
  go_wp2_with fail; refine (hP _ (HL.out.next b1) (hv.below b1)).mono ?_; rintro e w2 ⟨rfl, b2⟩
  replace b2 := b1.trans (b2.mono b1.size)
  clear b1 hP
  go_wp2_with fail
  refine (hg1 _ (HL.out.next b2)).mono ?_
  rintro e w3 ⟨v3, rfl, o3, b3⟩
  obtain ⟨a3, c3, rfl⟩ := ops_slice o3
  clear o3 hg1
  have B3 := Blk.new w3 38 #[.int .i64 (q : Int), .int .i64 12]
  replace b3 := b3.trans (((Below.refl w3.heap.size w3).alloc (Nat.le_refl _) (.cells #[.int .i64 (q : Int), .int .i64 12] 38)).mono b3.size)
  replace b2 := b2.trans (b3.mono b2.size)
  clear b3
  go_upto_region 7 with fail
  generalize hw4 : w3.alloc (.cells #[.int .i64 (q : Int), .int .i64 12] 38) = w4 at *
  clear hw4
  have hqi : (q : Int) ≤ (k : Int) := by omega
  by_cases hs0 : s = []
  · subst hs0
    rw [if_pos rfl, List.append_nil] at hg2
    dsimp only at hg2
    go_wp2_with fail
    (try simp only [List.append_nil])
    refine (hg2 _ (HL.out.next b2)).mono ?_
    rintro e w5 ⟨v5, rfl, o5, b5⟩
    obtain ⟨a5, c5, rfl⟩ := ops_slice o5
    clear o5 hg2
    have B5 := Blk.new w5 38 #[.int .i64 0, .int .i64 0]
    replace b5 := b5.trans (((Below.refl w5.heap.size w5).alloc (Nat.le_refl _) (.cells #[.int .i64 0, .int .i64 0] 38)).mono b5.size)
    replace b2 := b2.trans (b5.mono b2.size)
    replace B3 := B3.next b5
    clear b5
    go_upto_region 8 with fail
    generalize hw6 : w5.alloc (.cells #[.int .i64 0, .int .i64 0] 38) = w6 at *
    clear hw6
    obtain ⟨p0, p1⟩ := B3.pair
    obtain ⟨q0, q1⟩ := B5.pair
    go_quiet (fail)
    go_wp2
    go_ret
    exact ⟨ret_bool (by simp), below_drewN b2 _⟩
  · have hsb : (s == []) = false := by simpa using hs0
    rw [if_neg hs0] at hg2
    dsimp only at hg2
    go_wp2_with fail
    refine (hg2 _ (HL.out.next b2)).mono ?_
    rintro e w5 ⟨v5, rfl, o5, b5⟩
    obtain ⟨a5, c5, rfl⟩ := ops_slice o5
    clear o5 hg2 hs0
    have B5 := Blk.new w5 38 #[.int .i64 (T.length : Int), .int .i64 12]
    replace b5 := b5.trans (((Below.refl w5.heap.size w5).alloc (Nat.le_refl _) (.cells #[.int .i64 (T.length : Int), .int .i64 12] 38)).mono b5.size)
    replace b2 := b2.trans (b5.mono b2.size)
    replace B3 := B3.next b5
    clear b5
    go_upto_region 8 with fail
    generalize hw6 : w5.alloc (.cells #[.int .i64 (T.length : Int), .int .i64 12] 38) = w6 at *
    clear hw6
    obtain ⟨p0, p1⟩ := B3.pair
    obtain ⟨q0, q1⟩ := B5.pair
    go_quiet (fail)
    go_wp2
    go_ret
    exact ⟨ret_bool (by simp), below_drewN b2 _⟩
namespace LLangCuts
set_option maxRecDepth 100000 in
theorem lifted (os : Os) (started : os.Started) (H : Type) (enc : TypeId × Value → H) :
    ReturnsInHanded {} Tryz.checked os 7 .any (fun w args => (Rows.langCutsSpec.pre enc Tryz.prog Tryz.f7 [] false w args ∧ laidMetH Tryz.prog Rows.langCutsRow.laid w) ∧ sizedMet enc Tryz.prog Tryz.f7 (OpenSpec.ofChange Rows.langCutsSpec) false w args) (Rows.langCutsSpec.post enc Tryz.prog Tryz.f7 false true false false) := by
  refine returnsInHanded_of_change_and (C := Tryz.checked) (X := fun w _ => laidMetH Tryz.prog Rows.langCutsRow.laid w) (fun _ _ _ hh h => h.of_heap hh) (by kernel_rfl) started (by kernel_rfl) Tryz.func7
    (ChangeSpec.witness_shaped (enc := enc) (C := Tryz.checked) (os := os) (X := fun w _ => laidMetH Tryz.prog Rows.langCutsRow.laid w) false (World.laidAll Tryz.prog os Rows.langCutsRow.laid) #[.slice none 0 0, .int .u16 0, .string ByteArray.empty] 8 (World.laidAll_os _ _ _)
      (World.shaped_of_ZipB (by kernel_rfl) (by kernel_rfl)) (by kernel_rfl) (by kernel_rfl) (by kernel_rfl)
      (by rw [MakeChecks.laidMetH_plain _ _ _ (by kernel_rfl)]; exact laidMet_laidAll _ (by kernel_rfl) (by kernel_rfl))) ?_
  intro W base args ds gs before hval0 hW hcnd _ hLaid _
  have hL := of_laid hLaid
  clear hLaid
  have hval : ∀ (j : Nat) t v, Tryz.f7.params[j]? = some t → args[j]? = some v → Value.okWide Tryz.prog W .any base t v := hval0
  have hW' := hW
  obtain ⟨p, q, hA0, hV, rfl, hfz, hnd⟩ := hW
  have hA : DataW.TrodAll enc Tryz.prog W 0 (fun _ => true) true Tryz.f7.params.toList args.toList ds p := hA0
  rw [Tryz.params7] at hA hval
  obtain ⟨v0, vs0, d0, ds0, p0, q0, hargs, rfl, rfl, k0, r0⟩ := trodAll_cons hA
  obtain ⟨v1, vs1, d1, ds1, p1, q1, rfl, rfl, rfl, k1, r1⟩ := trodAll_cons r0
  obtain ⟨v2, vs2, d2, ds2, p2, q2, rfl, rfl, rfl, k2, r2⟩ := trodAll_cons r1
  obtain ⟨rfl, rfl, rfl⟩ := trodAll_nil r2
  obtain rfl : args = #[v0, v1, v2] := by cases args; simp_all
  obtain ⟨rfl, rfl⟩ := trodVars_none hV
  have ok0 := hval 0 26 v0 rfl rfl
  have ok1 := hval 1 44 v1 rfl rfl
  have ok2 := hval 2 9 v2 rfl rfl
  have lt0 : ∀ x ∈ p0, x.block < W.heap.size := by obtain ⟨m, hm⟩ := k0; exact DataW.trod_lt m _ _ _ hm
  have lt1 : ∀ x ∈ p1, x.block < W.heap.size := by obtain ⟨m, hm⟩ := k1; exact DataW.trod_lt m _ _ _ hm
  have lt2 : ∀ x ∈ p2, x.block < W.heap.size := by obtain ⟨m, hm⟩ := k2; exact DataW.trod_lt m _ _ _ hm
  have C : Calls Tryz.prog 7 #[v0, v1, v2] W fun e w' => e = .returned (.bool true) ∧ Below W.heap.size W w' := by
    clear hA0 hval0 hval hW' hcnd hV hfz hnd
    obtain ⟨l, hl⟩ := ops_of_trod k0 ⟨_, ok0⟩
    obtain ⟨x, rfl, rfl, rfl, hx⟩ := open_int Tryz.underlying44 ok1 k1
    obtain ⟨s, rfl, rfl, rfl, hs⟩ := open_string Tryz.underlying9 ok2 k2
    have hb := bounds_u16 hx
    obtain ⟨y, rfl⟩ := Int.eq_ofNat_of_zero_le hb.1
    exact lawCuts20 l _ y _ W hL hl (by omega) (str_len hs)
  refine C.mono fun e W' ⟨he, bel⟩ => ?_
  subst he
  exact ⟨_, rfl, _, _, _, [], _, [], hW', trodAll_mk1 (shut_bool Tryz.underlying4 _), (trodAll_cons_mk (Below.trod laidOut (by kernel_rfl) (of_decide_eq_true (by kernel_rfl)) k0 bel lt0) (trodAll_cons_mk (Below.trod laidOut (by kernel_rfl) (of_decide_eq_true (by kernel_rfl)) k1 bel lt1) (trodAll_cons_mk (Below.trod laidOut (by kernel_rfl) (of_decide_eq_true (by kernel_rfl)) k2 bel lt2) trodAll_mk0))), rfl, bel.frame _, fun h => by cases h⟩
theorem bare : Rows.LangCutsSaid :=
  OpenClaim.holds_of_wide 7 Tryz.f7 rfl rfl rfl rfl rfl rfl rfl ⟨rfl, rfl, rfl, rfl, rfl⟩ rfl rfl rfl rfl rfl (by kernel_rfl) Tryz.func7 (by kernel_rfl)
    (of_decide_eq_true (by kernel_rfl)) (by unfold Func.isWrapper; first | (rw [if_pos (by decide +kernel)]; kernel_rfl) | (rw [if_neg (by decide +kernel)]; exact ⟨rfl, rfl⟩))
    (fun os started H enc _ => lifted os started H enc)
theorem proved : Rows.LangCutsCardSaid :=
  Claim7.holds_tied_plain_at .later [] Rows.langCutsCard.laidKinds true Rows.langCutsCard.stood.harness Rows.langCutsCard.stood.looks
    bare (fun _ h => by cases h) (by kernel_rfl) (fun _ h => by cases h) langCuts_row_tie rfl ⟨rfl, rfl⟩ (by kernel_rfl) rfl
    (fun f fn hf hfn => by
      obtain rfl : f = 7 := Option.some.inj ((show Tryz.prog.funcNamed "drayman/draymanlaw20.LangCuts" = some 7 by kernel_rfl).symm.trans hf) |>.symm
      obtain rfl : fn = Tryz.f7 := (Option.some.inj (Tryz.func7.symm.trans hfn)).symm
      exact ⟨by kernel_rfl, fun j t ht => by
        rw [Tryz.params7] at ht
        have hm : t ∈ [26, 44, 9] := by simpa using Array.mem_of_getElem? ht
        have hall : ([26, 44, 9].all fun u => !Tryz.prog.wantsStandIn u) = true := by kernel_rfl
        exact (show Tryz.prog.wantsStandIn t = false by simpa using List.all_eq_true.1 hall t hm)⟩)
    (by kernel_rfl)
#print axioms proved
end LLangCuts
end Go.Proofs.YtolbhjjcabiabaaGreatDoor
