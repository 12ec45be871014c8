import Derived.Test.YtolbhjjcabiabaaGreatDoorQMLawBase20
import Derived.Laws.StructEq
import Derived.Deep.Cut
set_option linter.unusedVariables false
set_option linter.unusedSimpArgs false
/- A plan is read of its text as it was; a text that is read is the one of its plan; unlike plans have unlike texts. -/
set_option linter.unusedVariables false
set_option linter.unusedSimpArgs false
namespace Go.Proofs.YtolbhjjcabiabaaGreatDoor
open Go.ChangeShapes Go.WideShapes Go.ChangeAt Go.RowKit
open Go.ChangeMaps (open_string shut_string)
set_option linter.unusedVariables false

theorem lines_each {x : List OpV} {o : OpV} (h : o ∈ x) : (lineO o).length ≤ (linesO x).length := by
  induction x with
  | nil => cases h
  | cons y t ih =>
    unfold linesO at ih ⊢
    rw [List.flatMap_cons, List.length_append, List.length_append]
    rcases List.mem_cons.1 h with rfl | h
    · omega
    · have := ih h; omega
theorem lines_many {x : List OpV} (h : ∀ o ∈ x, mayO o = true) : 8 * x.length ≤ (linesO x).length := by
  induction x with
  | nil => simp
  | cons y t ih =>
    have h1 := line_min (h y List.mem_cons_self)
    have h2 := ih fun o ho => h o (List.mem_cons_of_mem _ ho)
    unfold linesO at h2 ⊢
    rw [List.flatMap_cons, List.length_append, List.length_append, List.length_cons]
    omega
theorem read_small {s : List UInt8} {x : List OpV} (hs : s.length ≤ 5000) (h : getO s = (x, 0, 0)) : putO x = (s, 0) ∧ (planO x || undoO x) = true ∧ x.length ≤ 1000 ∧ ∀ o ∈ x, o.a.length ≤ 10000 ∧ o.b.length ≤ 10000 ∧ o.data.length ≤ 10000 := by
  obtain ⟨h1, h2, _⟩ := get_text h
  have hl : (linesO x).length ≤ 5000 := by
    have := congrArg List.length h1
    unfold textO at this
    rw [List.length_append, List.length_cons] at this
    omega
  refine ⟨by unfold putO; rw [if_pos (show (planO x || undoO x) = true from h2), ← h1], h2, ?_, fun o ho => ?_⟩
  · have := lines_many (either_may h2); omega
  · have h3 := line_parts (either_may h2 o ho)
    have h4 := lines_each ho
    omega
theorem same_texts {l m : List OpV} (h1 : eitherO l = true) (h2 : eitherO m = true) (h3 : l.length ≤ 1000) (h4 : m.length ≤ 1000) : (textO l == textO m) = sameO l m := by
  unfold sameO
  rw [Bool.eq_iff_iff, beq_iff_eq, decide_eq_true_eq]
  exact ⟨fun h => text_inj h1 (by omega) h2 (by omega) h, fun h => by rw [h]⟩

set_option maxHeartbeats 8000000 in
set_option maxRecDepth 100000 in
theorem lawBack20 (l m : List OpV) (v u : Value) (s : List UInt8) (w : World) (hL : Laid20 w) (hv : Ops w v l) (hu : Ops w u m) (hs : s.length ≤ maxLen) :
    Calls Tryz.prog 6 #[v, u, .string ⟨s.toArray⟩] w fun e w' => e = .returned (.bool true) ∧ Below w.heap.size w w' := by
  unfold maxLen at hs
  have HL := Lib.hid hL
  clear hL
  obtain ⟨a, ca, rfl⟩ := ops_slice hv
  obtain ⟨b, cb, rfl⟩ := ops_slice hu
  cases hf : fewOw l
  · go_enter Tryz.func6, Tryz.ntmps6
    go_wp2_with fail; refine (awake20 _ HL.out).mono ?_; rintro e w1 ⟨rfl, b1⟩
    go_wp2_with fail; refine (fewOw_any l _ _ (hv.below b1)).mono ?_; rintro e w2 ⟨rfl, rfl⟩
    rw [hf]
    go_wp2_with fail; refine (awake20 _ (HL.out.next b1)).mono ?_; rintro e w2 ⟨rfl, b2⟩
    go_wp2
    go_ret
    exact ⟨rfl, b1.trans (b2.mono b1.size)⟩
  cases hg : fewOw m
  · go_enter Tryz.func6, Tryz.ntmps6
    go_wp2_with fail; refine (awake20 _ HL.out).mono ?_; rintro e w1 ⟨rfl, b1⟩
    go_wp2_with fail; refine (fewOw_any l _ _ (hv.below b1)).mono ?_; rintro e w2 ⟨rfl, rfl⟩
    rw [hf]
    go_wp2_with fail; refine (fewOw_any m _ _ (hu.below b1)).mono ?_; rintro e w2 ⟨rfl, rfl⟩
    rw [hg]
    go_wp2_with fail; refine (awake20 _ (HL.out.next b1)).mono ?_; rintro e w2 ⟨rfl, b2⟩
    go_wp2
    go_ret
    exact ⟨rfl, b1.trans (b2.mono b1.size)⟩
  by_cases h5000 : 5000 < s.length
  · have h5i : (5000 : Int) < (s.length : Int) := by omega
    go_enter Tryz.func6, Tryz.ntmps6
    go_wp2_with fail; refine (awake20 _ HL.out).mono ?_; rintro e w1 ⟨rfl, b1⟩
    go_wp2_with fail; refine (fewOw_any l _ _ (hv.below b1)).mono ?_; rintro e w2 ⟨rfl, rfl⟩
    rw [hf]
    go_wp2_with fail; refine (fewOw_any m _ _ (hu.below b1)).mono ?_; rintro e w2 ⟨rfl, rfl⟩
    rw [hg]
    go_wp2_with fail; refine (awake20 _ (HL.out.next b1)).mono ?_; rintro e w2 ⟨rfl, b2⟩
    go_wp2
    go_ret
    exact ⟨rfl, b1.trans (b2.mono b1.size)⟩
  have h5i : ¬ (5000 : Int) < (s.length : Int) := by omega
  have hs5 : s.length ≤ 5000 := by omega
  obtain ⟨l1, l2, l3, l4⟩ := few_puts hf
  obtain ⟨m1, m2, m3, m4⟩ := few_puts hg
  have hP1 := fun W (hLW : Laid20 W) (h : Ops W (.slice a l.length ca) l) => Put20_any l _ W hLW h l3 l4
  have hP2 := fun W (hLW : Laid20 W) (h : Ops W (.slice b m.length cb) m) => Put20_any m _ W hLW h m3 m4
  have hX1 : eitherO l = true → ((putO l).2 == 0) = true ∧ getO (putO l).1 = (l, 0, 0) ∧ (putO l).1.length ≤ 4000000 ∧ (putO l).1 = textO l ∧ ShortS 30000 (putO l).1 := fun h => by
    have hp : putO l = (textO l, 0) := by unfold putO; rw [show (planO l || undoO l) = eitherO l from rfl, h]; rfl
    have := text_len l1 l2 (either_may h)
    rw [hp]
    exact ⟨rfl, get_put h (by omega), by show (textO l).length ≤ _; omega, rfl, short_text l1 l2 (either_may h)⟩
  have hX1n : eitherO l = false → ((putO l).2 == 0) = false := fun h => by
    have hp : putO l = ([], 12) := by unfold putO; rw [show (planO l || undoO l) = eitherO l from rfl, h]; rfl
    rw [hp]; rfl
  have hX2 : eitherO m = true → ((putO m).2 == 0) = true ∧ (putO m).1 = textO m := fun h => by
    have hp : putO m = (textO m, 0) := by unfold putO; rw [show (planO m || undoO m) = eitherO m from rfl, h]; rfl
    rw [hp]
    exact ⟨rfl, rfl⟩
  have hX2n : eitherO m = false → ((putO m).2 == 0) = false := fun h => by
    have hp : putO m = ([], 12) := by unfold putO; rw [show (planO m || undoO m) = eitherO m from rfl, h]; rfl
    rw [hp]; rfl
  have hSame : eitherO l = true → eitherO m = true → ((putO l).1 == (putO m).1) = sameO l m := fun h h' => by rw [(hX1 h).2.2.2.1, (hX2 h').2]; exact same_texts h h' l3 m3
  generalize putO l = R1 at *
  generalize putO m = R2 at *
  obtain ⟨x1, z1⟩ := R1
  obtain ⟨x2, z2⟩ := R2
  dsimp only at hP1 hP2 hX1 hX1n hX2 hX2n hSame
  have HX1 := Lib.hid hX1
  have HX1n := Lib.hid hX1n
  have HX2 := Lib.hid hX2
  have HX2n := Lib.hid hX2n
  have HSame := Lib.hid hSame
  have HV := Lib.hid hv
  have HU := Lib.hid hu
  clear l1 l2 l3 l4 m1 m2 m3 m4 hX1 hX1n hX2 hX2n hSame
  go_enter Tryz.func6, Tryz.ntmps6
  go_wp2_with fail; refine (awake20 _ HL.out).mono ?_; rintro e w1 ⟨rfl, b1⟩
  go_wp2_with fail; refine (fewOw_any l _ _ (hv.below b1)).mono ?_; rintro e w2 ⟨rfl, rfl⟩
  rw [hf]
  go_wp2_with fail; refine (fewOw_any m _ _ (hu.below b1)).mono ?_; rintro e w2 ⟨rfl, rfl⟩
  rw [hg]
  clear hf hg hv hu
  go_wp2_with fail; refine (hP1 _ (HL.out.next b1) (HV.out.below b1)).mono ?_; rintro e w2 ⟨rfl, b2⟩
  replace b2 := b1.trans (b2.mono b1.size)
  clear b1 hP1
  go_wp2_with fail; refine (hP2 _ (HL.out.next b2) (HU.out.below b2)).mono ?_; rintro e w3 ⟨rfl, b3⟩
  replace b3 := b2.trans (b3.mono b2.size)
  clear b2 hP2
  go_upto_if 46 with (fail)
  go_cut [11, 12, 46] from 47 (fun s11 s12 s46 wc => Below w.heap.size w wc)
  case first =>
    cases he : eitherO l
    · have hz := HX1n.out he
      go_wp2_with fail
      go_meet
      exact b3
    · obtain ⟨hz, hgx, hxl, -, hxs⟩ := HX1.out he
      have hG := Get20_short x1 w3 (HL.out.next b3) hxl (by decide) hxs
      rw [hgx] at hG
      dsimp only at hG
      go_wp2_with fail
      refine hG.mono ?_
      rintro e w4 ⟨v4, rfl, o4, b4⟩
      obtain ⟨a4, c4, rfl⟩ := ops_slice o4
      have B4 := Blk.new w4 38 #[.int .i64 0, .int .i64 0]
      have g4 := (Below.refl w4.heap.size w4).alloc (Nat.le_refl _) (.cells #[.int .i64 0, .int .i64 0] 38)
      replace o4 := o4.below g4
      replace b4 := b3.trans ((b4.trans (g4.mono b4.size)).mono b3.size)
      clear g4 hG
      go_upto_region 7 with fail
      generalize hw5 : w4.alloc (.cells #[.int .i64 0, .int .i64 0] 38) = w5 at *
      clear hw5
      obtain ⟨p0, p1⟩ := B4.pair
      have hS1 := refSameO_any l l _ _ _ o4 (HV.out.below b4)
      rw [show sameO l l = true from decide_eq_true rfl] at hS1
      cases hm : eitherO m
      · have hz2 := HX2n.out hm
        go_wp2_with fail
        refine hS1.mono ?_
        rintro e w6 ⟨rfl, b6⟩
        go_wp2_with fail
        go_meet
        exact b4.trans (b6.mono b4.size)
      · have hz2 := (HX2.out hm).1
        have hab := HSame.out he hm
        go_wp2_with fail
        refine hS1.mono ?_
        rintro e w6 ⟨rfl, b6⟩
        have b7 := b4.trans (b6.mono b4.size)
        have hS2 := refSameO_any l m _ _ _ (HV.out.below b7) (HU.out.below b7)
        generalize sameO l m = sb at *
        go_wp2_with fail
        refine hS2.mono ?_
        rintro e w8 ⟨rfl, b8⟩
        go_wp2_with fail
        go_meet
        exact b7.trans (b8.mono b7.size)
  case rest =>
  rename World => wc
  have hbc := hcut
  have hG := Get20_short (N := 5000) s wc (HL.out.next hbc) (by omega) (by decide) (short_of_len (by omega))
  rcases get_two s with ⟨x, hx⟩ | ⟨q, hq, hql⟩
  · obtain ⟨y1, y2, y3, y4⟩ := read_small hs5 hx
    have hP := fun W (hLW : Laid20 W) v (h : Ops W v x) => Put20_any x v W hLW h y3 y4
    rw [y1] at hP
    rw [hx] at hG
    dsimp only at hG hP
    have hPl := fun W v (h : Ops W v x) => refPlan_any x v W h y3 (fun o ho => by have := y4 o ho; omega)
    have hUn := fun W v (h : Ops W v x) => refUndo_any x v W h y3 (fun o ho => by have := y4 o ho; omega)
    go_wp2_with fail
    refine hG.mono ?_
    rintro e w4 ⟨v4, rfl, o4, b4⟩
    obtain ⟨a4, c4, rfl⟩ := ops_slice o4
    have B4 := Blk.new w4 38 #[.int .i64 0, .int .i64 0]
    have g4 := (Below.refl w4.heap.size w4).alloc (Nat.le_refl _) (.cells #[.int .i64 0, .int .i64 0] 38)
    replace o4 := o4.below g4
    replace b4 := hbc.trans ((b4.trans (g4.mono b4.size)).mono hbc.size)
    clear g4 hG
    go_upto_region 10 with fail
    generalize hw5 : w4.alloc (.cells #[.int .i64 0, .int .i64 0] 38) = w5 at *
    clear hw5
    obtain ⟨p0, p1⟩ := B4.pair
    go_wp2_with fail
    refine (hP _ (HL.out.next b4) _ o4).mono ?_
    rintro e w6 ⟨rfl, b6⟩
    replace o4 := o4.below b6
    replace b4 := b4.trans (b6.mono b4.size)
    clear b6 p0 p1
    go_wp2_with fail
    refine (hPl _ _ o4).mono ?_
    rintro e w7 ⟨rfl, b7⟩
    have o7 := o4.below b7
    have b8 := b4.trans (b7.mono b4.size)
    cases hpl : planO x
    · rw [hpl, Bool.false_or] at y2
      have hU := hUn w7 _ o7
      rw [y2] at hU
      go_wp2_with fail
      refine hU.mono ?_
      rintro e w9 ⟨rfl, b9⟩
      go_wp2
      go_ret
      exact ⟨rfl, b8.trans (b9.mono b8.size)⟩
    · go_wp2
      go_ret
      exact ⟨rfl, b8⟩
  · rw [hq] at hG
    dsimp only at hG
    have hqi : (q : Int) ≤ (s.length : Int) := by omega
    have hq0 : (0 : Int) ≤ (q : Int) := by omega
    go_wp2_with fail
    refine hG.mono ?_
    rintro e w4 ⟨v4, rfl, o4, b4⟩
    obtain ⟨a4, c4, rfl⟩ := ops_slice o4
    have B4 := Blk.new w4 38 #[.int .i64 (q : Int), .int .i64 12]
    have g4 := (Below.refl w4.heap.size w4).alloc (Nat.le_refl _) (.cells #[.int .i64 (q : Int), .int .i64 12] 38)
    replace b4 := hbc.trans ((b4.trans (g4.mono b4.size)).mono hbc.size)
    clear g4 hG
    go_upto_region 10 with fail
    generalize hw5 : w4.alloc (.cells #[.int .i64 (q : Int), .int .i64 12] 38) = w5 at *
    clear hw5
    obtain ⟨p0, p1⟩ := B4.pair
    go_wp2
    go_ret
    exact ⟨ret_bool (by simp), b4⟩
namespace LLangBack
set_option maxRecDepth 100000 in
theorem lifted (os : Os) (started : os.Started) (H : Type) (enc : TypeId × Value → H) :
    ReturnsInHanded {} Tryz.checked os 6 .any (fun w args => (Rows.langBackSpec.pre enc Tryz.prog Tryz.f6 [] false w args ∧ laidMetH Tryz.prog Rows.langBackRow.laid w) ∧ sizedMet enc Tryz.prog Tryz.f6 (OpenSpec.ofChange Rows.langBackSpec) false w args) (Rows.langBackSpec.post enc Tryz.prog Tryz.f6 false true false false) := by
  refine returnsInHanded_of_change_and (C := Tryz.checked) (X := fun w _ => laidMetH Tryz.prog Rows.langBackRow.laid w) (fun _ _ _ hh h => h.of_heap hh) (by kernel_rfl) started (by kernel_rfl) Tryz.func6
    (ChangeSpec.witness_shaped (enc := enc) (C := Tryz.checked) (os := os) (X := fun w _ => laidMetH Tryz.prog Rows.langBackRow.laid w) false (World.laidAll Tryz.prog os Rows.langBackRow.laid) #[.slice none 0 0, .slice none 0 0, .string ByteArray.empty] 8 (World.laidAll_os _ _ _)
      (World.shaped_of_ZipB (by kernel_rfl) (by kernel_rfl)) (by kernel_rfl) (by kernel_rfl) (by kernel_rfl)
      (by rw [MakeChecks.laidMetH_plain _ _ _ (by kernel_rfl)]; exact laidMet_laidAll _ (by kernel_rfl) (by kernel_rfl))) ?_
  intro W base args ds gs before hval0 hW hcnd _ hLaid _
  have hL := of_laid hLaid
  clear hLaid
  have hval : ∀ (j : Nat) t v, Tryz.f6.params[j]? = some t → args[j]? = some v → Value.okWide Tryz.prog W .any base t v := hval0
  have hW' := hW
  obtain ⟨p, q, hA0, hV, rfl, hfz, hnd⟩ := hW
  have hA : DataW.TrodAll enc Tryz.prog W 0 (fun _ => true) true Tryz.f6.params.toList args.toList ds p := hA0
  rw [Tryz.params6] at hA hval
  obtain ⟨v0, vs0, d0, ds0, p0, q0, hargs, rfl, rfl, k0, r0⟩ := trodAll_cons hA
  obtain ⟨v1, vs1, d1, ds1, p1, q1, rfl, rfl, rfl, k1, r1⟩ := trodAll_cons r0
  obtain ⟨v2, vs2, d2, ds2, p2, q2, rfl, rfl, rfl, k2, r2⟩ := trodAll_cons r1
  obtain ⟨rfl, rfl, rfl⟩ := trodAll_nil r2
  obtain rfl : args = #[v0, v1, v2] := by cases args; simp_all
  obtain ⟨rfl, rfl⟩ := trodVars_none hV
  have ok0 := hval 0 26 v0 rfl rfl
  have ok1 := hval 1 26 v1 rfl rfl
  have ok2 := hval 2 9 v2 rfl rfl
  have lt0 : ∀ x ∈ p0, x.block < W.heap.size := by obtain ⟨m, hm⟩ := k0; exact DataW.trod_lt m _ _ _ hm
  have lt1 : ∀ x ∈ p1, x.block < W.heap.size := by obtain ⟨m, hm⟩ := k1; exact DataW.trod_lt m _ _ _ hm
  have lt2 : ∀ x ∈ p2, x.block < W.heap.size := by obtain ⟨m, hm⟩ := k2; exact DataW.trod_lt m _ _ _ hm
  have C : Calls Tryz.prog 6 #[v0, v1, v2] W fun e w' => e = .returned (.bool true) ∧ Below W.heap.size W w' := by
    clear hA0 hval0 hval hW' hcnd hV hfz hnd
    obtain ⟨l, hl⟩ := ops_of_trod k0 ⟨_, ok0⟩
    obtain ⟨m, hm⟩ := ops_of_trod k1 ⟨_, ok1⟩
    obtain ⟨s, rfl, rfl, rfl, hs⟩ := open_string Tryz.underlying9 ok2 k2
    exact lawBack20 l m _ _ _ W hL hl hm (str_len hs)
  refine C.mono fun e W' ⟨he, bel⟩ => ?_
  subst he
  exact ⟨_, rfl, _, _, _, [], _, [], hW', trodAll_mk1 (shut_bool Tryz.underlying4 _), (trodAll_cons_mk (Below.trod laidOut (by kernel_rfl) (of_decide_eq_true (by kernel_rfl)) k0 bel lt0) (trodAll_cons_mk (Below.trod laidOut (by kernel_rfl) (of_decide_eq_true (by kernel_rfl)) k1 bel lt1) (trodAll_cons_mk (Below.trod laidOut (by kernel_rfl) (of_decide_eq_true (by kernel_rfl)) k2 bel lt2) trodAll_mk0))), rfl, bel.frame _, fun h => by cases h⟩
theorem bare : Rows.LangBackSaid :=
  OpenClaim.holds_of_wide 6 Tryz.f6 rfl rfl rfl rfl rfl rfl rfl ⟨rfl, rfl, rfl, rfl, rfl⟩ rfl rfl rfl rfl rfl (by kernel_rfl) Tryz.func6 (by kernel_rfl)
    (of_decide_eq_true (by kernel_rfl)) (by unfold Func.isWrapper; first | (rw [if_pos (by decide +kernel)]; kernel_rfl) | (rw [if_neg (by decide +kernel)]; exact ⟨rfl, rfl⟩))
    (fun os started H enc _ => lifted os started H enc)
theorem proved : Rows.LangBackCardSaid :=
  Claim7.holds_tied_plain_at .later [] Rows.langBackCard.laidKinds true Rows.langBackCard.stood.harness Rows.langBackCard.stood.looks
    bare (fun _ h => by cases h) (by kernel_rfl) (fun _ h => by cases h) langBack_row_tie rfl ⟨rfl, rfl⟩ (by kernel_rfl) rfl
    (fun f fn hf hfn => by
      obtain rfl : f = 6 := Option.some.inj ((show Tryz.prog.funcNamed "drayman/draymanlaw20.LangBack" = some 6 by kernel_rfl).symm.trans hf) |>.symm
      obtain rfl : fn = Tryz.f6 := (Option.some.inj (Tryz.func6.symm.trans hfn)).symm
      exact ⟨by kernel_rfl, fun j t ht => by
        rw [Tryz.params6] at ht
        have hm : t ∈ [26, 26, 9] := by simpa using Array.mem_of_getElem? ht
        have hall : ([26, 26, 9].all fun u => !Tryz.prog.wantsStandIn u) = true := by kernel_rfl
        exact (show Tryz.prog.wantsStandIn t = false by simpa using List.all_eq_true.1 hall t hm)⟩)
    (by kernel_rfl)
#print axioms proved
end LLangBack
end Go.Proofs.YtolbhjjcabiabaaGreatDoor
