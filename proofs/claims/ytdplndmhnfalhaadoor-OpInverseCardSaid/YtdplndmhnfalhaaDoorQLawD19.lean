import Derived.Test.YtdplndmhnfalhaaDoorQLawBase19
import Derived.BigQuiet
import Derived.Deep.LoopGhost
import Derived.Deep.CutRange
import Derived.Deep.RegionHeld3
set_option linter.unusedVariables false
set_option linter.unusedSimpArgs false
/- For whatever few operations with short texts: what is both a plan and an undo plan has moves alone; no slot stands twice in either; a beginning, and an end, of one is one. -/
set_option linter.unusedVariables false
set_option linter.unusedSimpArgs false
namespace Go.Proofs.YtdplndmhnfalhaaDoor
open Go.ChangeShapes Go.WideShapes Go.ChangeAt Go.RowKit
set_option linter.unusedVariables false

theorem Ops.tail2 {w : World} {ac : Option Addr} {cc : Nat} {l : List OpV} (h : Ops w (.slice ac l.length cc) l) {n : Nat} (hn : n ≤ l.length) : Ops w (.slice (if cc = n then ac else Option.map (fun x => x.add (n * 5)) ac) (l.length - n) (cc - n)) (l.drop n) := by
  by_cases hc : cc = n
  · obtain ⟨a', cap', e, h1, hm, he, h0, _⟩ := h
    simp only [Value.slice.injEq] at e
    obtain ⟨rfl, _, rfl⟩ := e
    rw [if_pos hc]
    refine ⟨_, _, by rw [List.length_drop], by rw [List.length_drop]; omega, by omega, fun c hc => he c (List.mem_of_mem_drop hc), (fun h => by have := h0 h; omega), fun hp => ?_⟩
    rw [List.length_drop] at hp
    omega
  · rw [if_neg hc]
    cases ac with
    | none =>
      obtain ⟨a', cap', e, h1, hm, he, h0, _⟩ := h
      simp only [Value.slice.injEq] at e
      obtain ⟨rfl, _, rfl⟩ := e
      exact absurd (h0 rfl) (by omega)
    | some ad =>
      by_cases hl : 0 < l.length
      · obtain ⟨a', cap', e, h1, hm, he, h0, h2⟩ := id h
        obtain ⟨b, off, e2, _⟩ := h2 hl
        simp only [Value.slice.injEq] at e
        obtain ⟨rfl, _, rfl⟩ := e
        obtain rfl := Option.some.inj e2
        rw [Option.map_some, Addr.add_lit]
        exact h.tail hn
      · obtain ⟨a', cap', e, h1, hm, he, h0, h2⟩ := h
        simp only [Value.slice.injEq] at e
        obtain ⟨rfl, _, rfl⟩ := e
        exact ⟨_, _, by rw [List.length_drop], by rw [List.length_drop]; omega, by omega, fun c hc => he c (List.mem_of_mem_drop hc), (fun h => by simp at h), fun hp => by rw [List.length_drop] at hp; omega⟩
set_option maxHeartbeats 16000000 in
set_option maxRecDepth 100000 in
theorem lawInverse19 (ct : Int) (h1 : 0 ≤ ct ∧ ct ≤ 255) (l : List OpV) (v : Value) (w : World) (hL : Laid19 w) (hv : Ops w v l) :
    Calls Tryd.prog 6 #[v, .int .u8 ct] w fun e w' => e = .returned (.bool true) ∧ Below w.heap.size w w' := by
  have HL := Lib.hid hL
  clear hL
  cases hf : fewOw l
  · obtain ⟨a, ca, rfl⟩ := ops_slice hv
    go_enter Tryd.func6, Tryd.ntmps6
    go_wp2_with fail; refine (awake19 _ HL.out).mono ?_; rintro e w1 ⟨rfl, b1⟩
    go_wp2_with fail; refine (fewOw_any l _ _ (hv.below b1)).mono ?_; rintro e w2 ⟨rfl, rfl⟩
    rw [hf]
    go_wp2_with fail; refine (awake19 _ (HL.out.next b1)).mono ?_; rintro e w2 ⟨rfl, b2⟩
    go_wp2
    go_ret
    exact ⟨rfl, b1.trans (b2.mono b1.size)⟩
  obtain ⟨hl, hsh⟩ := few_short hf
  have hw1 : IntKind.i64.wrap ct = ct := by rw [IntKind.wrap_i64]; omega
  obtain ⟨a, ca, rfl, hcc, hcm, _, hcn, HX0⟩ := id hv
  unfold maxLen at hcm
  have HX := Lib.hid HX0
  clear HX0
  obtain ⟨n, hn⟩ : ∃ n : Nat, ct % ((l.length : Int) + 1) = n := ⟨(ct % ((l.length : Int) + 1)).toNat, by have := Int.emod_nonneg ct (b := (l.length : Int) + 1) (by omega); omega⟩
  have hn1 : n ≤ l.length := by have := Int.emod_lt_of_pos ct (b := (l.length : Int) + 1) (by omega); omega
  have hP := fun W hL2 hW => Plan19_any l (.slice a l.length ca) W hL2 hW hl hsh
  have hU := fun W hL2 hW => Undo19_any l (.slice a l.length ca) W hL2 hW hl hsh
  have hP1 := fun W hL2 hW => Plan19_any (l.take n) (.slice a n ca) W hL2 hW (by rw [List.length_take]; omega) (fun o ho => hsh o (List.mem_of_mem_take ho))
  have hU1 := fun W hL2 hW => Undo19_any (l.take n) (.slice a n ca) W hL2 hW (by rw [List.length_take]; omega) (fun o ho => hsh o (List.mem_of_mem_take ho))
  have hP2 := fun W hL2 hW => Plan19_any (l.drop n) (.slice (if ca = n then a else Option.map (fun x => x.add (n * 5)) a) (l.length - n) (ca - n)) W hL2 hW (by rw [List.length_drop]; omega) (fun o ho => hsh o (List.mem_of_mem_drop ho))
  have hU2 := fun W hL2 hW => Undo19_any (l.drop n) (.slice (if ca = n then a else Option.map (fun x => x.add (n * 5)) a) (l.length - n) (ca - n)) W hL2 hW (by rw [List.length_drop]; omega) (fun o ho => hsh o (List.mem_of_mem_drop ho))
  have HV := Lib.hid hv
  have HHd := Lib.hid (fun W (h : Ops W (.slice a l.length ca) l) => h.head hn1)
  have HTl := Lib.hid (fun W (h : Ops W (.slice a l.length ca) l) => Ops.tail2 h hn1)
  clear hsh
  go_enter Tryd.func6, Tryd.ntmps6
  go_wp2_with fail; refine (awake19 _ HL.out).mono ?_; rintro e w1 ⟨rfl, b1⟩
  go_wp2_with fail; refine (fewOw_any l _ _ (hv.below b1)).mono ?_; rintro e w2 ⟨rfl, rfl⟩
  rw [hf]
  clear hf hv
  go_wp2_with fail
  rw [hn]
  refine (hP _ (HL.out.next b1) (HV.out.below b1)).mono ?_
  rintro e w2 ⟨rfl, b2⟩
  replace b2 := b1.trans (b2.mono b1.size)
  clear b1 hw1 hn
  go_wp2_with fail
  refine (hU _ (HL.out.next b2) (HV.out.below b2)).mono ?_
  rintro e w3 ⟨rfl, b3⟩
  replace b3 := b2.trans (b3.mono b2.size)
  clear b2 hP hU
  have k0 : (0 : Int) ≤ (n : Int) := by omega
  have k1 : (n : Int) ≤ (ca : Int) := by omega
  have k2 : n ≤ ca := by omega
  have k3 : (n : Int) ≤ (l.length : Int) := by omega
  have HPT := Lib.hid (fun h => plan_take (l := l) h n)
  have HUT := Lib.hid (fun h => undo_take (l := l) h n)
  have HBM := Lib.hid (fun h1 h2 => both_moves (l := l) h1 h2)
  have HPA := Lib.hid (fun h => @plan_apart l h)
  have HUA := Lib.hid (fun h => @undo_apart l h)
  generalize hrp : planO l = rp at *
  generalize hru : undoO l = ru at *
  clear hrp hru
  go_upto_region 6 with fail
  go_cut [59] from 28 (fun s59 wc => s59 = .bool false ∧ Below w.heap.size w wc)
  case first =>
    have HT2 := HTl.out
    by_cases hcn2 : ca = n
    · subst hcn2
      rw [if_pos rfl, Nat.sub_self, show l.length - ca = 0 by omega] at hP2 hU2 HT2
      cases rp <;> cases ru
      · go_wp2_with fail
        go_meet
        exact ⟨rfl, b3⟩
      · go_wp2_with fail
        refine (hU1 _ (HL.out.next b3) (HHd.out _ (HV.out.below b3))).mono ?_
        rintro e x1 ⟨rfl, g1⟩
        rw [(HUT.out (by simp)).1]
        have d1 := b3.trans (g1.mono b3.size)
        go_wp2_with fail
        refine (hU2 _ (HL.out.next d1) (HT2 _ (HV.out.below d1))).mono ?_
        rintro e y1 ⟨rfl, f1⟩
        rw [(HUT.out (by simp)).2]
        have c1 := d1.trans (f1.mono d1.size)
        have q1 := g1.trans (f1.mono g1.size)
        go_wp2_with fail
        go_meet
        exact ⟨rfl, c1⟩
      · go_wp2_with fail
        refine (hP1 _ (HL.out.next b3) (HHd.out _ (HV.out.below b3))).mono ?_
        rintro e x1 ⟨rfl, g1⟩
        rw [(HPT.out (by simp)).1]
        have d1 := b3.trans (g1.mono b3.size)
        go_wp2_with fail
        refine (hP2 _ (HL.out.next d1) (HT2 _ (HV.out.below d1))).mono ?_
        rintro e y1 ⟨rfl, f1⟩
        rw [(HPT.out (by simp)).2]
        have c1 := d1.trans (f1.mono d1.size)
        have q1 := g1.trans (f1.mono g1.size)
        go_wp2_with fail
        go_meet
        exact ⟨rfl, c1⟩
      · go_wp2_with fail
        refine (hP1 _ (HL.out.next b3) (HHd.out _ (HV.out.below b3))).mono ?_
        rintro e x1 ⟨rfl, g1⟩
        rw [(HPT.out (by simp)).1]
        have d1 := b3.trans (g1.mono b3.size)
        go_wp2_with fail
        refine (hP2 _ (HL.out.next d1) (HT2 _ (HV.out.below d1))).mono ?_
        rintro e y1 ⟨rfl, f1⟩
        rw [(HPT.out (by simp)).2]
        have c1 := d1.trans (f1.mono d1.size)
        have q1 := g1.trans (f1.mono g1.size)
        go_wp2_with fail
        refine (hU1 _ (HL.out.next c1) (HHd.out _ (HV.out.below c1))).mono ?_
        rintro e x2 ⟨rfl, g2⟩
        rw [(HUT.out (by simp)).1]
        have d2 := c1.trans (g2.mono c1.size)
        go_wp2_with fail
        refine (hU2 _ (HL.out.next d2) (HT2 _ (HV.out.below d2))).mono ?_
        rintro e y2 ⟨rfl, f2⟩
        rw [(HUT.out (by simp)).2]
        have c2 := d2.trans (f2.mono d2.size)
        have q2 := g2.trans (f2.mono g2.size)
        go_wp2_with fail
        go_meet
        exact ⟨rfl, c2⟩
    · rw [if_neg hcn2] at hP2 hU2 HT2
      have hcn3 : (n : Int) < (ca : Int) := by omega
      cases rp <;> cases ru
      · go_wp2_with fail
        go_meet
        exact ⟨rfl, b3⟩
      · go_wp2_with fail
        refine (hU1 _ (HL.out.next b3) (HHd.out _ (HV.out.below b3))).mono ?_
        rintro e x1 ⟨rfl, g1⟩
        rw [(HUT.out (by simp)).1]
        have d1 := b3.trans (g1.mono b3.size)
        go_wp2_with fail
        refine (hU2 _ (HL.out.next d1) (HT2 _ (HV.out.below d1))).mono ?_
        rintro e y1 ⟨rfl, f1⟩
        rw [(HUT.out (by simp)).2]
        have c1 := d1.trans (f1.mono d1.size)
        have q1 := g1.trans (f1.mono g1.size)
        go_wp2_with fail
        go_meet
        exact ⟨rfl, c1⟩
      · go_wp2_with fail
        refine (hP1 _ (HL.out.next b3) (HHd.out _ (HV.out.below b3))).mono ?_
        rintro e x1 ⟨rfl, g1⟩
        rw [(HPT.out (by simp)).1]
        have d1 := b3.trans (g1.mono b3.size)
        go_wp2_with fail
        refine (hP2 _ (HL.out.next d1) (HT2 _ (HV.out.below d1))).mono ?_
        rintro e y1 ⟨rfl, f1⟩
        rw [(HPT.out (by simp)).2]
        have c1 := d1.trans (f1.mono d1.size)
        have q1 := g1.trans (f1.mono g1.size)
        go_wp2_with fail
        go_meet
        exact ⟨rfl, c1⟩
      · go_wp2_with fail
        refine (hP1 _ (HL.out.next b3) (HHd.out _ (HV.out.below b3))).mono ?_
        rintro e x1 ⟨rfl, g1⟩
        rw [(HPT.out (by simp)).1]
        have d1 := b3.trans (g1.mono b3.size)
        go_wp2_with fail
        refine (hP2 _ (HL.out.next d1) (HT2 _ (HV.out.below d1))).mono ?_
        rintro e y1 ⟨rfl, f1⟩
        rw [(HPT.out (by simp)).2]
        have c1 := d1.trans (f1.mono d1.size)
        have q1 := g1.trans (f1.mono g1.size)
        go_wp2_with fail
        refine (hU1 _ (HL.out.next c1) (HHd.out _ (HV.out.below c1))).mono ?_
        rintro e x2 ⟨rfl, g2⟩
        rw [(HUT.out (by simp)).1]
        have d2 := c1.trans (g2.mono c1.size)
        go_wp2_with fail
        refine (hU2 _ (HL.out.next d2) (HT2 _ (HV.out.below d2))).mono ?_
        rintro e y2 ⟨rfl, f2⟩
        rw [(HUT.out (by simp)).2]
        have c2 := d2.trans (f2.mono d2.size)
        have q2 := g2.trans (f2.mono g2.size)
        go_wp2_with fail
        go_meet
        exact ⟨rfl, c2⟩
  case rest =>
  obtain ⟨rfl, hbc⟩ := hcut
  rename World => w6
  clear hP1 hP2 hU1 hU2 HHd HTl HPT HUT b3 k0 k1 k2 k3
  go_wp2
  go_loopw [8] (fun i wr => ∃ k : Nat, k ≤ l.length ∧ i = .int .i64 k ∧ Below w.heap.size w wr) (fun i _ => l.length - (intOf i).toNat)
  case atStart => exact ⟨0, Nat.zero_le _, rfl, hbc⟩
  case round =>
    clear hbc
    obtain ⟨i, hi, rfl, hbw⟩ := hrel
    by_cases hlt : i < l.length
    · obtain ⟨b, off, rfl, hbl, hcl⟩ := HX.out (by omega)
      have HCL := Lib.hid hcl
      obtain ⟨c0, c1, _, _, _⟩ := (hcl i hlt).below hbw hbl
      clear hcl
      have i0 : (0 : Int) ≤ (i : Int) := by omega
      have i1 : (i : Int) < (l.length : Int) := by omega
      have HBI := Lib.hid (fun h1 h2 => HBM.out h1 h2 l[i] (List.getElem_mem hlt))
      have HNI := Lib.hid (fun (h : rp = true ∨ ru = true) (k : Nat) (hk : k < i) (h1 : slotK l[i].kind = true) (h2 : slotK (l[k]'(by omega)).kind = true) => h.elim (fun h => HPA.out h hk hlt h1 h2) (fun h => HUA.out h hk hlt h1 h2))
      have HXI : Hid (∀ W, Below w.heap.size w W → W.cell? ⟨b, off + i * 5, none⟩ = some (.int .i64 l[i].kind) ∧ W.cell? ⟨b, off + i * 5 + 1, none⟩ = some (.int .i64 l[i].slot)) := fun W h => by
        have := (HCL.out i hlt).below h hbl
        exact ⟨this.1, this.2.1⟩
      generalize l[i] = x at *
      obtain ⟨xk, xs, xa, xb, xd⟩ := x
      dsimp only at c0 c1
      have hk6 : rp = true → ru = true → (xk == 6) = true := fun h1 h2 => by rw [beq_iff_eq]; exact HBI.out h1 h2
      have HK6 := Lib.hid hk6
      clear hk6 HBI
      cases rp <;> cases ru
      all_goals try have hk6 := HK6.out rfl rfl
      all_goals go_wp2
      all_goals go_loopw [9] (fun j wr2 => ∃ k : Nat, k ≤ i ∧ j = .int .i64 k ∧ Below w.heap.size w wr2) (fun j _ => i - (intOf j).toNat)
      all_goals try (case atStart => exact ⟨0, Nat.zero_le _, rfl, hbw⟩)
      all_goals clear c0 c1 hbw
      all_goals obtain ⟨k, hk, rfl, hbw⟩ := hrel
      all_goals
        by_cases hlt2 : k < i
        · have hyl : k < l.length := by omega
          obtain ⟨c0, c1⟩ := HXI.out _ hbw
          obtain ⟨d0, d1, _, _, _⟩ := (HCL.out k hyl).below hbw hbl
          have HNK := HNI.out
          have hnk := fun h => HNK h k hlt2
          have j0 : (0 : Int) ≤ (k : Int) := by omega
          have j1 : (k : Int) < (l.length : Int) := by omega
          have j2 : (k : Int) < (i : Int) := by omega
          generalize l[k] = y at *
          obtain ⟨yk, ys, ya, yb, yd⟩ := y
          dsimp only at c0 c1 d0 d1 hnk
          clear HNK
          have hSx := fun W => (refSlotted_any xk W).mono (fun e w' h => And.intro h.1 h.2.symm)
          have hSy := fun W => (refSlotted_any yk W).mono (fun e w' h => And.intro h.1 h.2.symm)
          clear HCL HXI HX HV HK6 HNI HBM HPA HUA hcc hcm hcn hyl
          cases hx : slotK xk
          · rw [hx] at hSx
            clear hnk hSy c1 d0 d1 hx
            go_wp2
            go_quiet (first | (go_at_call 19; first | exact Calls.quiet_of_same (hSx _)) | fail)
            go_wp2
            go_roundw
            case rel => exact ⟨k + 1, by omega, by go_num, below_drewN hbw _⟩
            case measure => simp [intOf]; omega
          · rw [hx] at hSx
            cases hy : slotK yk
            · rw [hy] at hSy
              clear hnk c1 d1 hx hy
              go_wp2
              go_quiet (first | (go_at_call_of 19 (Value.int .i64 xk); exact Calls.quiet_of_same (hSx _)) | (go_at_call_of 19 (Value.int .i64 yk); exact Calls.quiet_of_same (hSy _)) | fail)
              go_wp2
              go_roundw
              case rel => exact ⟨k + 1, by omega, by go_num, below_drewN hbw _⟩
              case measure => simp [intOf]; omega
            · rw [hy] at hSy
              first
                | (have hnk2 := hnk (Or.inl trivial) hx hy
                   have hne : (xs == ys) = false := beq_eq_false_iff_ne.2 hnk2
                   clear hnk2
                   clear hnk hx hy
                   go_wp2
                   go_quiet (first | (go_at_call_of 19 (Value.int .i64 xk); exact Calls.quiet_of_same (hSx _)) | (go_at_call_of 19 (Value.int .i64 yk); exact Calls.quiet_of_same (hSy _)) | fail)
                   go_wp2
                   go_roundw
                   case rel => exact ⟨k + 1, by omega, by go_num, below_drewN hbw _⟩
                   case measure => simp [intOf]; omega)
                | (have hnk2 := hnk (Or.inr trivial) hx hy
                   have hne : (xs == ys) = false := beq_eq_false_iff_ne.2 hnk2
                   clear hnk2
                   clear hnk hx hy
                   go_wp2
                   go_quiet (first | (go_at_call_of 19 (Value.int .i64 xk); exact Calls.quiet_of_same (hSx _)) | (go_at_call_of 19 (Value.int .i64 yk); exact Calls.quiet_of_same (hSy _)) | fail)
                   go_wp2
                   go_roundw
                   case rel => exact ⟨k + 1, by omega, by go_num, below_drewN hbw _⟩
                   case measure => simp [intOf]; omega)
                | (clear hnk hx hy
                   go_wp2
                   go_quiet (fail)
                   go_wp2
                   go_roundw
                   case rel => exact ⟨k + 1, by omega, by go_num, below_drewN hbw _⟩
                   case measure => simp [intOf]; omega)
        · obtain rfl : k = i := by omega
          go_wp2
          go_roundw
          case rel => exact ⟨k + 1, by omega, by go_num, hbw⟩
          case measure => simp [intOf]; omega
    · obtain rfl : i = l.length := by omega
      go_wp2
      go_ret
      exact ⟨rfl, hbw⟩
namespace LOpInverse
set_option maxRecDepth 100000 in
theorem lifted (os : Os) (started : os.Started) (H : Type) (enc : TypeId × Value → H) :
    ReturnsInHanded {} Tryd.checked os 6 .any (fun w args => (Rows.opInverseSpec.pre enc Tryd.prog Tryd.f6 [] false w args ∧ laidMetH Tryd.prog Rows.opInverseRow.laid w) ∧ sizedMet enc Tryd.prog Tryd.f6 (OpenSpec.ofChange Rows.opInverseSpec) false w args) (Rows.opInverseSpec.post enc Tryd.prog Tryd.f6 false true false false) := by
  refine returnsInHanded_of_change_and (C := Tryd.checked) (X := fun w _ => laidMetH Tryd.prog Rows.opInverseRow.laid w) (fun _ _ _ hh h => h.of_heap hh) (by kernel_rfl) started (by kernel_rfl) Tryd.func6
    (ChangeSpec.witness_shaped (enc := enc) (C := Tryd.checked) (os := os) (X := fun w _ => laidMetH Tryd.prog Rows.opInverseRow.laid w) false (World.laidAll Tryd.prog os Rows.opInverseRow.laid) #[.slice none 0 0, .int .u8 0] 8 (World.laidAll_os _ _ _)
      (World.shaped_of_ZipB (by kernel_rfl) (by kernel_rfl)) (by kernel_rfl) (by kernel_rfl) (by kernel_rfl)
      (by rw [MakeChecks.laidMetH_plain _ _ _ (by kernel_rfl)]; exact laidMet_laidAll _ (by kernel_rfl) (by kernel_rfl))) ?_
  intro W base args ds gs before hval0 hW hcnd _ hLaid _
  have hL := of_laid hLaid
  clear hLaid
  have hval : ∀ (j : Nat) t v, Tryd.f6.params[j]? = some t → args[j]? = some v → Value.okWide Tryd.prog W .any base t v := hval0
  have hW' := hW
  obtain ⟨p, q, hA0, hV, rfl, hfz, hnd⟩ := hW
  have hA : DataW.TrodAll enc Tryd.prog W 0 (fun _ => true) true Tryd.f6.params.toList args.toList ds p := hA0
  rw [Tryd.params6] at hA hval
  obtain ⟨v0, vs0, d0, ds0, p0, q0, hargs, rfl, rfl, k0, r0⟩ := trodAll_cons hA
  obtain ⟨v1, vs1, d1, ds1, p1, q1, rfl, rfl, rfl, k1, r1⟩ := trodAll_cons r0
  obtain ⟨rfl, rfl, rfl⟩ := trodAll_nil r1
  obtain rfl : args = #[v0, v1] := by cases args; simp_all
  obtain ⟨rfl, rfl⟩ := trodVars_none hV
  have ok0 := hval 0 26 v0 rfl rfl
  have ok1 := hval 1 5 v1 rfl rfl
  have lt0 : ∀ x ∈ p0, x.block < W.heap.size := by obtain ⟨m, hm⟩ := k0; exact DataW.trod_lt m _ _ _ hm
  have lt1 : ∀ x ∈ p1, x.block < W.heap.size := by obtain ⟨m, hm⟩ := k1; exact DataW.trod_lt m _ _ _ hm
  have C : Calls Tryd.prog 6 #[v0, v1] W fun e w' => e = .returned (.bool true) ∧ Below W.heap.size W w' := by
    clear hA0 hval0 hval hW' hcnd hV hfz hnd
    obtain ⟨l, hl⟩ := ops_of_trod k0 ⟨_, ok0⟩
    obtain ⟨b, rfl, rfl, rfl, hb⟩ := open_int Tryd.underlying5 ok1 k1
    exact lawInverse19 b (bounds_u8 hb) l _ W hL hl
  refine C.mono fun e W' ⟨he, bel⟩ => ?_
  subst he
  exact ⟨_, rfl, _, _, _, [], _, [], hW', trodAll_mk1 (shut_bool Tryd.underlying4 _), (trodAll_cons_mk (Below.trod laidOut (by kernel_rfl) (of_decide_eq_true (by kernel_rfl)) k0 bel lt0) (trodAll_cons_mk (Below.trod laidOut (by kernel_rfl) (of_decide_eq_true (by kernel_rfl)) k1 bel lt1) trodAll_mk0)), rfl, bel.frame _, fun h => by cases h⟩
theorem bare : Rows.OpInverseSaid :=
  OpenClaim.holds_of_wide 6 Tryd.f6 rfl rfl rfl rfl rfl rfl rfl ⟨rfl, rfl, rfl, rfl, rfl⟩ rfl rfl rfl rfl rfl (by kernel_rfl) Tryd.func6 (by kernel_rfl)
    (of_decide_eq_true (by kernel_rfl)) (by unfold Func.isWrapper; first | (rw [if_pos (by decide +kernel)]; kernel_rfl) | (rw [if_neg (by decide +kernel)]; exact ⟨rfl, rfl⟩))
    (fun os started H enc _ => lifted os started H enc)
theorem proved : Rows.OpInverseCardSaid :=
  Claim7.holds_tied_plain_at .later [] Rows.opInverseCard.laidKinds true Rows.opInverseCard.stood.harness false
    bare (fun _ h => by cases h) (by kernel_rfl) (fun _ h => by cases h) opInverse_row_tie rfl ⟨rfl, rfl⟩ (by kernel_rfl) rfl
    (fun f fn hf hfn => by
      obtain rfl : f = 6 := Option.some.inj ((show Tryd.prog.funcNamed "drayman/draymanlaw19.OpInverse" = some 6 by kernel_rfl).symm.trans hf) |>.symm
      obtain rfl : fn = Tryd.f6 := (Option.some.inj (Tryd.func6.symm.trans hfn)).symm
      exact ⟨by kernel_rfl, fun j t ht => by
        rw [Tryd.params6] at ht
        have hm : t ∈ [26, 5] := by simpa using Array.mem_of_getElem? ht
        have hall : ([26, 5].all fun u => !Tryd.prog.wantsStandIn u) = true := by kernel_rfl
        exact (show Tryd.prog.wantsStandIn t = false by simpa using List.all_eq_true.1 hall t hm)⟩)
    (by kernel_rfl)
#print axioms proved
end LOpInverse
end Go.Proofs.YtdplndmhnfalhaaDoor
