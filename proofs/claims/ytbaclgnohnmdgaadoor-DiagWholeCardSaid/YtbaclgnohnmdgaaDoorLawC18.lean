/- Of unlike operands that a phrase names the lines are unlike; what it doesn't name counts for nothing. -/
import Derived.Test.YtbaclgnohnmdgaaDoorLawBase18
import Derived.Test.YtbaclgnohnmdgaaDoorLawB18
import Derived.Deep.CutRange
set_option linter.unusedVariables false
set_option linter.unusedSimpArgs false
namespace Go.Proofs.YtbaclgnohnmdgaaDoor
open Go.ChangeShapes Go.WideShapes Go.ChangeAt Go.RowKit
open Go.ChangeMaps (open_string shut_string)
set_option linter.unusedVariables false

theorem phrase_len (what : Int) : (phraseL what).length ≤ 1000 := by
  have := say_len what [65] [66] [69]
  simp at this
  unfold phraseL
  omega
theorem tell_same_a {k n : Int} (hk : 1 ≤ k ∧ k ≤ 5) (hn : 1 ≤ n ∧ n ≤ 22) (a b c m : List UInt8) : (tellL k n a b m == tellL k n c b m) = (!(hasA n) || (a == c)) := by
  rw [tell_of hk hn, tell_of hk hn, Bool.eq_iff_iff, beq_iff_eq, Bool.or_eq_true, Bool.not_eq_true', beq_iff_eq, List.append_cancel_left_eq]
  exact say_a hn a b c m
theorem tell_same_b {k n : Int} (hk : 1 ≤ k ∧ k ≤ 5) (hn : 1 ≤ n ∧ n ≤ 22) (a b c m : List UInt8) : (tellL k n a b m == tellL k n a c m) = (!(hasB2 n) || (b == c)) := by
  rw [tell_of hk hn, tell_of hk hn, Bool.eq_iff_iff, beq_iff_eq, Bool.or_eq_true, Bool.not_eq_true', beq_iff_eq, List.append_cancel_left_eq]
  exact say_b hn a b c m

set_option maxHeartbeats 16000000 in
set_option maxRecDepth 100000 in
theorem lawWhole18 (m n : Nat) (a b c : List UInt8) (w : World) (hL : LaidD w) (hm : m < 256) (hn : n < 256) (ha : a.length ≤ maxLen) (hb : b.length ≤ maxLen) (hc : c.length ≤ maxLen) :
    Calls Tryd.prog 5 #[.int .u8 (m : Int), .int .u8 (n : Int), .string ⟨a.toArray⟩, .string ⟨b.toArray⟩, .string ⟨c.toArray⟩] w fun r w' => r = .returned (.bool true) ∧ Below w.heap.size w w' := by
  unfold maxLen at ha hb hc
  have HL := Lib.hid hL
  clear hL
  by_cases h1 : a.length ≤ 1000
  rotate_left
  · go_enter Tryd.func5, Tryd.ntmps5; go_wp2_with fail; refine (awake18 _ HL.out).mono ?_; rintro e w1 ⟨rfl, b1⟩; go_wp2_with fail; refine (awake18 _ (HL.out.next b1)).mono ?_; rintro e w2 ⟨rfl, b2⟩; go_wp2; go_ret; exact ⟨rfl, b1.trans (b2.mono b1.size)⟩
  by_cases h2 : b.length ≤ 1000
  rotate_left
  · go_enter Tryd.func5, Tryd.ntmps5; go_wp2_with fail; refine (awake18 _ HL.out).mono ?_; rintro e w1 ⟨rfl, b1⟩; go_wp2_with fail; refine (awake18 _ (HL.out.next b1)).mono ?_; rintro e w2 ⟨rfl, b2⟩; go_wp2; go_ret; exact ⟨rfl, b1.trans (b2.mono b1.size)⟩
  by_cases h3 : c.length ≤ 1000
  rotate_left
  · go_enter Tryd.func5, Tryd.ntmps5; go_wp2_with fail; refine (awake18 _ HL.out).mono ?_; rintro e w1 ⟨rfl, b1⟩; go_wp2_with fail; refine (awake18 _ (HL.out.next b1)).mono ?_; rintro e w2 ⟨rfl, b2⟩; go_wp2; go_ret; exact ⟨rfl, b1.trans (b2.mono b1.size)⟩
  go_enter Tryd.func5, Tryd.ntmps5
  go_wp2_with fail; refine (awake18 _ HL.out).mono ?_; rintro e w1 ⟨rfl, b1⟩
  go_wp2_with fail
  generalize hK : 1 + (m : Int) % 5 = K at *
  generalize hN : 1 + (n : Int) % 22 = N at *
  have hk5 : 1 ≤ K ∧ K ≤ 5 := by omega
  have hn22 : 1 ≤ N ∧ N ≤ 22 := by omega
  clear hK hN
  have hP := Phrase_any N _ (HL.out.next b1)
  have hpl := phrase_len N
  have HPA := Lib.hid (has_a hn22)
  have HPB := Lib.hid (has_b hn22)
  have HX := Lib.hid (tell_same_a hk5 hn22 a b c (msgOf 1))
  have HY := Lib.hid (tell_same_b hk5 hn22 a b c (msgOf 1))
  clear hk5 hn22
  generalize phraseL N = P at *
  refine hP.mono ?_
  rintro r w2 ⟨rfl, b2⟩
  replace b2 := b1.trans (b2.mono b1.size)
  clear b1 hP
  go_wp2
  go_loop [14, 15, 16] (fun s14 s15 s16 => ∃ k : Nat, k ≤ P.length ∧ s16 = .int .i64 (k : Int) ∧ s14 = .bool (hasL 65 P k) ∧ s15 = .bool (hasL 66 P k)) (fun _ _ s16 => P.length - (intOf s16).toNat)
  case atStart => exact ⟨0, Nat.zero_le _, rfl, rfl, rfl⟩
  case round =>
    obtain ⟨k, hk, rfl, rfl, rfl⟩ := hrel
    by_cases hlt : k < P.length
    · go_upto_region 11 with fail
      go_cut [17] from 55 to 77 (fun s17 wc => s17 = .bool (aloneB P k) ∧ wc = w2)
      case first =>
        rcases Nat.eq_zero_or_pos k with rfl | hpos
        · by_cases hl1 : 1 = P.length
          · have hl1c : ((1 : Int) == (P.length : Int)) = true := by rw [beq_iff_eq]; omega
            have HV : Hid (aloneB P (0) = true) := by show _ = _; unfold aloneB; rw [decide_eq_true (rfl : (0 : Nat) = 0), Bool.true_or, Bool.true_and]; simp [hl1]
            clear hl1
            go_wp2_with fail
            go_meet
            exact ⟨by rw [HV.out] <;> (first | rfl | (simp; omega)), rfl⟩
          have hl2 : 1 < P.length := by omega
          have hl1c : ((1 : Int) == (P.length : Int)) = false := by rw [beq_eq_false_iff_ne]; omega
          by_cases h65 : (P[1].toNat : Int) < 65
          · have HV : Hid (aloneB P (0) = true) := by
              show _ = _
              unfold aloneB
              rw [decide_eq_true (rfl : (0 : Nat) = 0), Bool.true_or, Bool.true_and]
              have hg : P.getD (0 + 1) 0 = P[1] := by simp [List.getD, List.getElem?_eq_getElem hl2]
              rw [hg, decide_eq_false (show ¬ 0 + 1 = P.length from hl1)]
              have : decide (P[1] < (65 : UInt8)) = true := by rw [decide_eq_true_eq, UInt8.lt_iff_toNat_lt]; simp; omega
              rw [this]; rfl
            clear hl1
            go_wp2_with fail
            go_meet
            exact ⟨by rw [HV.out] <;> (first | rfl | (simp; omega)), rfl⟩
          · have HV : Hid (aloneB P (0) = false) := by
              show _ = _
              unfold aloneB
              rw [decide_eq_true (rfl : (0 : Nat) = 0), Bool.true_or, Bool.true_and]
              have hg : P.getD (0 + 1) 0 = P[1] := by simp [List.getD, List.getElem?_eq_getElem hl2]
              rw [hg, decide_eq_false (show ¬ 0 + 1 = P.length from hl1)]
              have : decide (P[1] < (65 : UInt8)) = false := by rw [decide_eq_false_iff_not, UInt8.lt_iff_toNat_lt]; simp; omega
              rw [this]; rfl
            clear hl1
            go_wp2_with fail
            go_meet
            exact ⟨by rw [HV.out] <;> (first | rfl | (simp; omega)), rfl⟩
        · obtain ⟨j, rfl⟩ : ∃ j, k = j + 1 := ⟨k - 1, by omega⟩
          have hj : j < P.length := by omega
          have hgj : P.getD (j + 1 - 1) 0 = P[j] := by rw [Nat.add_sub_cancel]; simp [List.getD, List.getElem?_eq_getElem hj]
          have HGJ := Lib.hid hgj
          clear hgj hpos
          have hk0 : (((j + 1 : Nat) : Int) == 0) = false := by rw [beq_eq_false_iff_ne]; omega
          cases h32 : ((P[j].toNat : Int) == 32)
          · have hb : (P[j] == 32) = false := by rw [beq_eq_false_iff_ne]; intro e; rw [e] at h32; exact absurd h32 (by decide)
            have HV : Hid (aloneB P (j + 1) = false) := by show _ = _; unfold aloneB; rw [HGJ.out, hb, decide_eq_false (Nat.succ_ne_zero j)]; rfl
            clear hb
            go_wp2_with fail
            go_meet
            exact ⟨by rw [HV.out] <;> (first | rfl | (simp; omega)), rfl⟩
          · have hb : (P[j] == 32) = true := by rw [beq_iff_eq]; exact UInt8.toNat_inj.1 (by simp at h32; simp; omega)
            have HB := Lib.hid hb
            clear hb
            by_cases hl1 : j + 1 + 1 = P.length
            · have hl1c : ((j : Int) + 1 + 1 == (P.length : Int)) = true := by rw [beq_iff_eq]; omega
              have HV : Hid (aloneB P (j + 1) = true) := by show _ = _; unfold aloneB; rw [HGJ.out, HB.out, Bool.or_true, Bool.true_and]; simp [hl1]
              clear hl1
              go_wp2_with fail
              go_meet
              exact ⟨by rw [HV.out] <;> (first | rfl | (simp; omega)), rfl⟩
            have hl2 : j + 1 + 1 < P.length := by omega
            have hl1c : ((j : Int) + 1 + 1 == (P.length : Int)) = false := by rw [beq_eq_false_iff_ne]; omega
            by_cases h65 : (P[j + 1 + 1].toNat : Int) < 65
            · have HV : Hid (aloneB P (j + 1) = true) := by
                show _ = _
                unfold aloneB
                rw [HGJ.out, HB.out, Bool.or_true, Bool.true_and]
                have hg : P.getD (j + 1 + 1) 0 = P[j + 1 + 1] := by simp [List.getD, List.getElem?_eq_getElem hl2]
                rw [hg, decide_eq_false (show ¬ j + 1 + 1 = P.length from hl1)]
                have : decide (P[j + 1 + 1] < (65 : UInt8)) = true := by rw [decide_eq_true_eq, UInt8.lt_iff_toNat_lt]; simp; omega
                rw [this]; rfl
              clear hl1
              go_wp2_with fail
              go_meet
              exact ⟨by rw [HV.out] <;> (first | rfl | (simp; omega)), rfl⟩
            · have HV : Hid (aloneB P (j + 1) = false) := by
                show _ = _
                unfold aloneB
                rw [HGJ.out, HB.out, Bool.or_true, Bool.true_and]
                have hg : P.getD (j + 1 + 1) 0 = P[j + 1 + 1] := by simp [List.getD, List.getElem?_eq_getElem hl2]
                rw [hg, decide_eq_false (show ¬ j + 1 + 1 = P.length from hl1)]
                have : decide (P[j + 1 + 1] < (65 : UInt8)) = false := by rw [decide_eq_false_iff_not, UInt8.lt_iff_toNat_lt]; simp; omega
                rw [this]; rfl
              clear hl1
              go_wp2_with fail
              go_meet
              exact ⟨by rw [HV.out] <;> (first | rfl | (simp; omega)), rfl⟩
      case rest =>
        obtain ⟨rfl, hwc⟩ := hcut
        subst hwc
        go_upto_region 12 with fail
        go_cut [14, 17] from 78 to 87 (fun s14 s17 wd => s14 = .bool (hasL 65 P (k + 1)) ∧ s17 = .bool (aloneB P k) ∧ wd = wc)
        case first =>
          cases hh : hasL 65 P k
          · cases ha : aloneB P k
            · have HV : Hid (hasL 65 P (k + 1) = false) := by show _ = _; rw [has_succ, hh, ha]; rfl
              go_wp2_with fail
              go_meet
              exact ⟨by rw [HV.out], by first | rfl | rw [ha], rfl⟩
            · cases hx : ((P[k].toNat : Int) == 65)
              · have hb : (P[k] == 65) = false := by rw [beq_eq_false_iff_ne]; intro e; rw [e] at hx; exact absurd hx (by decide)
                have HV : Hid (hasL 65 P (k + 1) = false) := by show _ = _; rw [has_succ, hh, ha, show P.getD k 0 = P[k] from by simp [List.getD, List.getElem?_eq_getElem hlt], hb]; rfl
                clear hb
                go_wp2_with fail
                go_meet
                exact ⟨by rw [HV.out], by first | rfl | rw [ha], rfl⟩
              · have hb : (P[k] == 65) = true := by rw [beq_iff_eq]; exact UInt8.toNat_inj.1 (by simp at hx; simp; omega)
                have HV : Hid (hasL 65 P (k + 1) = true) := by show _ = _; rw [has_succ, hh, ha, show P.getD k 0 = P[k] from by simp [List.getD, List.getElem?_eq_getElem hlt], hb]; rfl
                clear hb
                go_wp2_with fail
                go_meet
                exact ⟨by rw [HV.out], by first | rfl | rw [ha], rfl⟩
          · have HV : Hid (hasL 65 P (k + 1) = true) := by show _ = _; rw [has_succ, hh]; rfl
            go_wp2_with fail
            go_meet
            exact ⟨by rw [HV.out], by first | rfl | rw [ha], rfl⟩
        case rest =>
          obtain ⟨rfl, rfl, hwd⟩ := hcut
          subst hwd
          cases hh : hasL 66 P k
          · cases ha : aloneB P k
            · have HV : Hid (hasL 66 P (k + 1) = false) := by show _ = _; rw [has_succ, hh, ha]; rfl
              go_wp2
              go_round
              case rel => exact ⟨k + 1, by omega, by go_num, rfl, by rw [HV.out]⟩
              case measure => simp [intOf]; omega
            · cases hx : ((P[k].toNat : Int) == 66)
              · have hb : (P[k] == 66) = false := by rw [beq_eq_false_iff_ne]; intro e; rw [e] at hx; exact absurd hx (by decide)
                have HV : Hid (hasL 66 P (k + 1) = false) := by show _ = _; rw [has_succ, hh, ha, show P.getD k 0 = P[k] from by simp [List.getD, List.getElem?_eq_getElem hlt], hb]; rfl
                clear hb
                go_wp2
                go_round
                case rel => exact ⟨k + 1, by omega, by go_num, rfl, by rw [HV.out]⟩
                case measure => simp [intOf]; omega
              · have hb : (P[k] == 66) = true := by rw [beq_iff_eq]; exact UInt8.toNat_inj.1 (by simp at hx; simp; omega)
                have HV : Hid (hasL 66 P (k + 1) = true) := by show _ = _; rw [has_succ, hh, ha, show P.getD k 0 = P[k] from by simp [List.getD, List.getElem?_eq_getElem hlt], hb]; rfl
                clear hb
                go_wp2
                go_round
                case rel => exact ⟨k + 1, by omega, by go_num, rfl, by rw [HV.out]⟩
                case measure => simp [intOf]; omega
          · have HV : Hid (hasL 66 P (k + 1) = true) := by show _ = _; rw [has_succ, hh]; rfl
            go_wp2
            go_round
            case rel => exact ⟨k + 1, by omega, by go_num, rfl, by rw [HV.out]⟩
            case measure => simp [intOf]; omega
    · obtain rfl : k = P.length := by omega
      rw [HPA.out, HPB.out]
      have hT1 := Tell_any K N a b 1 w2 (HL.out.next b2) h1 h2
      have hT2 := fun W (h : LaidD W) => Tell_any K N c b 1 W h h3 h2
      have hT3 := fun W (h : LaidD W) => Tell_any K N a c 1 W h h1 h3
      generalize tellL K N a b (msgOf 1) = X at *
      generalize tellL K N c b (msgOf 1) = Y at *
      generalize tellL K N a c (msgOf 1) = Z at *
      generalize hasA N = A at *
      generalize hasB2 N = B at *
      go_wp2_with fail
      refine hT1.mono ?_
      rintro r w3 ⟨rfl, b3⟩
      replace b3 := b2.trans (b3.mono b2.size)
      clear b2 hT1
      go_wp2_with fail
      refine (hT2 _ (HL.out.next b3)).mono ?_
      rintro r w4 ⟨rfl, b4⟩
      replace b4 := b3.trans (b4.mono b3.size)
      clear b3 hT2
      go_wp2_with fail
      refine (hT3 _ (HL.out.next b4)).mono ?_
      rintro r w5 ⟨rfl, b5⟩
      replace b5 := b4.trans (b5.mono b4.size)
      clear b4 hT3
      have hx := HX.out
      have hy := HY.out
      clear HX HY HPA HPB
      have HXX := Lib.hid hx
      have HYY := Lib.hid hy
      clear hx hy
      cases A <;> cases B <;> cases hac : (a == c) <;> cases hbc : (b == c)
      all_goals have g1 := HXX.out
      all_goals have g2 := HYY.out
      all_goals rw [hac] at g1
      all_goals rw [hbc] at g2
      all_goals simp only [Bool.not_true, Bool.not_false, Bool.or_true, Bool.or_false, Bool.true_or, Bool.false_or] at g1 g2
      all_goals clear HXX HYY
      all_goals go_wp2
      all_goals go_ret
      all_goals exact ⟨rfl, b5⟩
namespace LDiagWhole
set_option maxRecDepth 100000 in
theorem lifted (os : Os) (started : os.Started) (H : Type) (enc : TypeId × Value → H) :
    ReturnsInHanded {} Tryd.checked os 5 .any (fun w args => (Rows.diagWholeSpec.pre enc Tryd.prog Tryd.f5 [] false w args ∧ laidMetH Tryd.prog Rows.diagWholeRow.laid w) ∧ sizedMet enc Tryd.prog Tryd.f5 (OpenSpec.ofChange Rows.diagWholeSpec) false w args) (Rows.diagWholeSpec.post enc Tryd.prog Tryd.f5 false true false false) := by
  refine returnsInHanded_of_change_and (C := Tryd.checked) (X := fun w _ => laidMetH Tryd.prog Rows.diagWholeRow.laid w) (fun _ _ _ hh h => h.of_heap hh) (by kernel_rfl) started (by kernel_rfl) Tryd.func5
    (ChangeSpec.witness_shaped (enc := enc) (C := Tryd.checked) (os := os) (X := fun w _ => laidMetH Tryd.prog Rows.diagWholeRow.laid w) false (World.laidAll Tryd.prog os Rows.diagWholeRow.laid) #[.int .u8 0, .int .u8 0, .string ByteArray.empty, .string ByteArray.empty, .string ByteArray.empty] 8 (World.laidAll_os _ _ _)
      (World.shaped_of_ZipB (by kernel_rfl) (by kernel_rfl)) (by kernel_rfl) (by kernel_rfl) (by kernel_rfl)
      (by rw [MakeChecks.laidMetH_plain _ _ _ (by kernel_rfl)]; exact laidMet_laidAll _ (by kernel_rfl) (by kernel_rfl))) ?_
  intro W base args ds gs before hval0 hW hcnd _ hLaid _
  have hL := of_laid hLaid
  clear hLaid
  have hval : ∀ (j : Nat) t v, Tryd.f5.params[j]? = some t → args[j]? = some v → Value.okWide Tryd.prog W .any base t v := hval0
  have hW' := hW
  obtain ⟨p, q, hA0, hV, rfl, hfz, hnd⟩ := hW
  have hA : DataW.TrodAll enc Tryd.prog W 0 (fun _ => true) true Tryd.f5.params.toList args.toList ds p := hA0
  rw [Tryd.params5] at hA hval
  obtain ⟨v0, vs0, d0, ds0, p0, q0, hargs, rfl, rfl, k0, r0⟩ := trodAll_cons hA
  obtain ⟨v1, vs1, d1, ds1, p1, q1, rfl, rfl, rfl, k1, r1⟩ := trodAll_cons r0
  obtain ⟨v2, vs2, d2, ds2, p2, q2, rfl, rfl, rfl, k2, r2⟩ := trodAll_cons r1
  obtain ⟨v3, vs3, d3, ds3, p3, q3, rfl, rfl, rfl, k3, r3⟩ := trodAll_cons r2
  obtain ⟨v4, vs4, d4, ds4, p4, q4, rfl, rfl, rfl, k4, r4⟩ := trodAll_cons r3
  obtain ⟨rfl, rfl, rfl⟩ := trodAll_nil r4
  obtain rfl : args = #[v0, v1, v2, v3, v4] := by cases args; simp_all
  obtain ⟨rfl, rfl⟩ := trodVars_none hV
  have ok0 := hval 0 5 v0 rfl rfl
  have ok1 := hval 1 5 v1 rfl rfl
  have ok2 := hval 2 9 v2 rfl rfl
  have ok3 := hval 3 9 v3 rfl rfl
  have ok4 := hval 4 9 v4 rfl rfl
  have lt0 : ∀ x ∈ p0, x.block < W.heap.size := by obtain ⟨m, hm⟩ := k0; exact DataW.trod_lt m _ _ _ hm
  have lt1 : ∀ x ∈ p1, x.block < W.heap.size := by obtain ⟨m, hm⟩ := k1; exact DataW.trod_lt m _ _ _ hm
  have lt2 : ∀ x ∈ p2, x.block < W.heap.size := by obtain ⟨m, hm⟩ := k2; exact DataW.trod_lt m _ _ _ hm
  have lt3 : ∀ x ∈ p3, x.block < W.heap.size := by obtain ⟨m, hm⟩ := k3; exact DataW.trod_lt m _ _ _ hm
  have lt4 : ∀ x ∈ p4, x.block < W.heap.size := by obtain ⟨m, hm⟩ := k4; exact DataW.trod_lt m _ _ _ hm
  have C : Calls Tryd.prog 5 #[v0, v1, v2, v3, v4] W fun e w' => e = .returned (.bool true) ∧ Below W.heap.size W w' := by
    clear hA0 hval0 hval hW' hcnd hV hfz hnd
    obtain ⟨k, rfl, rfl, rfl, hk⟩ := open_int Tryd.underlying5 ok0 k0
    obtain ⟨n, rfl, rfl, rfl, hn⟩ := open_int Tryd.underlying5 ok1 k1
    obtain ⟨s, rfl, rfl, rfl, hs⟩ := open_string Tryd.underlying9 ok2 k2
    obtain ⟨t, rfl, rfl, rfl, ht⟩ := open_string Tryd.underlying9 ok3 k3
    obtain ⟨u, rfl, rfl, rfl, hu⟩ := open_string Tryd.underlying9 ok4 k4
    rw [str_eta s, str_eta t, str_eta u]
    have hb := bounds_u8 hk
    obtain ⟨m, rfl⟩ := Int.eq_ofNat_of_zero_le hb.1
    have hb2 := bounds_u8 hn
    obtain ⟨z, rfl⟩ := Int.eq_ofNat_of_zero_le hb2.1
    exact lawWhole18 m z _ _ _ W hL (by omega) (by omega) (str_len hs) (str_len ht) (str_len hu)
  refine C.mono fun e W' ⟨he, bel⟩ => ?_
  subst he
  exact ⟨_, rfl, _, _, _, [], _, [], hW', trodAll_mk1 (shut_bool Tryd.underlying4 _), (trodAll_cons_mk (Below.trod laidOut (by kernel_rfl) (of_decide_eq_true (by kernel_rfl)) k0 bel lt0) (trodAll_cons_mk (Below.trod laidOut (by kernel_rfl) (of_decide_eq_true (by kernel_rfl)) k1 bel lt1) (trodAll_cons_mk (Below.trod laidOut (by kernel_rfl) (of_decide_eq_true (by kernel_rfl)) k2 bel lt2) (trodAll_cons_mk (Below.trod laidOut (by kernel_rfl) (of_decide_eq_true (by kernel_rfl)) k3 bel lt3) (trodAll_cons_mk (Below.trod laidOut (by kernel_rfl) (of_decide_eq_true (by kernel_rfl)) k4 bel lt4) trodAll_mk0))))), rfl, bel.frame _, fun h => by cases h⟩
theorem bare : Rows.DiagWholeSaid :=
  OpenClaim.holds_of_wide 5 Tryd.f5 rfl rfl rfl rfl rfl rfl rfl ⟨rfl, rfl, rfl, rfl, rfl⟩ rfl rfl rfl rfl rfl (by kernel_rfl) Tryd.func5 (by kernel_rfl)
    (of_decide_eq_true (by kernel_rfl)) (by unfold Func.isWrapper; first | (rw [if_pos (by decide +kernel)]; kernel_rfl) | (rw [if_neg (by decide +kernel)]; exact ⟨rfl, rfl⟩))
    (fun os started H enc _ => lifted os started H enc)
theorem proved : Rows.DiagWholeCardSaid :=
  Claim7.holds_tied_plain_at .later [] Rows.diagWholeCard.laidKinds true Rows.diagWholeCard.stood.harness false
    bare (fun _ h => by cases h) (by kernel_rfl) (fun _ h => by cases h) diagWhole_row_tie rfl ⟨rfl, rfl⟩ (by kernel_rfl) rfl
    (fun f fn hf hfn => by
      obtain rfl : f = 5 := Option.some.inj ((show Tryd.prog.funcNamed "drayman/draymanlaw18.DiagWhole" = some 5 by kernel_rfl).symm.trans hf) |>.symm
      obtain rfl : fn = Tryd.f5 := (Option.some.inj (Tryd.func5.symm.trans hfn)).symm
      exact ⟨by kernel_rfl, fun j t ht => by
        rw [Tryd.params5] at ht
        have hm : t ∈ [5, 5, 9, 9, 9] := by simpa using Array.mem_of_getElem? ht
        have hall : ([5, 5, 9, 9, 9].all fun u => !Tryd.prog.wantsStandIn u) = true := by kernel_rfl
        exact (show Tryd.prog.wantsStandIn t = false by simpa using List.all_eq_true.1 hall t hm)⟩)
    (by kernel_rfl)
#print axioms proved
end LDiagWhole

end Go.Proofs.YtbaclgnohnmdgaaDoor
