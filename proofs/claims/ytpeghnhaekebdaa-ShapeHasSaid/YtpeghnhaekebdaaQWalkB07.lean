import Derived.Test.YtpeghnhaekebdaaQMWalkA07
import Derived.Deep.RegionHeld3
set_option linter.unusedVariables false
set_option linter.unusedSimpArgs false
/- Walks: the document's rules 2 and 3. -/
set_option linter.unusedVariables false
set_option linter.unusedSimpArgs false
namespace Go.Proofs.Ytpeghnhaekebdaa
open Go.RowKit

theorem second_no {l : List Nd} {k : Nat} (h : k < l.length) (hx : secondX l[k] = false) : secondB l = false := all_no h hx
def symT (d : List UInt8) (m : Nat) : Prop := (d.take m).all (fun c => c != 0) = true

set_option maxHeartbeats 8000000 in
set_option maxRecDepth 100000 in
theorem refSecond_any (mi mb nx : Int) (l : List Nd) (v : Value) (w : World) (hv : Nds w v l) (hl : l.length ≤ 1000000) (hsh : ∀ x ∈ l, shortP 1000000 x.ents ∧ x.data.length ≤ 281474976710656) :
    Calls Try.prog 28 #[.agg (fsC mi mb nx v)] w fun e w' => e = .returned (.bool (secondB l)) ∧ Below w.heap.size w w' := by
  obtain ⟨a, ca, rfl, hc, hm, hea, hna, HA0⟩ := id hv
  unfold maxLen at hm
  have HA := Lib.hid HA0
  have HV := Lib.hid hv
  have HS := Lib.hid hsh
  clear HA0 hea hv hsh
  have b0 := Blk.new w 24 (fsC mi mb nx (.slice a l.length ca))
  have hB0 := alloc_below w (.cells (fsC mi mb nx (.slice a l.length ca)) 24)
  go_enter Try.func28, Try.ntmps28
  go_wp2
  go_loopw [3] (fun s3 wr => ∃ k : Nat, k ≤ l.length ∧ s3 = .int .i64 k ∧ Aside ((l.take k).all secondX = true) ∧ Below w.heap.size w wr ∧ Aside (Blk wr w.heap.size 24 (fsC mi mb nx (.slice a l.length ca)))) (fun s3 _ => l.length - (intOf s3).toNat)
  case atStart => exact ⟨0, Nat.zero_le _, rfl, by (show _ = _); simp, hB0, b0⟩
  case round =>
    clear b0 hB0
    obtain ⟨k, hk, rfl, HT, hbw, HB⟩ := hrel
    have p3 := HB.out.four.1.2.2.2
    by_cases hlt : k < l.length
    · obtain ⟨b, o, rfl, hb, hcl⟩ := HA.out (by omega)
      obtain ⟨c0, c1, c2, c3, c4, c5⟩ := (hcl k hlt).below hbw hb
      clear hcl
      have hno : secondX l[k] = false → secondB l = false := second_no hlt
      have hye : secondX l[k] = true → (l.take (k + 1)).all secondX = true := allT_next hlt HT.out
      have hE := (HV.out.below hbw).all _ (List.getElem_mem hlt)
      have hsx := HS.out _ (List.getElem_mem hlt)
      generalize l[k] = y at *
      have HNO := Lib.hid hno
      have HYE := Lib.hid hye
      clear hno hye HT
      obtain ⟨yi, yk, yl, yd, yp, ye, yn⟩ := y
      dsimp only at c0 c1 c2 c3 c4 c5 hE hsx
      obtain ⟨ae, ne, rfl, hE1, hE2, _⟩ := id hE
      unfold maxLen at hE2
      have HE := Lib.hid hE
      clear hE
      have hdl := hsx.2
      have hB1 := hbw.alloc hbw.size (.cells (ndC ⟨yi, yk, yl, yd, yp, .slice ae yn.length ne, yn⟩) 33)
      have F1 := HB.out.alloc (.cells (ndC ⟨yi, yk, yl, yd, yp, .slice ae yn.length ne, yn⟩) 33)
      have X1 := Blk.new wr 33 (ndC ⟨yi, yk, yl, yd, yp, .slice ae yn.length ne, yn⟩)
      obtain ⟨⟨s0, s1, s2, s3, s4, s5⟩, _⟩ := X1.six
      dsimp only at s0 s1 s2 s3 s4 s5
      have k0 : (0 : Int) ≤ (k : Int) := by omega
      have k1 : (k : Int) < (l.length : Int) := by omega
      by_cases h2 : yk = 2
      · subst h2
        have HX : Hid (secondX ⟨yi, 2, yl, yd, yp, .slice ae yn.length ne, yn⟩ = (yd.isEmpty && rightB yn)) := by (show _ = _); unfold secondX; rw [if_pos rfl]
        cases yd with
        | cons c r =>
          have HN := Lib.hid (HNO.out (HX.out.trans rfl))
          clear HNO HYE HX
          have hne : (c :: r != []) = true := rfl
          go_wp2
          go_ret
          exact ⟨ret_bool (by rw [HN.out]), hB1⟩
        | nil =>
          have hR := refRight_any yn _ _ (HE.out.below (alloc_below wr (.cells (ndC ⟨yi, 2, yl, [], yp, .slice ae yn.length ne, yn⟩) 33))) hsx.1
          cases hr : rightB yn
          · have HN := Lib.hid (HNO.out (HX.out.trans (by rw [hr]; rfl)))
            rw [hr] at hR
            clear HNO HYE HX
            go_wp2_with fail
            refine hR.mono ?_
            rintro e w2 ⟨rfl, b2⟩
            clear hR
            go_wp2
            go_ret
            exact ⟨ret_bool (by rw [HN.out]), hB1.trans (b2.mono hB1.size)⟩
          · have HT2 := Lib.hid (HYE.out (HX.out.trans (by rw [hr]; rfl)))
            rw [hr] at hR
            clear HNO HYE HX
            go_wp2_with fail
            refine hR.mono ?_
            rintro e w2 ⟨rfl, b2⟩
            clear hR
            have X2 := X1.next b2
            have F2 := F1.next b2
            have hB2 := hB1.trans (b2.mono hB1.size)
            clear s0 s1 s2 s3 s4 s5
            obtain ⟨⟨s0, s1, s2, s3, s4, s5⟩, _⟩ := X2.six
            dsimp only at s0 s1 s2 s3 s4 s5
            go_wp2
            go_loop [5] (fun s5 => s5 = .int .i64 0) (fun s5 => 0)
            case atStart => exact rfl
            case round =>
              obtain rfl := hrel
              go_wp2
              go_roundw
              case rel => exact ⟨k + 1, by omega, by go_num, HT2.out, hB2, F2⟩
              case measure => simp [intOf]; omega
      · have hk2 : (yk != 2) = true := by simpa using h2
        have hk2' : (yk == 2) = false := by simpa using h2
        by_cases h1 : yk = 1
        · subst h1
          have HX : Hid (secondX ⟨yi, 1, yl, yd, yp, .slice ae yn.length ne, yn⟩ = (yn.isEmpty && decide (yp = 0))) := by (show _ = _); unfold secondX; rw [if_neg (by simp), if_pos rfl]
          by_cases he : 0 < yn.length
          · have he2 : yn.isEmpty = false := by rw [List.isEmpty_eq_false_iff]; rintro rfl; simp at he
            have HN := Lib.hid (HNO.out (HX.out.trans (by rw [he2]; simp)))
            clear HNO HYE HX
            go_wp2
            go_ret
            exact ⟨ret_bool (by rw [HN.out]), hB1⟩
          have he2 : yn.isEmpty = true := by rw [List.isEmpty_iff]; exact List.eq_nil_of_length_eq_zero (by omega)
          cases hp : (yp != 0)
          · have HT2 := Lib.hid (HYE.out (HX.out.trans (by rw [he2]; simp; simpa using hp)))
            clear HNO HYE HX
            go_wp2
            go_loop [5] (fun s5 => s5 = .int .i64 0) (fun s5 => 0)
            case atStart => exact rfl
            case round =>
              obtain rfl := hrel
              by_cases hd0 : 0 < yd.length
              · go_wp2
                go_roundw
                case rel => exact ⟨k + 1, by omega, by go_num, HT2.out, hB1, F1⟩
                case measure => simp [intOf]; omega
              · go_wp2
                go_roundw
                case rel => exact ⟨k + 1, by omega, by go_num, HT2.out, hB1, F1⟩
                case measure => simp [intOf]; omega
          · have HN := Lib.hid (HNO.out (HX.out.trans (by rw [show decide (yp = 0) = false from decide_eq_false (by simpa using hp)]; simp)))
            clear HNO HYE HX
            go_wp2
            go_ret
            exact ⟨ret_bool (by rw [HN.out]), hB1⟩
        · have hk1 : (yk != 1) = true := by simpa using h1
          by_cases h3 : yk = 3
          · subst h3
            have HX : Hid (secondX ⟨yi, 3, yl, yd, yp, .slice ae yn.length ne, yn⟩ = (yn.isEmpty && decide (yp = 0) && decide (1 ≤ yd.length) && decide (yd.length ≤ 4095) && yd.all (fun c => c != 0))) := by (show _ = _); unfold secondX; rw [if_neg (by simp), if_neg (by simp), if_pos rfl]
            by_cases he : 0 < yn.length
            · have he2 : yn.isEmpty = false := by rw [List.isEmpty_eq_false_iff]; rintro rfl; simp at he
              have HN := Lib.hid (HNO.out (HX.out.trans (by rw [he2]; simp)))
              clear HNO HYE HX
              go_wp2
              go_ret
              exact ⟨ret_bool (by rw [HN.out]), hB1⟩
            have he2 : yn.isEmpty = true := by rw [List.isEmpty_iff]; exact List.eq_nil_of_length_eq_zero (by omega)
            cases hp : (yp != 0)
            · have hp2 : decide (yp = 0) = true := by simpa using hp
              by_cases hd1 : yd.length < 1
              · have HN := Lib.hid (HNO.out (HX.out.trans (by rw [show decide (1 ≤ yd.length) = false from decide_eq_false (by omega)]; simp)))
                clear HNO HYE HX
                go_wp2
                go_ret
                exact ⟨ret_bool (by rw [HN.out]), hB1⟩
              by_cases hd2 : yd.length > 4095
              · have HN := Lib.hid (HNO.out (HX.out.trans (by rw [show decide (yd.length ≤ 4095) = false from decide_eq_false (by omega)]; simp)))
                clear HNO HYE HX
                go_wp2
                go_ret
                exact ⟨ret_bool (by rw [HN.out]), hB1⟩
              have HX2 := Lib.hid (HX.out.trans (by rw [he2, hp2, show decide (1 ≤ yd.length) = true from decide_eq_true (by omega), show decide (yd.length ≤ 4095) = true from decide_eq_true (by omega)]))
              clear HX
              go_wp2
              go_loop [5] (fun s5 => ∃ m : Nat, m ≤ yd.length ∧ s5 = .int .i64 m ∧ Aside ((yd.take m).all (fun c => c != 0) = true)) (fun s5 => yd.length - (intOf s5).toNat)
              case atStart => exact ⟨0, Nat.zero_le _, rfl, by (show _ = _); simp⟩
              case round =>
                obtain ⟨m, hm2, rfl, HM⟩ := hrel
                by_cases hmlt : m < yd.length
                · have m0 : (0 : Int) ≤ (m : Int) := by omega
                  have m1 : (m : Int) < (yd.length : Int) := by omega
                  cases hz0 : ((yd[m].toNat : Int) == 0)
                  · have hz : (yd[m] != 0) = true := by
                      rw [bne_iff_ne]; intro e; rw [e] at hz0; simp at hz0
                    have HM2 := Lib.hid (allT_next (p := fun c => c != 0) hmlt HM.out hz)
                    go_wp2
                    go_round
                    case rel => exact ⟨m + 1, by omega, by go_num, HM2.out⟩
                    case measure => simp [intOf]; omega
                  · have hz : (yd[m] != 0) = false := by
                      have : yd[m].toNat = 0 := by simpa using hz0
                      rw [show yd[m] = 0 from UInt8.toNat_inj.1 this]; rfl
                    have HN := Lib.hid (HNO.out (HX2.out.trans (by rw [show yd.all (fun c => c != 0) = false from all_no hmlt hz]; rfl)))
                    clear HNO HYE HX2
                    go_wp2
                    go_ret
                    exact ⟨ret_bool (by rw [HN.out]), hB1⟩
                · obtain rfl : m = yd.length := by omega
                  have HT2 := Lib.hid (HYE.out (HX2.out.trans (by rw [allT_end HM.out]; rfl)))
                  clear HNO HYE HX2 HM
                  go_wp2
                  go_roundw
                  case rel => exact ⟨k + 1, by omega, by go_num, HT2.out, hB1, F1⟩
                  case measure => simp [intOf]; omega
            · have HN := Lib.hid (HNO.out (HX.out.trans (by rw [show decide (yp = 0) = false from decide_eq_false (by simpa using hp)]; simp)))
              clear HNO HYE HX
              go_wp2
              go_ret
              exact ⟨ret_bool (by rw [HN.out]), hB1⟩
          · have hk3 : (yk != 3) = true := by simpa using h3
            have HN := Lib.hid (HNO.out (by unfold secondX; rw [if_neg h2, if_neg h1, if_neg h3]))
            clear HNO HYE
            go_wp2
            go_ret
            exact ⟨ret_bool (by rw [HN.out]), hB1⟩
    · obtain rfl : k = l.length := by omega
      have HN : Hid (secondB l = true) := allT_end HT.out
      go_wp2
      go_ret
      exact ⟨ret_bool (by rw [HN.out]), hbw⟩
end Go.Proofs.Ytpeghnhaekebdaa
