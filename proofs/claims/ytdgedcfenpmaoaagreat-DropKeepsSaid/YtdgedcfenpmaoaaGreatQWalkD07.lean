import Derived.Test.YtdgedcfenpmaoaaGreatQMWalkA12
set_option linter.unusedVariables false
set_option linter.unusedSimpArgs false
/- Walks: the document's Names, and its rule 4. -/
set_option linter.unusedVariables false
set_option linter.unusedSimpArgs false
namespace Go.Proofs.YtdgedcfenpmaoaaGreat
open Go.RowKit

theorem int_one {n : Nat} (h : ((n : Int) != 1) = false) : n = 1 := by
  have : (n : Int) = 1 := by simpa using h
  omega
theorem int_zero {n : Nat} (h : ((n : Int) != 0) = false) : n = 0 := by
  have : (n : Int) = 0 := by simpa using h
  omega

set_option maxHeartbeats 4000000 in
theorem refNamesN_any (mi mb nx i : Int) (l : List Nd) (v : Value) (w : World) (hv : Nds w v l) (hl : l.length ≤ 1000000) (hp : (pairsN l).length ≤ 1000000000000) :
    Calls Tryz.prog 75 #[.agg (fsC mi mb nx v), .int .i64 i] w fun e w' => e = .returned (.tuple #[.int .i64 (namesN l i : Int), .int .i64 (inN l i)]) ∧ Below w.heap.size w w' := by
  obtain ⟨a, ca, rfl, hc, hm, hea, hna, HA0⟩ := id hv
  unfold maxLen at hm
  have HA := Lib.hid HA0
  have HE := Lib.hid hea
  clear HA0 hea hv
  have b0 := Blk.new w 24 (fsC mi mb nx (.slice a l.length ca))
  have hB0 := alloc_below w (.cells (fsC mi mb nx (.slice a l.length ca)) 24)
  go_enter Tryz.func75, Tryz.ntmps75
  go_wp2
  generalize w.alloc (.cells (fsC mi mb nx (.slice a l.length ca)) 24) = w1 at *
  have p3 := b0.four.1.2.2.2
  go_loopw [6, 7, 8] (fun s6 s7 s8 wr => ∃ k : Nat, k ≤ l.length ∧ s8 = .int .i64 k ∧ s6 = .int .i64 (cntP (pairsN (l.take k)) i : Int) ∧ s7 = .int .i64 (lastP (pairsN (l.take k)) i) ∧ wr = w1) (fun _ _ s8 _ => l.length - (intOf s8).toNat)
  case atStart => exact ⟨0, Nat.zero_le _, rfl, rfl, rfl, rfl⟩
  case round =>
    obtain ⟨k, hk, rfl, rfl, rfl, rfl⟩ := hrel
    by_cases hlt : k < l.length
    · obtain ⟨b, o, rfl, hb, hcl⟩ := HA.out (by omega)
      obtain ⟨c0, c1, c2, c3, c4, c5⟩ := (hcl k hlt).below hB0 hb
      clear hcl
      have hE := HE.out _ (List.getElem_mem hlt)
      have hz0 := pairsT_zero l k
      have hnx := fun m (hm : m < l[k].ents.length) => pairsT_next hlt hm
      have hen := pairsT_end hlt
      have hle := fun m => Nat.le_trans (cntP_le (pairsT l k m) i) (Nat.le_trans (pairsT_len l k m) hp)
      have HZ := Lib.hid hz0
      have HX := Lib.hid hnx
      have HL := Lib.hid hle
      rw [← hz0]
      clear hz0 hnx hle
      generalize l[k] = y at *
      have HEN := Lib.hid hen
      clear hen
      obtain ⟨yi, yk, yl, yd, yp, ye, yn⟩ := y
      dsimp only at hE c0 c1 c2 c3 c4 c5
      obtain ⟨ae, ne, rfl, hE1, hE2, hE3⟩ := id hE
      unfold maxLen at hE2
      have HC := Lib.hid hE3
      clear hE3 hE
      have k0 : (0 : Int) ≤ (k : Int) := by omega
      have k1 : (k : Int) < (l.length : Int) := by omega
      go_wp2
      go_loopw [6, 7, 9] (fun s6 s7 s9 wq => ∃ m : Nat, m ≤ yn.length ∧ s9 = .int .i64 m ∧ s6 = .int .i64 (cntP (pairsT l k m) i : Int) ∧ s7 = .int .i64 (lastP (pairsT l k m) i) ∧ wq = wr) (fun _ _ s9 _ => yn.length - (intOf s9).toNat)
      case atStart => exact ⟨0, Nat.zero_le _, rfl, rfl, rfl, rfl⟩
      case round =>
        obtain ⟨m, hm2, rfl, rfl, rfl, rfl⟩ := hrel
        by_cases hmlt : m < yn.length
        · obtain ⟨be, oe, rfl, hbe, hce⟩ := HC.out (by omega)
          have d1 := (hB0.cell (p := ⟨be, oe + m * 2 + 1, none⟩) hbe).trans (hce m hmlt).2
          clear hce
          have m0 : (0 : Int) ≤ (m : Int) := by omega
          have m1 : (m : Int) < (yn.length : Int) := by omega
          have hcn : cntP (pairsT l k (m + 1)) i = if yn[m].2 == i then cntP (pairsT l k m) i + 1 else cntP (pairsT l k m) i := by rw [HX.out m hmlt]; exact cntP_next _ _ _
          have hln : lastP (pairsT l k (m + 1)) i = if yn[m].2 == i then yi else lastP (pairsT l k m) i := by rw [HX.out m hmlt]; exact lastP_next _ _ _
          have hbd := HL.out (m + 1)
          generalize yn[m].2 = z at *
          generalize cntP (pairsT l k m) i = U at *
          generalize lastP (pairsT l k m) i = V at *
          cases h : (z == i)
          · rw [h, if_neg (by simp)] at hcn hln
            have H1 := Lib.hid hcn
            have H2 := Lib.hid hln
            clear hcn hln hbd
            go_wp2
            go_roundw
            case rel => exact ⟨m + 1, by omega, by go_num, by rw [H1.out], by rw [H2.out], trivial⟩
            case measure => simp [intOf]; omega
          · rw [h, if_pos rfl] at hcn hln
            rw [hcn] at hbd
            have H1 := Lib.hid hcn
            have H2 := Lib.hid hln
            clear hcn hln
            go_wp2
            go_roundw
            case rel => exact ⟨m + 1, by omega, by go_num, by rw [H1.out]; go_num, by rw [H2.out], trivial⟩
            case measure => simp [intOf]; omega
        · obtain rfl : m = yn.length := by omega
          have H1 := Lib.hid HEN.out
          go_wp2
          go_roundw
          case rel => exact ⟨k + 1, by omega, by go_num, by rw [H1.out], by rw [H1.out], trivial⟩
          case measure => simp [intOf]; omega
    · obtain rfl : k = l.length := by omega
      have H1 := Lib.hid (pairs_all l)
      go_wp2
      go_ret2
      exact ⟨by rw [H1.out]; rfl, hB0⟩

set_option maxHeartbeats 8000000 in
set_option maxRecDepth 100000 in
theorem refFourth_any (mi mb nx : Int) (l : List Nd) (v : Value) (w : World) (hv : Nds w v l) (hl : l.length ≤ 1000000) (hp : (pairsN l).length ≤ 1000000000000) :
    Calls Tryz.prog 51 #[.agg (fsC mi mb nx v)] w fun e w' => e = .returned (.bool (fourthB l)) ∧ Below w.heap.size w w' := by
  obtain ⟨a, ca, rfl, hc, hm, hea, hna, HA0⟩ := id hv
  unfold maxLen at hm
  have HA := Lib.hid HA0
  have HV := Lib.hid hv
  clear HA0 hea hv
  have b0 := Blk.new w 24 (fsC mi mb nx (.slice a l.length ca))
  have hB0 := alloc_below w (.cells (fsC mi mb nx (.slice a l.length ca)) 24)
  go_enter Tryz.func51, Tryz.ntmps51
  go_wp2
  go_loopw [3] (fun s3 wr => ∃ k : Nat, k ≤ l.length ∧ s3 = .int .i64 k ∧ Aside ((l.take k).all (fourthX l) = true) ∧ Below w.heap.size w wr ∧ Aside (Blk wr w.heap.size 24 (fsC mi mb nx (.slice a l.length ca)))) (fun s3 _ => l.length - (intOf s3).toNat)
  case atStart => exact ⟨0, Nat.zero_le _, rfl, by (show _ = _); simp, hB0, b0⟩
  case round =>
    clear b0 hB0
    obtain ⟨k, hk, rfl, HT, hbw, HB⟩ := hrel
    have p3 := HB.out.four.1.2.2.2
    by_cases hlt : k < l.length
    · obtain ⟨b, o, rfl, hb, hcl⟩ := HA.out (by omega)
      obtain ⟨c0, c1, c2, c3, c4, c5⟩ := (hcl k hlt).below hbw hb
      clear hcl
      have hno : fourthX l l[k] = false → fourthB l = false := all_no hlt
      have hye : fourthX l l[k] = true → (l.take (k + 1)).all (fourthX l) = true := allT_next hlt HT.out
      have hE := HV.out.all _ (List.getElem_mem hlt)
      generalize l[k] = y at *
      have HNO := Lib.hid hno
      have HYE := Lib.hid hye
      clear hno hye HT
      obtain ⟨yi, yk, yl, yd, yp, ye, yn⟩ := y
      dsimp only at hE c0 c1 c2 c3 c4 c5
      obtain ⟨ae, ne, rfl, _⟩ := id hE
      clear hE
      have k0 : (0 : Int) ≤ (k : Int) := by omega
      have k1 : (k : Int) < (l.length : Int) := by omega
      have b1 := alloc_below wr (.cells (ndC ⟨yi, yk, yl, yd, yp, .slice ae yn.length ne, yn⟩) 42)
      have hB1 := hbw.trans (b1.mono hbw.size)
      have F1 := HB.out.next b1
      have X1 := Blk.new wr 42 (ndC ⟨yi, yk, yl, yd, yp, .slice ae yn.length ne, yn⟩)
      obtain ⟨⟨p0, p1, p2, p3⟩, _⟩ := F1.four
      obtain ⟨⟨s0, s1, s2, s3, s4, s5⟩, _⟩ := X1.six
      dsimp only at s0 s1 s2 s3 s4 s5
      have hNc := refNamesN_any mi mb nx yi l _ _ (HV.out.below hB1) hl hp
      have HX : Hid (fourthX l ⟨yi, yk, yl, yd, yp, .slice ae yn.length ne, yn⟩ = (decide (yl = (namesN l yi : Int)) && (if yi = 1 then decide (namesN l yi = 0) && decide (yp = 1) else decide (1 ≤ namesN l yi) && (if yk = 2 then decide (namesN l yi = 1) && decide (yp = inN l yi) else true)))) := rfl
      go_wp2_with fail
      refine hNc.mono ?_
      rintro e w2 ⟨rfl, b2⟩
      clear hNc
      generalize namesN l yi = n at *
      generalize inN l yi = d at *
      have X2 := X1.next b2
      have F2 := F1.next b2
      have hB2 := hB1.trans (b2.mono hB1.size)
      clear s0 s1 s2 s3 s4 s5 p0 p1 p2 p3
      obtain ⟨⟨s0, s1, s2, s3, s4, s5⟩, _⟩ := X2.six
      dsimp only at s0 s1 s2 s3 s4 s5
      cases h1 : (yl != (n : Int))
      · have e1 : yl = (n : Int) := by simpa using h1
        cases h2 : (yi == 1)
        · have e2 : ¬ yi = 1 := by simpa using h2
          by_cases h3 : (n : Int) < 1
          · have HN := Lib.hid (HNO.out (HX.out.trans (by rw [decide_eq_true e1, if_neg e2, show decide (1 ≤ n) = false from decide_eq_false (by omega)]; rfl)))
            clear HNO HYE HX
            go_wp2
            go_ret
            exact ⟨ret_bool (by rw [HN.out]), hB2⟩
          · have e3 : decide (1 ≤ n) = true := decide_eq_true (by omega)
            cases h4 : (yk == 2)
            · have HT2 := Lib.hid (HYE.out (HX.out.trans (by rw [decide_eq_true e1, if_neg e2, e3, if_neg (show ¬ yk = 2 by simpa using h4)]; rfl)))
              clear HNO HYE HX
              go_wp2
              go_roundw
              case rel => exact ⟨k + 1, by omega, by go_num, HT2.out, hB2, F2⟩
              case measure => simp [intOf]; omega
            · cases h5 : ((n : Int) != 1)
              · cases h6 : (yp != d)
                · have HT2 := Lib.hid (HYE.out (HX.out.trans (by rw [decide_eq_true e1, if_neg e2, e3, if_pos (show yk = 2 by simpa using h4), decide_eq_true (int_one h5), decide_eq_true (show yp = d by simpa using h6)]; rfl)))
                  clear HNO HYE HX
                  go_wp2
                  go_roundw
                  case rel => exact ⟨k + 1, by omega, by go_num, HT2.out, hB2, F2⟩
                  case measure => simp [intOf]; omega
                · have HN := Lib.hid (HNO.out (HX.out.trans (by rw [if_neg e2, if_pos (show yk = 2 by simpa using h4), decide_eq_false (show ¬ yp = d by simpa using h6)]; simp)))
                  clear HNO HYE HX
                  go_wp2
                  go_ret
                  exact ⟨ret_bool (by rw [HN.out]), hB2⟩
              · have HN := Lib.hid (HNO.out (HX.out.trans (by rw [if_neg e2, if_pos (show yk = 2 by simpa using h4), decide_eq_false (show ¬ n = 1 by rintro rfl; simp at h5)]; simp)))
                clear HNO HYE HX
                go_wp2
                go_ret
                exact ⟨ret_bool (by rw [HN.out]), hB2⟩
        · have e2 : yi = 1 := by simpa using h2
          cases h3 : ((n : Int) != 0)
          · cases h4 : (yp != 1)
            · have HT2 := Lib.hid (HYE.out (HX.out.trans (by rw [decide_eq_true e1, if_pos e2, decide_eq_true (int_zero h3), decide_eq_true (show yp = 1 by simpa using h4)]; rfl)))
              clear HNO HYE HX
              go_wp2
              go_roundw
              case rel => exact ⟨k + 1, by omega, by go_num, HT2.out, hB2, F2⟩
              case measure => simp [intOf]; omega
            · have HN := Lib.hid (HNO.out (HX.out.trans (by rw [if_pos e2, decide_eq_false (show ¬ yp = 1 by simpa using h4)]; simp)))
              clear HNO HYE HX
              go_wp2
              go_ret
              exact ⟨ret_bool (by rw [HN.out]), hB2⟩
          · have HN := Lib.hid (HNO.out (HX.out.trans (by rw [if_pos e2, decide_eq_false (show ¬ n = 0 by rintro rfl; simp at h3)]; simp)))
            clear HNO HYE HX
            go_wp2
            go_ret
            exact ⟨ret_bool (by rw [HN.out]), hB2⟩
      · have HN := Lib.hid (HNO.out (HX.out.trans (by rw [decide_eq_false (show ¬ yl = (n : Int) by simpa using h1)]; rfl)))
        clear HNO HYE HX
        go_wp2
        go_ret
        exact ⟨ret_bool (by rw [HN.out]), hB2⟩
    · obtain rfl : k = l.length := by omega
      have HN : Hid (fourthB l = true) := allT_end HT.out
      go_wp2
      go_ret
      exact ⟨ret_bool (by rw [HN.out]), hbw⟩
end Go.Proofs.YtdgedcfenpmaoaaGreat
