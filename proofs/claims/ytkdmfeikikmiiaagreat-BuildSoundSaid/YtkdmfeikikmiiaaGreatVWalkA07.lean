/- Walks: the document's rules 1, 2 and 3. -/
import Derived.Test.YtkdmfeikikmiiaaGreatVWalkI05
import Derived.Test.YtkdmfeikikmiiaaGreatVMWalkF03
import Derived.Test.YtkdmfeikikmiiaaGreatVMPure09
import Derived.StillTailTactics
set_option linter.unusedVariables false
set_option linter.unusedSimpArgs false
namespace Go.Proofs.YtkdmfeikikmiiaaGreat
open Go.RowKit
theorem first_no_lim {mi mb nx : Int} (l : List Nd) (h : limB mi mb nx = false) : firstB mi mb nx l = false := by simp [firstB, h]
theorem lim_no1 {mi mb nx : Int} (h : mi < 1) : limB mi mb nx = false := by unfold limB; rw [decide_eq_false (by omega)]; rfl
theorem lim_no2 {mi mb nx : Int} (h : mi > 1073741824) : limB mi mb nx = false := by unfold limB; rw [show decide (mi ≤ 1073741824) = false from decide_eq_false (by omega)]; simp
theorem lim_no3 {mi mb nx : Int} (h : mb < 0) : limB mi mb nx = false := by unfold limB; rw [show decide (0 ≤ mb) = false from decide_eq_false (by omega)]; simp
theorem lim_no4 {mi mb nx : Int} (h : mb > 1073741824) : limB mi mb nx = false := by unfold limB; rw [show decide (mb ≤ 1073741824) = false from decide_eq_false (by omega)]; simp
theorem lim_no5 {mi mb nx : Int} (h : nx > 1099511627776) : limB mi mb nx = false := by unfold limB; rw [show decide (nx ≤ 1099511627776) = false from decide_eq_false (by omega)]; simp
theorem lim_yes {mi mb nx : Int} (h1 : ¬ mi < 1) (h2 : ¬ mi > 1073741824) (h3 : ¬ mb < 0) (h4 : ¬ mb > 1073741824) (h5 : ¬ nx > 1099511627776) : limB mi mb nx = true := by
  unfold limB; simp; omega
theorem first_no_ino {mi mb nx : Int} {l : List Nd} {k : Nat} (h : k < l.length) (hx : inoB nx l[k] = false) : firstB mi mb nx l = false := by
  unfold firstB; rw [all_no h hx]; simp
theorem first_end {mi mb nx : Int} {l : List Nd} (h : limB mi mb nx = true) (ht : (l.take l.length).all (inoB nx) = true) : firstB mi mb nx l = rootB l := by
  unfold firstB; rw [h, allT_end ht]; rfl
set_option maxHeartbeats 4000000 in
set_option maxRecDepth 100000 in
theorem refFirst_any (mi mb nx : Int) (l : List Nd) (v : Value) (w : World) (hv : Nds w v l) (hl : l.length ≤ 1000000) :
    Calls Tryz.prog 20 #[.agg (fsC mi mb nx v)] w fun e w' => e = .returned (.bool (firstB mi mb nx l)) ∧ Below w.heap.size w w' := by
  obtain ⟨a, ca, rfl, hc, hm, hea, hna, HA0⟩ := id hv
  unfold maxLen at hm
  have HA := Lib.hid HA0
  have HV := Lib.hid hv
  clear HA0 hea hv
  have b0 := Blk.new w 28 (fsC mi mb nx (.slice a l.length ca))
  have hB0 := alloc_below w (.cells (fsC mi mb nx (.slice a l.length ca)) 28)
  obtain ⟨⟨p0, p1, p2, p3⟩, _⟩ := b0.four
  by_cases h1 : mi < 1
  · have HN := Lib.hid (first_no_lim l (lim_no1 (mb := mb) (nx := nx) h1))
    go_enter Tryz.func20, Tryz.ntmps20; go_wp2; go_ret; exact ⟨ret_bool (by rw [HN.out]), hB0⟩
  by_cases h2 : mi > 1073741824
  · have HN := Lib.hid (first_no_lim l (lim_no2 (mb := mb) (nx := nx) h2))
    go_enter Tryz.func20, Tryz.ntmps20; go_wp2; go_ret; exact ⟨ret_bool (by rw [HN.out]), hB0⟩
  by_cases h3 : mb < 0
  · have HN := Lib.hid (first_no_lim l (lim_no3 (mi := mi) (nx := nx) h3))
    go_enter Tryz.func20, Tryz.ntmps20; go_wp2; go_ret; exact ⟨ret_bool (by rw [HN.out]), hB0⟩
  by_cases h4 : mb > 1073741824
  · have HN := Lib.hid (first_no_lim l (lim_no4 (mi := mi) (nx := nx) h4))
    go_enter Tryz.func20, Tryz.ntmps20; go_wp2; go_ret; exact ⟨ret_bool (by rw [HN.out]), hB0⟩
  by_cases h5 : nx > 1099511627776
  · have HN := Lib.hid (first_no_lim l (lim_no5 (mi := mi) (mb := mb) h5))
    go_enter Tryz.func20, Tryz.ntmps20; go_wp2; go_ret; exact ⟨ret_bool (by rw [HN.out]), hB0⟩
  have HL := Lib.hid (lim_yes h1 h2 h3 h4 h5)
  go_enter Tryz.func20, Tryz.ntmps20
  go_wp2
  clear h1 h2 h3 h4 h5 p0 p1 p2 p3
  go_loopw [3] (fun s3 wr => ∃ k : Nat, k ≤ l.length ∧ s3 = .int .i64 k ∧ Aside ((l.take k).all (inoB nx) = true) ∧ Below w.heap.size w wr ∧ Aside (Blk wr w.heap.size 28 (fsC mi mb nx (.slice a l.length ca)))) (fun s3 _ => l.length - (intOf s3).toNat)
  case atStart => exact ⟨0, Nat.zero_le _, rfl, by (show _ = _); simp, hB0, b0⟩
  case round =>
    clear b0 hB0
    obtain ⟨k, hk, rfl, HT, hbw, HB⟩ := hrel
    obtain ⟨⟨p0, p1, p2, p3⟩, _⟩ := HB.out.four
    by_cases hlt : k < l.length
    · obtain ⟨b, o, rfl, hb, hcl⟩ := HA.out (by omega)
      obtain ⟨c0, c1, c2, c3, c4, c5⟩ := (hcl k hlt).below hbw hb
      clear hcl
      have hno : inoB nx l[k] = false → firstB mi mb nx l = false := first_no_ino hlt
      have hye : inoB nx l[k] = true → (l.take (k + 1)).all (inoB nx) = true := allT_next hlt HT.out
      generalize l[k] = y at *
      have HNO := Lib.hid hno
      have HYE := Lib.hid hye
      clear hno hye HT c1 c2 c3 c4 c5
      obtain ⟨yi, yk, yl, yd, yp, ye, yn⟩ := y
      dsimp only at c0
      have k0 : (0 : Int) ≤ (k : Int) := by omega
      have k1 : (k : Int) < (l.length : Int) := by omega
      by_cases h1 : yi < 1
      · have HN := Lib.hid (HNO.out (by unfold inoB; rw [decide_eq_false (by (show ¬ (1 ≤ yi)); omega)]; rfl))
        have hd1 : decide (yi < 1) = true := decide_eq_true h1
        clear HNO HYE h1
        go_wp2
        go_quiet (fail)
        go_wp2
        go_ret
        exact ⟨ret_bool (by rw [HN.out]), below_drewN hbw _⟩
      · have hd1 : decide (yi < 1) = false := decide_eq_false h1
        by_cases h2 : nx ≤ yi
        · have HN := Lib.hid (HNO.out (by unfold inoB; rw [show decide ((Nd.mk yi yk yl yd yp ye yn).ino < nx) = false from decide_eq_false (by (show ¬ (yi < nx)); omega), Bool.and_false]))
          have hd2 : decide (nx ≤ yi) = true := decide_eq_true h2
          clear HNO HYE h1 h2
          go_wp2
          go_quiet (fail)
          go_wp2
          go_ret
          exact ⟨ret_bool (by rw [HN.out]), below_drewN hbw _⟩
        · have HT2 := Lib.hid (HYE.out (by unfold inoB; rw [decide_eq_true (by (show 1 ≤ yi); omega), decide_eq_true (by (show yi < nx); omega)]; rfl))
          have hd2 : decide (nx ≤ yi) = false := decide_eq_false h2
          have HB2 : ∀ q, Blk (wr.drewN q) w.heap.size 28 (fsC mi mb nx (.slice (some ⟨b, o, none⟩) l.length ca)) := fun q => HB.out.below (below_drewN (Below.refl (w.heap.size + 1) wr) q) (Nat.lt_succ_self _)
          clear HNO HYE h1 h2
          go_wp2
          go_quiet (fail)
          go_wp2
          go_roundw
          case rel => exact ⟨k + 1, by omega, by go_num, HT2.out, below_drewN hbw _, HB2 _⟩
          case measure => simp [intOf]; omega
    · obtain rfl : k = l.length := by omega
      have HF := Lib.hid (first_end HL.out HT.out)
      have hnv := HV.out.below hbw
      have hge := get_ents hnv.all 1
      have HR : Hid (rootB l = (riseN l && hasN l 1 && ((getN l 1).kind == 2))) := rfl
      have hG := refGetT_any mi mb nx 1 l _ _ hnv
      generalize getN l 1 = G at *
      obtain ⟨gi, gk, gl, gd, gp, ge, gn⟩ := G
      dsimp only at hge HR
      obtain ⟨ag, cg, rfl, _⟩ := id hge
      go_wp2_with fail
      refine hG.mono ?_
      rintro e w2 ⟨rfl, b2⟩
      clear hG HT
      have B2 := HB.out.next b2
      have b3 := b2.trans ((alloc_below w2 (.cells (ndC ⟨gi, gk, gl, gd, gp, .slice ag gn.length cg, gn⟩) 49)).mono b2.size)
      have B3 := B2.alloc (.cells (ndC ⟨gi, gk, gl, gd, gp, .slice ag gn.length cg, gn⟩) 49)
      have X3 := Blk.new w2 49 (ndC ⟨gi, gk, gl, gd, gp, .slice ag gn.length cg, gn⟩)
      clear p0 p1 p2 p3
      obtain ⟨⟨p0, p1, p2, p3⟩, _⟩ := B3.four
      have hV3 := hnv.below b3
      have hB3 := hbw.trans (b3.mono hbw.size)
      cases hr : riseN l
      · go_wp2_with fail
        refine (riseT_any mi mb nx l _ _ hV3 hl).mono ?_
        rintro e w4 ⟨rfl, b4⟩
        rw [hr]
        have HF2 := Lib.hid (HF.out.trans (HR.out.trans (by rw [hr])))
        go_wp2
        go_ret
        exact ⟨ret_bool (by rw [HF2.out]; simp), hB3.trans (b4.mono hB3.size)⟩
      · cases hh : hasN l 1
        · go_wp2_with fail
          refine (riseT_any mi mb nx l _ _ hV3 hl).mono ?_
          rintro e w4 ⟨rfl, b4⟩
          rw [hr]
          have HF2 := Lib.hid (HF.out.trans (HR.out.trans (by rw [hr, hh])))
          go_wp2
          go_ret
          exact ⟨ret_bool (by rw [HF2.out]; simp), hB3.trans (b4.mono hB3.size)⟩
        · go_wp2_with fail
          refine (riseT_any mi mb nx l _ _ hV3 hl).mono ?_
          rintro e w4 ⟨rfl, b4⟩
          rw [hr]
          have s1 := (X3.next b4).six.1.2.1
          dsimp only at s1
          have HF2 := Lib.hid (HF.out.trans (HR.out.trans (by rw [hr, hh])))
          go_wp2
          go_ret
          exact ⟨ret_bool (by rw [HF2.out]; simp), hB3.trans (b4.mono hB3.size)⟩
end Go.Proofs.YtkdmfeikikmiiaaGreat
