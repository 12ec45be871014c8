/- Texts put together: May, WalkB04, WalkA07. -/
import Derived.Test.YtpeghnhaekebdaaQMWalkC05
import Derived.Test.YtpeghnhaekebdaaChecked
import Derived.Test.YtpeghnhaekebdaaQAnyOf
import Derived.Test.YtpeghnhaekebdaaQMSeq08
import Derived.Deep.Cut
import Derived.Test.YtpeghnhaekebdaaQWalkI05
import Derived.StillTailTactics
set_option linter.unusedVariables false
set_option linter.unusedSimpArgs false
/- May: the program's and the document's: a name that may be. (wip/src/may) -/
set_option linter.unusedVariables false
set_option linter.unusedSimpArgs false
namespace Go.Proofs.Ytpeghnhaekebdaa
open Go.RowKit

theorem mayB_hit (n : List UInt8) (h0 : n ≠ []) (h1 : n ≠ [46]) (h2 : n ≠ [46, 46]) (h3 : n.length ≤ 255) : mayB n = !n.any hitB := by
  have e0 : n.isEmpty = false := by simpa using h0
  have e1 : (n != [46]) = true := by simpa using h1
  have e2 : (n != [46, 46]) = true := by simpa using h2
  have key : n.any hitB = (n.contains 47 || n.contains 0) := by
    clear h0 h1 h2 h3 e0 e1 e2
    induction n with
    | nil => rfl
    | cons c n ih =>
      rw [List.any_cons, ih, List.contains_cons, List.contains_cons]
      unfold hitB
      rw [BEq.comm (a := c) (b := 47), BEq.comm (a := c) (b := 0)]
      cases (47 == c) <;> cases (0 == c) <;> cases n.contains 47 <;> cases n.contains 0 <;> rfl
  unfold mayB
  rw [e0, e1, e2, key, decide_eq_true h3]
  cases n.contains 47 <;> cases n.contains 0 <;> rfl

theorem any_hit_at {l : List UInt8} {k : Nat} (h : k < l.length) (hc : hitB l[k] = true) : mayB l = false := by
  by_cases h0 : l = []
  · subst h0; simp at h
  by_cases h1 : l = [46]
  · subst h1; rfl
  by_cases h2 : l = [46, 46]
  · subst h2; rfl
  by_cases h3 : l.length ≤ 255
  · rw [mayB_hit l h0 h1 h2 h3, hits_found h hc]; rfl
  · have : decide (l.length ≤ 255) = false := decide_eq_false h3
    unfold mayB; rw [this]; simp

set_option maxHeartbeats 1000000 in
theorem refMay_all (l : List UInt8) (w : World) (hl : l.length ≤ 9223372036854775807) :
    Calls Try.prog 52 #[.string ⟨l.toArray⟩] w fun e w' => e = .returned (.bool (mayB l)) ∧ w = w' := by
  go_enter Try.func52, Try.ntmps52
  go_wp2
  go_loop [3] (fun i => ∃ k : Nat, k ≤ l.length ∧ i = .int .i64 k ∧ Aside ((l.take k).any hitB = false)) (fun i => l.length - (intOf i).toNat)
  case atStart => exact ⟨0, Nat.zero_le _, rfl, by (show _ = _); simp⟩
  case round =>
    obtain ⟨k, hk, rfl, HT⟩ := hrel
    by_cases hlt : k < l.length
    · cases h47 : ((l[k].toNat : Int) == 47)
      · cases h00 : ((l[k].toNat : Int) == 0)
        · have hh : hitB l[k] = false := by
            unfold hitB
            rw [Bool.or_eq_false_iff, beq_eq_false_iff_ne, beq_eq_false_iff_ne]
            constructor
            · intro e; rw [e] at h47; exact absurd h47 (by decide)
            · intro e; rw [e] at h00; exact absurd h00 (by decide)
          have HT2 : Hid ((l.take (k + 1)).any hitB = false) := hits_next HT.out (by omega) (fun j hj a b => by
            obtain rfl : j = k := by omega
            exact hh)
          go_wp2
          go_round
          case rel => exact ⟨k + 1, by omega, by go_num, HT2.out⟩
          case measure => simp [intOf]; omega
        · have hh : hitB l[k] = true := by
            have : l[k] = 0 := UInt8.toNat_inj.1 (by simp at h00; simp; omega)
            rw [this]; rfl
          have HN := Lib.hid (any_hit_at hlt hh)
          go_wp2
          go_ret
          exact ⟨ret_bool (by rw [HN.out]), rfl⟩
      · have hh : hitB l[k] = true := by
          have : l[k] = 47 := UInt8.toNat_inj.1 (by simp at h47; simp; omega)
          rw [this]; rfl
        have HN := Lib.hid (any_hit_at hlt hh)
        go_wp2
        go_ret
        exact ⟨ret_bool (by rw [HN.out]), rfl⟩
    · obtain rfl : k = l.length := by omega
      have hno : l.any hitB = false := by have := HT.out; rwa [List.take_length] at this
      by_cases h0 : l = []
      · subst h0
        go_wp2
        go_ret
        exact ⟨rfl, rfl⟩
      by_cases h1 : l = [46]
      · subst h1
        go_wp2
        go_ret
        exact ⟨rfl, rfl⟩
      by_cases h2 : l = [46, 46]
      · subst h2
        go_wp2
        go_ret
        exact ⟨rfl, rfl⟩
      have hpos : 1 ≤ l.length := List.length_pos_iff.2 h0
      have e1 : (l == [46]) = false := by simpa using h1
      have e2 : (l == [46, 46]) = false := by simpa using h2
      by_cases h3 : l.length ≤ 255
      · have HM := Lib.hid ((mayB_hit l h0 h1 h2 h3).trans (by rw [hno]))
        clear h0 h1 h2 hno
        go_wp2
        go_ret
        exact ⟨ret_bool (by rw [HM.out]; rfl), rfl⟩
      · have HM : Hid (mayB l = false) := by
          have : decide (l.length ≤ 255) = false := decide_eq_false h3
          (show _ = _); unfold mayB; rw [this]; simp
        clear h0 h1 h2 hno
        go_wp2
        go_ret
        exact ⟨ret_bool (by rw [HM.out]), rfl⟩
theorem refMay_any (l : List UInt8) (w : World) (hl : l.length ≤ 1000000) :
    Calls Try.prog 52 #[.string ⟨l.toArray⟩] w fun e w' => e = .returned (.bool (mayB l)) ∧ w = w' := refMay_all l w (by omega)
end Go.Proofs.Ytpeghnhaekebdaa

/- Walks: Right, the program's and the document's. -/
set_option linter.unusedVariables false
set_option linter.unusedSimpArgs false
namespace Go.Proofs.Ytpeghnhaekebdaa
open Go.RowKit

theorem ent_bad {e : Ent} (h : mayB e.1 = false) : goodE e = false := by unfold goodE; rw [h]; rfl
theorem ent_low {e : Ent} (h : e.2 ≤ 0) : goodE e = false := by
  unfold goodE; rw [decide_eq_false (by omega), Bool.and_false]
theorem ent_good {e : Ent} (h : mayB e.1 = true) (h2 : 0 < e.2) : goodE e = true := by
  unfold goodE; rw [h, decide_eq_true h2]; rfl

set_option maxHeartbeats 1000000 in
theorem refRight_any (l : List Ent) (v : Value) (w : World) (hv : Ents w v l) (hsh : shortP 1000000 l) :
    Calls Try.prog 41 #[v] w fun e w' => e = .returned (.bool (rightB l)) ∧ Below w.heap.size w w' := by
  obtain ⟨a, ca, rfl, hc, hm, HA0⟩ := hv
  unfold maxLen at hm
  have HA := Lib.hid HA0
  clear HA0
  go_enter Try.func41, Try.ntmps41
  go_wp2
  go_loopw [3] (fun i wr => ∃ k : Nat, k ≤ l.length ∧ i = .int .i64 k ∧ Aside (rightP (l.take k)) ∧ Below w.heap.size w wr) (fun i _ => l.length - (intOf i).toNat)
  case atStart => exact ⟨0, Nat.zero_le _, rfl, by (show _ ∧ _); simp [rightP, sortP], Below.refl _ _⟩
  case round =>
    obtain ⟨k, hk, rfl, HT, hbA⟩ := hrel
    by_cases hlt : k < l.length
    · obtain ⟨b, o, rfl, hb, hcl⟩ := HA.out (by omega)
      have c1 : wr.cell? ⟨b, o + k * 2, none⟩ = some (.string ⟨l[k].1.toArray⟩) := (hbA.cell (p := ⟨b, o + k * 2, none⟩) hb).trans (hcl k hlt).1
      have c2 : wr.cell? ⟨b, o + k * 2 + 1, none⟩ = some (.int .i64 l[k].2) := (hbA.cell (p := ⟨b, o + k * 2 + 1, none⟩) hb).trans (hcl k hlt).2
      have hks := hsh _ (List.getElem_mem hlt)
      go_wp2_with fail; refine (refMay_any l[k].1 _ hks).mono ?_; rintro e w2 ⟨rfl, rfl⟩
      cases hmk : mayB l[k].1
      · have HN := Lib.hid (right_bad hlt (ent_bad hmk))
        go_wp2
        go_ret
        exact ⟨ret_bool HN.out.symm, hbA⟩
      · by_cases hp : l[k].2 < 1
        · have HN := Lib.hid (right_bad hlt (ent_low (by omega)))
          go_wp2
          go_ret
          exact ⟨ret_bool HN.out.symm, hbA⟩
        · have hg := ent_good hmk (by omega)
          by_cases h0 : k = 0
          · have HT2 := Lib.hid (right_next hlt HT.out hg (fun j hj h => by omega))
            have hk0 : decide (0 < k) = false := decide_eq_false (by omega)
            have HK0 := Lib.hid h0
            clear h0
            go_wp2
            go_quiet (fail)
            go_wp2
            go_roundw
            case rel => exact ⟨k + 1, by omega, by go_num, HT2.out, below_drewN hbA _⟩
            case measure => simp [intOf]; omega
          · have c0 : wr.cell? ⟨b, o + (k - 1) * 2, none⟩ = some (.string ⟨(l[k - 1]'(by omega)).1.toArray⟩) := (hbA.cell (p := ⟨b, o + (k - 1) * 2, none⟩) hb).trans (hcl (k - 1) (by omega)).1
            have k0 : decide (0 < k) = true := decide_eq_true (by omega)
            have k1 : (0 : Int) ≤ (k : Int) - 1 := by omega
            have k2 : (k : Int) - 1 < (l.length : Int) := by omega
            have k3 : ((k : Int) - 1).toNat = k - 1 := by omega
            clear hcl
            cases hl1 : ltB (l[k - 1]'(by omega)).1 l[k].1
            · have HN : Hid (rightB l = false) := by
                have := @right_unsorted l (k - 1) (by omega)
                simp only [show k - 1 + 1 = k from by omega] at this
                exact this hl1
              go_wp2
              go_quiet (fail)
              go_wp2
              go_ret
              exact ⟨ret_bool HN.out.symm, below_drewN hbA _⟩
            · have HT2 := Lib.hid (right_next hlt HT.out hg (fun j hj h => by
                obtain rfl : j = k - 1 := by omega
                exact hl1))
              go_wp2
              go_quiet (fail)
              go_wp2
              go_roundw
              case rel => exact ⟨k + 1, by omega, by go_num, HT2.out, below_drewN hbA _⟩
              case measure => simp [intOf]; omega
    · obtain rfl : k = l.length := by omega
      have HY := Lib.hid (right_end HT.out)
      go_wp2
      go_ret
      exact ⟨ret_bool HY.out.symm, hbA⟩
end Go.Proofs.Ytpeghnhaekebdaa

/- Walks: the document's rules 1, 2 and 3. -/
set_option linter.unusedVariables false
set_option linter.unusedSimpArgs false
namespace Go.Proofs.Ytpeghnhaekebdaa
open Go.RowKit

theorem first_no_lim {mi mb nx : Int} (l : List Nd) (h : limB mi mb nx = false) : firstB mi mb nx l = false := by simp [firstB, h]
theorem lim_no1 {mi mb nx : Int} (h : mi < 1) : limB mi mb nx = false := by unfold limB; rw [decide_eq_false (by omega)]; rfl
theorem lim_no2 {mi mb nx : Int} (h : mi > 1073741824) : limB mi mb nx = false := by unfold limB; rw [show decide (mi ≤ 1073741824) = false from decide_eq_false (by omega)]; simp
theorem lim_no3 {mi mb nx : Int} (h : mb < 0) : limB mi mb nx = false := by unfold limB; rw [show decide (0 ≤ mb) = false from decide_eq_false (by omega)]; simp
theorem lim_no4 {mi mb nx : Int} (h : mb > 1073741824) : limB mi mb nx = false := by unfold limB; rw [show decide (mb ≤ 1073741824) = false from decide_eq_false (by omega)]; simp
theorem lim_no5 {mi mb nx : Int} (h : nx > 1099511627776) : limB mi mb nx = false := by unfold limB; rw [show decide (nx ≤ 1099511627776) = false from decide_eq_false (by omega)]; simp
theorem lim_yes {mi mb nx : Int} (h1 : ¬ mi < 1) (h2 : ¬ mi > 1073741824) (h3 : ¬ mb < 0) (h4 : ¬ mb > 1073741824) (h5 : ¬ nx > 1099511627776) : limB mi mb nx = true := by
  unfold limB; simp; omega
theorem first_no_ino {mi mb nx : Int} {l : List Nd} {k : Nat} (h : k < l.length) (hx : inoB nx l[k] = false) : firstB mi mb nx l = false := by
  unfold firstB; rw [all_no h hx]; simp
theorem first_end {mi mb nx : Int} {l : List Nd} (h : limB mi mb nx = true) (ht : (l.take l.length).all (inoB nx) = true) : firstB mi mb nx l = rootB l := by
  unfold firstB; rw [h, allT_end ht]; rfl

set_option maxHeartbeats 4000000 in
set_option maxRecDepth 100000 in
theorem refFirst_any (mi mb nx : Int) (l : List Nd) (v : Value) (w : World) (hv : Nds w v l) (hl : l.length ≤ 1000000) :
    Calls Try.prog 27 #[.agg (fsC mi mb nx v)] w fun e w' => e = .returned (.bool (firstB mi mb nx l)) ∧ Below w.heap.size w w' := by
  obtain ⟨a, ca, rfl, hc, hm, hea, hna, HA0⟩ := id hv
  unfold maxLen at hm
  have HA := Lib.hid HA0
  have HV := Lib.hid hv
  clear HA0 hea hv
  have b0 := Blk.new w 24 (fsC mi mb nx (.slice a l.length ca))
  have hB0 := alloc_below w (.cells (fsC mi mb nx (.slice a l.length ca)) 24)
  obtain ⟨⟨p0, p1, p2, p3⟩, _⟩ := b0.four
  by_cases h1 : mi < 1
  · have HN := Lib.hid (first_no_lim l (lim_no1 (mb := mb) (nx := nx) h1))
    go_enter Try.func27, Try.ntmps27; go_wp2; go_ret; exact ⟨ret_bool (by rw [HN.out]), hB0⟩
  by_cases h2 : mi > 1073741824
  · have HN := Lib.hid (first_no_lim l (lim_no2 (mb := mb) (nx := nx) h2))
    go_enter Try.func27, Try.ntmps27; go_wp2; go_ret; exact ⟨ret_bool (by rw [HN.out]), hB0⟩
  by_cases h3 : mb < 0
  · have HN := Lib.hid (first_no_lim l (lim_no3 (mi := mi) (nx := nx) h3))
    go_enter Try.func27, Try.ntmps27; go_wp2; go_ret; exact ⟨ret_bool (by rw [HN.out]), hB0⟩
  by_cases h4 : mb > 1073741824
  · have HN := Lib.hid (first_no_lim l (lim_no4 (mi := mi) (nx := nx) h4))
    go_enter Try.func27, Try.ntmps27; go_wp2; go_ret; exact ⟨ret_bool (by rw [HN.out]), hB0⟩
  by_cases h5 : nx > 1099511627776
  · have HN := Lib.hid (first_no_lim l (lim_no5 (mi := mi) (mb := mb) h5))
    go_enter Try.func27, Try.ntmps27; go_wp2; go_ret; exact ⟨ret_bool (by rw [HN.out]), hB0⟩
  have HL := Lib.hid (lim_yes h1 h2 h3 h4 h5)
  go_enter Try.func27, Try.ntmps27
  go_wp2
  clear h1 h2 h3 h4 h5 p0 p1 p2 p3
  go_loopw [3] (fun s3 wr => ∃ k : Nat, k ≤ l.length ∧ s3 = .int .i64 k ∧ Aside ((l.take k).all (inoB nx) = true) ∧ Below w.heap.size w wr ∧ Aside (Blk wr w.heap.size 24 (fsC mi mb nx (.slice a l.length ca)))) (fun s3 _ => l.length - (intOf s3).toNat)
  case atStart => exact ⟨0, Nat.zero_le _, rfl, by (show _ = _); simp, hB0, b0⟩
  case round =>
    clear b0 hB0
    obtain ⟨k, hk, rfl, HT, hbw, HB⟩ := hrel
    obtain ⟨⟨p0, p1, p2, p3⟩, _⟩ := HB.out.four
    by_cases hlt : k < l.length
    · obtain ⟨b, o, rfl, hb, hcl⟩ := HA.out (by omega)
      obtain ⟨c0, c1, c2, c3, c4, c5⟩ := (hcl k hlt).below hbw hb
      clear hcl
      have hno : inoB nx l[k] = false → firstB mi mb nx l = false := first_no_ino hlt
      have hye : inoB nx l[k] = true → (l.take (k + 1)).all (inoB nx) = true := allT_next hlt HT.out
      generalize l[k] = y at *
      have HNO := Lib.hid hno
      have HYE := Lib.hid hye
      clear hno hye HT c1 c2 c3 c4 c5
      obtain ⟨yi, yk, yl, yd, yp, ye, yn⟩ := y
      dsimp only at c0
      have k0 : (0 : Int) ≤ (k : Int) := by omega
      have k1 : (k : Int) < (l.length : Int) := by omega
      by_cases h1 : yi < 1
      · have HN := Lib.hid (HNO.out (by unfold inoB; rw [decide_eq_false (by (show ¬ (1 ≤ yi)); omega)]; rfl))
        have hd1 : decide (yi < 1) = true := decide_eq_true h1
        clear HNO HYE h1
        go_wp2
        go_quiet (fail)
        go_wp2
        go_ret
        exact ⟨ret_bool (by rw [HN.out]), below_drewN hbw _⟩
      · have hd1 : decide (yi < 1) = false := decide_eq_false h1
        by_cases h2 : nx ≤ yi
        · have HN := Lib.hid (HNO.out (by unfold inoB; rw [show decide ((Nd.mk yi yk yl yd yp ye yn).ino < nx) = false from decide_eq_false (by (show ¬ (yi < nx)); omega), Bool.and_false]))
          have hd2 : decide (nx ≤ yi) = true := decide_eq_true h2
          clear HNO HYE h1 h2
          go_wp2
          go_quiet (fail)
          go_wp2
          go_ret
          exact ⟨ret_bool (by rw [HN.out]), below_drewN hbw _⟩
        · have HT2 := Lib.hid (HYE.out (by unfold inoB; rw [decide_eq_true (by (show 1 ≤ yi); omega), decide_eq_true (by (show yi < nx); omega)]; rfl))
          have hd2 : decide (nx ≤ yi) = false := decide_eq_false h2
          have HB2 : ∀ q, Blk (wr.drewN q) w.heap.size 24 (fsC mi mb nx (.slice (some ⟨b, o, none⟩) l.length ca)) := fun q => HB.out.below (below_drewN (Below.refl (w.heap.size + 1) wr) q) (Nat.lt_succ_self _)
          clear HNO HYE h1 h2
          go_wp2
          go_quiet (fail)
          go_wp2
          go_roundw
          case rel => exact ⟨k + 1, by omega, by go_num, HT2.out, below_drewN hbw _, HB2 _⟩
          case measure => simp [intOf]; omega
    · obtain rfl : k = l.length := by omega
      have HF := Lib.hid (first_end HL.out HT.out)
      have hnv := HV.out.below hbw
      have hge := get_ents hnv.all 1
      have HR : Hid (rootB l = (riseN l && hasN l 1 && ((getN l 1).kind == 2))) := rfl
      have hG := refGetT_any mi mb nx 1 l _ _ hnv
      generalize getN l 1 = G at *
      obtain ⟨gi, gk, gl, gd, gp, ge, gn⟩ := G
      dsimp only at hge HR
      obtain ⟨ag, cg, rfl, _⟩ := id hge
      go_wp2_with fail
      refine hG.mono ?_
      rintro e w2 ⟨rfl, b2⟩
      clear hG HT
      have B2 := HB.out.next b2
      have b3 := b2.trans ((alloc_below w2 (.cells (ndC ⟨gi, gk, gl, gd, gp, .slice ag gn.length cg, gn⟩) 33)).mono b2.size)
      have B3 := B2.alloc (.cells (ndC ⟨gi, gk, gl, gd, gp, .slice ag gn.length cg, gn⟩) 33)
      have X3 := Blk.new w2 33 (ndC ⟨gi, gk, gl, gd, gp, .slice ag gn.length cg, gn⟩)
      clear p0 p1 p2 p3
      obtain ⟨⟨p0, p1, p2, p3⟩, _⟩ := B3.four
      have hV3 := hnv.below b3
      have hB3 := hbw.trans (b3.mono hbw.size)
      cases hr : riseN l
      · go_wp2_with fail
        refine (riseT_any mi mb nx l _ _ hV3 hl).mono ?_
        rintro e w4 ⟨rfl, b4⟩
        rw [hr]
        have HF2 := Lib.hid (HF.out.trans (HR.out.trans (by rw [hr])))
        go_wp2
        go_ret
        exact ⟨ret_bool (by rw [HF2.out]; simp), hB3.trans (b4.mono hB3.size)⟩
      · cases hh : hasN l 1
        · go_wp2_with fail
          refine (riseT_any mi mb nx l _ _ hV3 hl).mono ?_
          rintro e w4 ⟨rfl, b4⟩
          rw [hr]
          have HF2 := Lib.hid (HF.out.trans (HR.out.trans (by rw [hr, hh])))
          go_wp2
          go_ret
          exact ⟨ret_bool (by rw [HF2.out]; simp), hB3.trans (b4.mono hB3.size)⟩
        · go_wp2_with fail
          refine (riseT_any mi mb nx l _ _ hV3 hl).mono ?_
          rintro e w4 ⟨rfl, b4⟩
          rw [hr]
          have s1 := (X3.next b4).six.1.2.1
          dsimp only at s1
          have HF2 := Lib.hid (HF.out.trans (HR.out.trans (by rw [hr, hh])))
          go_wp2
          go_ret
          exact ⟨ret_bool (by rw [HF2.out]; simp), hB3.trans (b4.mono hB3.size)⟩
end Go.Proofs.Ytpeghnhaekebdaa
