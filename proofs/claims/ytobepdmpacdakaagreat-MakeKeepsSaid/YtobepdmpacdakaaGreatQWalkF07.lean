/- Walks: the document's Check and Ok. -/
import Derived.Test.YtobepdmpacdakaaGreatQWalkE07
import Derived.Test.YtobepdmpacdakaaGreatQWalkA06
set_option linter.unusedVariables false
set_option linter.unusedSimpArgs false
namespace Go.Proofs.YtobepdmpacdakaaGreat
open Go.RowKit

theorem check1 {mi mb nx : Int} {l : List Nd} (h1 : firstB mi mb nx l = false) : checkN mi mb nx l = 1 := by unfold checkN; rw [if_pos h1]
theorem check2 {mi mb nx : Int} {l : List Nd} (h1 : firstB mi mb nx l = true) (h2 : secondB l = false) : checkN mi mb nx l = 2 := by unfold checkN; rw [if_neg (by simp [h1]), if_pos h2]
theorem check3 {mi mb nx : Int} {l : List Nd} (h1 : firstB mi mb nx l = true) (h2 : secondB l = true) (h3 : thirdB l = false) : checkN mi mb nx l = 3 := by unfold checkN; rw [if_neg (by simp [h1]), if_neg (by simp [h2]), if_pos h3]
theorem check4 {mi mb nx : Int} {l : List Nd} (h1 : firstB mi mb nx l = true) (h2 : secondB l = true) (h3 : thirdB l = true) (h4 : fourthB l = false) : checkN mi mb nx l = 4 := by unfold checkN; rw [if_neg (by simp [h1]), if_neg (by simp [h2]), if_neg (by simp [h3]), if_pos h4]
theorem check5 {mi mb nx : Int} {l : List Nd} (h1 : firstB mi mb nx l = true) (h2 : secondB l = true) (h3 : thirdB l = true) (h4 : fourthB l = true) (h5 : fifthB l = false) : checkN mi mb nx l = 5 := by unfold checkN; rw [if_neg (by simp [h1]), if_neg (by simp [h2]), if_neg (by simp [h3]), if_neg (by simp [h4]), if_pos h5]
theorem check6 {mi mb nx : Int} {l : List Nd} (h1 : firstB mi mb nx l = true) (h2 : secondB l = true) (h3 : thirdB l = true) (h4 : fourthB l = true) (h5 : fifthB l = true) (h6 : fitsB mi mb l 0 0 = false) : checkN mi mb nx l = 6 := by unfold checkN; rw [if_neg (by simp [h1]), if_neg (by simp [h2]), if_neg (by simp [h3]), if_neg (by simp [h4]), if_neg (by simp [h5]), if_pos h6]
theorem check0 {mi mb nx : Int} {l : List Nd} (h1 : firstB mi mb nx l = true) (h2 : secondB l = true) (h3 : thirdB l = true) (h4 : fourthB l = true) (h5 : fifthB l = true) (h6 : fitsB mi mb l 0 0 = true) : checkN mi mb nx l = 0 := by unfold checkN; rw [if_neg (by simp [h1]), if_neg (by simp [h2]), if_neg (by simp [h3]), if_neg (by simp [h4]), if_neg (by simp [h5]), if_neg (by simp [h6])]

set_option maxHeartbeats 4000000 in
theorem refCheck_any (mi mb nx : Int) (l : List Nd) (v : Value) (w : World) (hv : Nds w v l) (hl : l.length ≤ 1000000) (hsh : ∀ x ∈ l, shortP 1000000 x.ents ∧ x.data.length ≤ 281474976710656) (hp : (pairsN l).length ≤ 1000000000000) (hb : bytesN l ≤ 1099511627776) :
    Calls Tryz.prog 22 #[.agg (fsC mi mb nx v)] w fun e w' => e = .returned (.int .i64 (checkN mi mb nx l)) ∧ Below w.heap.size w w' := by
  obtain ⟨a, ca, rfl⟩ := nds_slice hv
  have bF := Blk.new w 24 (fsC mi mb nx (.slice a l.length ca))
  have hB := alloc_below w (.cells (fsC mi mb nx (.slice a l.length ca)) 24)
  have nV := hv.below hB
  clear hv
  cases h1 : firstB mi mb nx l
  · have HN := Lib.hid (check1 h1)
    go_enter Tryz.func22, Tryz.ntmps22
    (obtain ⟨⟨p0, p1, p2, p3⟩, _⟩ := bF.four); (go_wp2_with fail; refine (refFirst_any mi mb nx l _ _ nV hl).mono ?_; rintro e wz ⟨rfl, bz⟩); ((replace bF := bF.next bz; replace nV := nV.below bz; replace hB := hB.trans (bz.mono hB.size))); rw [h1]; clear p0 p1 p2 p3 bz
    go_wp2; go_ret; exact ⟨by rw [HN.out]; rfl, hB⟩
  cases h2 : secondB l
  · have HN := Lib.hid (check2 h1 h2)
    go_enter Tryz.func22, Tryz.ntmps22
    (obtain ⟨⟨p0, p1, p2, p3⟩, _⟩ := bF.four); (go_wp2_with fail; refine (refFirst_any mi mb nx l _ _ nV hl).mono ?_; rintro e wz ⟨rfl, bz⟩); ((replace bF := bF.next bz; replace nV := nV.below bz; replace hB := hB.trans (bz.mono hB.size))); rw [h1]; clear p0 p1 p2 p3 bz
    (obtain ⟨⟨p0, p1, p2, p3⟩, _⟩ := bF.four); (go_wp2_with fail; refine (refSecond_any mi mb nx l _ _ nV hl hsh).mono ?_; rintro e wz ⟨rfl, bz⟩); ((replace bF := bF.next bz; replace nV := nV.below bz; replace hB := hB.trans (bz.mono hB.size))); rw [h2]; clear p0 p1 p2 p3 bz
    go_wp2; go_ret; exact ⟨by rw [HN.out]; rfl, hB⟩
  cases h3 : thirdB l
  · have HN := Lib.hid (check3 h1 h2 h3)
    go_enter Tryz.func22, Tryz.ntmps22
    (obtain ⟨⟨p0, p1, p2, p3⟩, _⟩ := bF.four); (go_wp2_with fail; refine (refFirst_any mi mb nx l _ _ nV hl).mono ?_; rintro e wz ⟨rfl, bz⟩); ((replace bF := bF.next bz; replace nV := nV.below bz; replace hB := hB.trans (bz.mono hB.size))); rw [h1]; clear p0 p1 p2 p3 bz
    (obtain ⟨⟨p0, p1, p2, p3⟩, _⟩ := bF.four); (go_wp2_with fail; refine (refSecond_any mi mb nx l _ _ nV hl hsh).mono ?_; rintro e wz ⟨rfl, bz⟩); ((replace bF := bF.next bz; replace nV := nV.below bz; replace hB := hB.trans (bz.mono hB.size))); rw [h2]; clear p0 p1 p2 p3 bz
    (obtain ⟨⟨p0, p1, p2, p3⟩, _⟩ := bF.four); (go_wp2_with fail; refine (refThird_any mi mb nx l _ _ nV hl).mono ?_; rintro e wz ⟨rfl, bz⟩); ((replace bF := bF.next bz; replace nV := nV.below bz; replace hB := hB.trans (bz.mono hB.size))); rw [h3]; clear p0 p1 p2 p3 bz
    go_wp2; go_ret; exact ⟨by rw [HN.out]; rfl, hB⟩
  cases h4 : fourthB l
  · have HN := Lib.hid (check4 h1 h2 h3 h4)
    go_enter Tryz.func22, Tryz.ntmps22
    (obtain ⟨⟨p0, p1, p2, p3⟩, _⟩ := bF.four); (go_wp2_with fail; refine (refFirst_any mi mb nx l _ _ nV hl).mono ?_; rintro e wz ⟨rfl, bz⟩); ((replace bF := bF.next bz; replace nV := nV.below bz; replace hB := hB.trans (bz.mono hB.size))); rw [h1]; clear p0 p1 p2 p3 bz
    (obtain ⟨⟨p0, p1, p2, p3⟩, _⟩ := bF.four); (go_wp2_with fail; refine (refSecond_any mi mb nx l _ _ nV hl hsh).mono ?_; rintro e wz ⟨rfl, bz⟩); ((replace bF := bF.next bz; replace nV := nV.below bz; replace hB := hB.trans (bz.mono hB.size))); rw [h2]; clear p0 p1 p2 p3 bz
    (obtain ⟨⟨p0, p1, p2, p3⟩, _⟩ := bF.four); (go_wp2_with fail; refine (refThird_any mi mb nx l _ _ nV hl).mono ?_; rintro e wz ⟨rfl, bz⟩); ((replace bF := bF.next bz; replace nV := nV.below bz; replace hB := hB.trans (bz.mono hB.size))); rw [h3]; clear p0 p1 p2 p3 bz
    (obtain ⟨⟨p0, p1, p2, p3⟩, _⟩ := bF.four); (go_wp2_with fail; refine (refFourth_any mi mb nx l _ _ nV hl hp).mono ?_; rintro e wz ⟨rfl, bz⟩); ((replace bF := bF.next bz; replace nV := nV.below bz; replace hB := hB.trans (bz.mono hB.size))); rw [h4]; clear p0 p1 p2 p3 bz
    go_wp2; go_ret; exact ⟨by rw [HN.out]; rfl, hB⟩
  cases h5 : fifthB l
  · have HN := Lib.hid (check5 h1 h2 h3 h4 h5)
    go_enter Tryz.func22, Tryz.ntmps22
    (obtain ⟨⟨p0, p1, p2, p3⟩, _⟩ := bF.four); (go_wp2_with fail; refine (refFirst_any mi mb nx l _ _ nV hl).mono ?_; rintro e wz ⟨rfl, bz⟩); ((replace bF := bF.next bz; replace nV := nV.below bz; replace hB := hB.trans (bz.mono hB.size))); rw [h1]; clear p0 p1 p2 p3 bz
    (obtain ⟨⟨p0, p1, p2, p3⟩, _⟩ := bF.four); (go_wp2_with fail; refine (refSecond_any mi mb nx l _ _ nV hl hsh).mono ?_; rintro e wz ⟨rfl, bz⟩); ((replace bF := bF.next bz; replace nV := nV.below bz; replace hB := hB.trans (bz.mono hB.size))); rw [h2]; clear p0 p1 p2 p3 bz
    (obtain ⟨⟨p0, p1, p2, p3⟩, _⟩ := bF.four); (go_wp2_with fail; refine (refThird_any mi mb nx l _ _ nV hl).mono ?_; rintro e wz ⟨rfl, bz⟩); ((replace bF := bF.next bz; replace nV := nV.below bz; replace hB := hB.trans (bz.mono hB.size))); rw [h3]; clear p0 p1 p2 p3 bz
    (obtain ⟨⟨p0, p1, p2, p3⟩, _⟩ := bF.four); (go_wp2_with fail; refine (refFourth_any mi mb nx l _ _ nV hl hp).mono ?_; rintro e wz ⟨rfl, bz⟩); ((replace bF := bF.next bz; replace nV := nV.below bz; replace hB := hB.trans (bz.mono hB.size))); rw [h4]; clear p0 p1 p2 p3 bz
    (obtain ⟨⟨p0, p1, p2, p3⟩, _⟩ := bF.four); (go_wp2_with fail; refine (refFifth_any mi mb nx l _ _ nV hl h3 (first_has h1)).mono ?_; rintro e wz ⟨rfl, bz⟩); ((replace bF := bF.next bz; replace nV := nV.below bz; replace hB := hB.trans (bz.mono hB.size))); rw [h5]; clear p0 p1 p2 p3 bz
    go_wp2; go_ret; exact ⟨by rw [HN.out]; rfl, hB⟩
  cases h6 : fitsB mi mb l 0 0
  · have HN := Lib.hid (check6 h1 h2 h3 h4 h5 h6)
    go_enter Tryz.func22, Tryz.ntmps22
    (obtain ⟨⟨p0, p1, p2, p3⟩, _⟩ := bF.four); (go_wp2_with fail; refine (refFirst_any mi mb nx l _ _ nV hl).mono ?_; rintro e wz ⟨rfl, bz⟩); ((replace bF := bF.next bz; replace nV := nV.below bz; replace hB := hB.trans (bz.mono hB.size))); rw [h1]; clear p0 p1 p2 p3 bz
    (obtain ⟨⟨p0, p1, p2, p3⟩, _⟩ := bF.four); (go_wp2_with fail; refine (refSecond_any mi mb nx l _ _ nV hl hsh).mono ?_; rintro e wz ⟨rfl, bz⟩); ((replace bF := bF.next bz; replace nV := nV.below bz; replace hB := hB.trans (bz.mono hB.size))); rw [h2]; clear p0 p1 p2 p3 bz
    (obtain ⟨⟨p0, p1, p2, p3⟩, _⟩ := bF.four); (go_wp2_with fail; refine (refThird_any mi mb nx l _ _ nV hl).mono ?_; rintro e wz ⟨rfl, bz⟩); ((replace bF := bF.next bz; replace nV := nV.below bz; replace hB := hB.trans (bz.mono hB.size))); rw [h3]; clear p0 p1 p2 p3 bz
    (obtain ⟨⟨p0, p1, p2, p3⟩, _⟩ := bF.four); (go_wp2_with fail; refine (refFourth_any mi mb nx l _ _ nV hl hp).mono ?_; rintro e wz ⟨rfl, bz⟩); ((replace bF := bF.next bz; replace nV := nV.below bz; replace hB := hB.trans (bz.mono hB.size))); rw [h4]; clear p0 p1 p2 p3 bz
    (obtain ⟨⟨p0, p1, p2, p3⟩, _⟩ := bF.four); (go_wp2_with fail; refine (refFifth_any mi mb nx l _ _ nV hl h3 (first_has h1)).mono ?_; rintro e wz ⟨rfl, bz⟩); ((replace bF := bF.next bz; replace nV := nV.below bz; replace hB := hB.trans (bz.mono hB.size))); rw [h5]; clear p0 p1 p2 p3 bz
    (obtain ⟨⟨p0, p1, p2, p3⟩, _⟩ := bF.four); (go_wp2_with fail; refine (refFits_any mi mb nx 0 0 l _ _ nV hl hb (by decide) (by decide)).mono ?_; rintro e wz ⟨rfl, bz⟩); ((replace bF := bF.next bz; replace nV := nV.below bz; replace hB := hB.trans (bz.mono hB.size))); rw [h6]; clear p0 p1 p2 p3 bz
    go_wp2; go_ret; exact ⟨by rw [HN.out]; rfl, hB⟩
  · have HN := Lib.hid (check0 h1 h2 h3 h4 h5 h6)
    go_enter Tryz.func22, Tryz.ntmps22
    (obtain ⟨⟨p0, p1, p2, p3⟩, _⟩ := bF.four); (go_wp2_with fail; refine (refFirst_any mi mb nx l _ _ nV hl).mono ?_; rintro e wz ⟨rfl, bz⟩); ((replace bF := bF.next bz; replace nV := nV.below bz; replace hB := hB.trans (bz.mono hB.size))); rw [h1]; clear p0 p1 p2 p3 bz
    (obtain ⟨⟨p0, p1, p2, p3⟩, _⟩ := bF.four); (go_wp2_with fail; refine (refSecond_any mi mb nx l _ _ nV hl hsh).mono ?_; rintro e wz ⟨rfl, bz⟩); ((replace bF := bF.next bz; replace nV := nV.below bz; replace hB := hB.trans (bz.mono hB.size))); rw [h2]; clear p0 p1 p2 p3 bz
    (obtain ⟨⟨p0, p1, p2, p3⟩, _⟩ := bF.four); (go_wp2_with fail; refine (refThird_any mi mb nx l _ _ nV hl).mono ?_; rintro e wz ⟨rfl, bz⟩); ((replace bF := bF.next bz; replace nV := nV.below bz; replace hB := hB.trans (bz.mono hB.size))); rw [h3]; clear p0 p1 p2 p3 bz
    (obtain ⟨⟨p0, p1, p2, p3⟩, _⟩ := bF.four); (go_wp2_with fail; refine (refFourth_any mi mb nx l _ _ nV hl hp).mono ?_; rintro e wz ⟨rfl, bz⟩); ((replace bF := bF.next bz; replace nV := nV.below bz; replace hB := hB.trans (bz.mono hB.size))); rw [h4]; clear p0 p1 p2 p3 bz
    (obtain ⟨⟨p0, p1, p2, p3⟩, _⟩ := bF.four); (go_wp2_with fail; refine (refFifth_any mi mb nx l _ _ nV hl h3 (first_has h1)).mono ?_; rintro e wz ⟨rfl, bz⟩); ((replace bF := bF.next bz; replace nV := nV.below bz; replace hB := hB.trans (bz.mono hB.size))); rw [h5]; clear p0 p1 p2 p3 bz
    (obtain ⟨⟨p0, p1, p2, p3⟩, _⟩ := bF.four); (go_wp2_with fail; refine (refFits_any mi mb nx 0 0 l _ _ nV hl hb (by decide) (by decide)).mono ?_; rintro e wz ⟨rfl, bz⟩); ((replace bF := bF.next bz; replace nV := nV.below bz; replace hB := hB.trans (bz.mono hB.size))); rw [h6]; clear p0 p1 p2 p3 bz
    go_wp2; go_ret; exact ⟨by rw [HN.out]; rfl, hB⟩

theorem few_ok {l : List Nd} (h : fewN l = true) : l.length ≤ 1000000 ∧ (∀ x ∈ l, shortP 1000000 x.ents ∧ x.data.length ≤ 281474976710656) ∧ (pairsN l).length ≤ 1000000000000 ∧ bytesN l ≤ 1099511627776 := by
  have hsm := fewN_small h
  unfold fewN at h
  rw [Bool.and_eq_true, List.all_eq_true] at h
  have hx : ∀ x ∈ l, x.ents.length ≤ 40 ∧ shortP 300 x.ents := by
    intro x hx
    have := h.2 x hx
    unfold fewX at this
    simp only [Bool.and_eq_true, decide_eq_true_eq, List.all_eq_true] at this
    exact ⟨this.1.2, this.2⟩
  have h1 := pairs_len l (m := 40) (fun x hm => (hx x hm).1)
  have h2 := bytesN_few hsm.2
  have h3 : l.length * 40 ≤ 40 * 40 := Nat.mul_le_mul_right _ hsm.1
  have h4 : l.length * 5000 ≤ 40 * 5000 := Nat.mul_le_mul_right _ hsm.1
  refine ⟨by omega, fun x hm => ⟨fun e he => Nat.le_trans ((hx x hm).2 e he) (by decide), Nat.le_trans (hsm.2 x hm) (by decide)⟩, by omega, by omega⟩

set_option maxHeartbeats 4000000 in
theorem refOk_any (mi mb nx : Int) (l : List Nd) (v : Value) (w : World) (hv : Nds w v l) :
    Calls Tryz.prog 25 #[.agg (fsC mi mb nx v)] w fun e w' => e = .returned (.bool (okB mi mb nx l)) ∧ Below w.heap.size w w' := by
  obtain ⟨a, ca, rfl⟩ := nds_slice hv
  have bF := Blk.new w 24 (fsC mi mb nx (.slice a l.length ca))
  have hB := alloc_below w (.cells (fsC mi mb nx (.slice a l.length ca)) 24)
  have nV := hv.below hB
  clear hv
  have HK : Hid (okB mi mb nx l = (fewN l && decide (checkN mi mb nx l = 0))) := rfl
  cases hf : fewN l
  · go_enter Tryz.func25, Tryz.ntmps25
    obtain ⟨⟨p0, p1, p2, p3⟩, _⟩ := bF.four
    go_wp2_with fail; refine (fewT_any mi mb nx l _ _ nV).mono ?_; rintro e w2 ⟨rfl, b2⟩
    (replace bF := bF.next b2; replace nV := nV.below b2; replace hB := hB.trans (b2.mono hB.size))
    rw [hf]
    clear p0 p1 p2 p3
    go_wp2
    go_ret
    exact ⟨ret_bool (by rw [HK.out, hf]; rfl), hB⟩
  obtain ⟨q1, q2, q3, q4⟩ := few_ok hf
  go_enter Tryz.func25, Tryz.ntmps25
  obtain ⟨⟨p0, p1, p2, p3⟩, _⟩ := bF.four
  go_wp2_with fail; refine (fewT_any mi mb nx l _ _ nV).mono ?_; rintro e w2 ⟨rfl, b2⟩
  (replace bF := bF.next b2; replace nV := nV.below b2; replace hB := hB.trans (b2.mono hB.size))
  rw [hf]
  clear p0 p1 p2 p3
  obtain ⟨⟨p0, p1, p2, p3⟩, _⟩ := bF.four
  go_wp2_with fail; refine (refCheck_any mi mb nx l _ _ nV q1 q2 q3 q4).mono ?_; rintro e w3 ⟨rfl, b3⟩
  (replace bF := bF.next b3; replace nV := nV.below b3; replace hB := hB.trans (b3.mono hB.size))
  generalize hc : checkN mi mb nx l = c at *
  clear p0 p1 p2 p3
  go_wp2
  go_ret
  exact ⟨ret_bool (by rw [HK.out, hf, Bool.true_and, Bool.eq_iff_iff]; simp), hB⟩
end Go.Proofs.YtobepdmpacdakaaGreat
