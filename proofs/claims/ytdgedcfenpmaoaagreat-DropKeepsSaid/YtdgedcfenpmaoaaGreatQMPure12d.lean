/- Texts put together: WalkG05, WalkH05, Pure12d. -/
import Derived.Test.YtdgedcfenpmaoaaGreatQMWalkH04
import Derived.Test.YtdgedcfenpmaoaaGreatQMWalkD05
import Derived.StillTailTactics
set_option linter.unusedVariables false
set_option linter.unusedSimpArgs false
/- Walks: are inodes, lists of inodes, tables alike: the document's and the program's. -/
set_option linter.unusedVariables false
set_option linter.unusedSimpArgs false
namespace Go.Proofs.YtdgedcfenpmaoaaGreat
open Go.RowKit

set_option maxHeartbeats 2000000 in
theorem refOne_any (x y : Nd) (w : World) (hx : Ents w x.ev x.ents) (hy : Ents w y.ev y.ents) :
    Calls Tryz.prog 66 #[.agg (ndC x), .agg (ndC y)] w fun e w' => e = .returned (.bool (oneB x y)) ∧ Below w.heap.size w w' := by
  have hB : Below w.heap.size w ((w.alloc (.cells (ndC x) 42)).alloc (.cells (ndC y) 42)) := ((Below.refl _ w).alloc (Nat.le_refl _) _).alloc (by simp) _
  have hx2 := hx.below hB
  have hy2 := hy.below hB
  clear hx hy
  obtain ⟨xi, xk, xl, xd, xp, xe, xn⟩ := x
  obtain ⟨yi, yk, yl, yd, yp, ye, yn⟩ := y
  dsimp only at hx2 hy2
  obtain ⟨a, ca, rfl, _⟩ := id hx2
  obtain ⟨b, cb, rfl, _⟩ := id hy2
  cases h1 : (xi == yi) with | false => (have HN := Lib.hid (oneB_no1 (a := ⟨xi, xk, xl, xd, xp, .slice a xn.length ca, xn⟩) (b := ⟨yi, yk, yl, yd, yp, .slice b yn.length cb, yn⟩) h1); go_enter Tryz.func66, Tryz.ntmps66; go_wp2; go_ret; exact ⟨ret_bool (by rw [HN.out]), hB⟩) | true => (cases h2 : (xk == yk) with | false => (have HN := Lib.hid (oneB_no2 (a := ⟨xi, xk, xl, xd, xp, .slice a xn.length ca, xn⟩) (b := ⟨yi, yk, yl, yd, yp, .slice b yn.length cb, yn⟩) h2); go_enter Tryz.func66, Tryz.ntmps66; go_wp2; go_ret; exact ⟨ret_bool (by rw [HN.out]), hB⟩) | true => (cases h3 : (xl == yl) with | false => (have HN := Lib.hid (oneB_no3 (a := ⟨xi, xk, xl, xd, xp, .slice a xn.length ca, xn⟩) (b := ⟨yi, yk, yl, yd, yp, .slice b yn.length cb, yn⟩) h3); go_enter Tryz.func66, Tryz.ntmps66; go_wp2; go_ret; exact ⟨ret_bool (by rw [HN.out]), hB⟩) | true => (cases h4 : (xd == yd) with | false => (have HN := Lib.hid (oneB_no4 (a := ⟨xi, xk, xl, xd, xp, .slice a xn.length ca, xn⟩) (b := ⟨yi, yk, yl, yd, yp, .slice b yn.length cb, yn⟩) h4); go_enter Tryz.func66, Tryz.ntmps66; go_wp2; go_ret; exact ⟨ret_bool (by rw [HN.out]), hB⟩) | true => (cases h5 : (xp == yp) with | false => (have HN := Lib.hid (oneB_no5 (a := ⟨xi, xk, xl, xd, xp, .slice a xn.length ca, xn⟩) (b := ⟨yi, yk, yl, yd, yp, .slice b yn.length cb, yn⟩) h5); go_enter Tryz.func66, Tryz.ntmps66; go_wp2; go_ret; exact ⟨ret_bool (by rw [HN.out]), hB⟩) | true => (have HN := Lib.hid (oneB_ents (a := ⟨xi, xk, xl, xd, xp, .slice a xn.length ca, xn⟩) (b := ⟨yi, yk, yl, yd, yp, .slice b yn.length cb, yn⟩) h1 h2 h3 h4 h5); go_enter Tryz.func66, Tryz.ntmps66; go_wp2_with fail; refine (refSame_any xn yn _ _ _ hx2 hy2).mono ?_; rintro e w2 ⟨rfl, b2⟩; go_wp2; go_ret; exact ⟨ret_bool (by rw [HN.out]), hB.trans (b2.mono hB.size)⟩)))))

end Go.Proofs.YtdgedcfenpmaoaaGreat

/- Walks: are lists of inodes, tables alike. -/
set_option linter.unusedVariables false
set_option linter.unusedSimpArgs false
namespace Go.Proofs.YtdgedcfenpmaoaaGreat
open Go.RowKit

set_option maxHeartbeats 2000000 in
set_option maxRecDepth 100000 in
theorem refOnes_any (la lb : List Nd) (va vb : Value) (w : World) (ha : Nds w va la) (hb : Nds w vb lb) :
    Calls Tryz.prog 35 #[va, vb] w fun e w' => e = .returned (.bool (onesB la lb)) ∧ Below w.heap.size w w' := by
  obtain ⟨a, ca, rfl, hca, hma, hea, _, HA⟩ := ha
  obtain ⟨b, cb, rfl, hcb, hmb, heb, _, HB⟩ := hb
  unfold maxLen at hma hmb
  by_cases hl : la.length = lb.length
  · have HA' := Lib.hid HA
    have HB' := Lib.hid HB
    have HEA := Lib.hid hea
    have HEB := Lib.hid heb
    clear HA HB hea heb
    have hne : ((la.length : Int) != (lb.length : Int)) = false := by simp; omega
    have HL := Lib.hid hl
    have hl2 : la.length ≤ lb.length := by omega
    clear hl
    go_enter Tryz.func35, Tryz.ntmps35
    go_wp2
    go_loopw [5] (fun i wr => ∃ k : Nat, k ≤ la.length ∧ i = .int .i64 k ∧ Aside ((la.take k).map Nd.key = (lb.take k).map Nd.key) ∧ Below w.heap.size w wr) (fun i _ => la.length - (intOf i).toNat)
    case atStart => exact ⟨0, Nat.zero_le _, rfl, rfl, Below.refl _ _⟩
    case round =>
      obtain ⟨k, hk, rfl, HT, hbw⟩ := hrel
      by_cases hlt : k < la.length
      · have hltb : k < lb.length := by omega
        obtain ⟨ba, oa, rfl, hba, hxa⟩ := HA'.out (by omega)
        obtain ⟨bb, ob, rfl, hbb, hxb⟩ := HB'.out (by omega)
        obtain ⟨c0, c1, c2, c3, c4, c5⟩ := (hxa k hlt).below hbw hba
        obtain ⟨d0, d1, d2, d3, d4, d5⟩ := (hxb k hltb).below hbw hbb
        clear hxa hxb
        have k0 : (0 : Int) ≤ (k : Int) := by omega
        have k1 : (k : Int) < (la.length : Int) := by omega
        have k2 : (k : Int) < (lb.length : Int) := by omega
        go_upto_region 6 with fail
        go_still_tail 8, (by kernel_rfl)
        change wpList _ _ _ _ _ wr.drew
        generalize hwd : wr.drew = w2
        have hB2 : Below w.heap.size w w2 := by rw [← hwd]; exact hbw.drew
        have hea := HEA.out.below hB2
        have heb := HEB.out.below hB2
        clear hwd c0 c1 c2 c3 c4 c5 d0 d1 d2 d3 d4 d5
        go_wp2_with fail
        refine (refOne_any la[k] lb[k] _ (hea _ (List.getElem_mem hlt)) (heb _ (List.getElem_mem hltb))).mono ?_
        rintro e w3 ⟨rfl, b3⟩
        have hB3 := hB2.trans (b3.mono hB2.size)
        clear hea heb hB2 b3
        cases ho : oneB la[k] lb[k]
        · have HN := Lib.hid (onesB_no hlt hltb ho)
          go_wp2
          go_ret
          exact ⟨ret_bool (by rw [HN.out]), hB3⟩
        · have HT2 := Lib.hid (onesB_next hlt hltb HT.out ho)
          go_wp2
          go_roundw
          case rel => exact ⟨k + 1, by omega, by go_num, HT2.out, hB3⟩
          case measure => simp [intOf]; omega
      · obtain rfl : k = la.length := by omega
        have HN := Lib.hid (onesB_end HL.out HT.out)
        clear HT
        go_wp2
        go_ret
        exact ⟨ret_bool (by rw [HN.out]), hbw⟩
  · have hne : ((la.length : Int) != (lb.length : Int)) = true := by rw [bne_iff_ne]; omega
    have HN := Lib.hid (onesB_len hl)
    clear HA HB hea heb
    go_enter Tryz.func35, Tryz.ntmps35
    go_wp2
    go_ret
    exact ⟨ret_bool (by rw [HN.out]), Below.refl _ _⟩

/-- Are two tables alike? -/
def tabB (ma ba na : Int) (la : List Nd) (mb bb nb : Int) (lb : List Nd) : Bool := (ma == mb) && (ba == bb) && (na == nb) && onesB la lb
theorem tabB_refl (m b n : Int) (l : List Nd) : tabB m b n l m b n l = true := by simp [tabB, onesB_refl]

theorem refTab_any (ma ba na mb bb nb : Int) (la lb : List Nd) (va vb : Value) (w : World) (ha : Nds w va la) (hb : Nds w vb lb) :
    Calls Tryz.prog 13 #[.agg (fsC ma ba na va), .agg (fsC mb bb nb vb)] w fun e w' => e = .returned (.bool (tabB ma ba na la mb bb nb lb)) ∧ Below w.heap.size w w' := by
  obtain ⟨a, ca, rfl, _⟩ := id ha
  obtain ⟨b, cb, rfl, _⟩ := id hb
  have hB : Below w.heap.size w ((w.alloc (.cells (fsC ma ba na (.slice a la.length ca)) 24)).alloc (.cells (fsC mb bb nb (.slice b lb.length cb)) 24)) := ((Below.refl _ w).alloc (Nat.le_refl _) _).alloc (by simp) _
  have ha2 := ha.below hB
  have hb2 := hb.below hB
  clear ha hb
  cases h1 : (ma == mb) with | false => (have HN : Hid (tabB ma ba na la mb bb nb lb = false) := (by (show _ = _); simp only [tabB, h1, Bool.false_and]); go_enter Tryz.func13, Tryz.ntmps13; go_wp2; go_ret; exact ⟨ret_bool (by rw [HN.out]), hB⟩) | true => (cases h2 : (ba == bb) with | false => (have HN : Hid (tabB ma ba na la mb bb nb lb = false) := (by (show _ = _); simp only [tabB, h2, Bool.false_and, Bool.and_false]); go_enter Tryz.func13, Tryz.ntmps13; go_wp2; go_ret; exact ⟨ret_bool (by rw [HN.out]), hB⟩) | true => (cases h3 : (na == nb) with | false => (have HN : Hid (tabB ma ba na la mb bb nb lb = false) := (by (show _ = _); simp only [tabB, h3, Bool.false_and, Bool.and_false]); go_enter Tryz.func13, Tryz.ntmps13; go_wp2; go_ret; exact ⟨ret_bool (by rw [HN.out]), hB⟩) | true => (have HN : Hid (tabB ma ba na la mb bb nb lb = onesB la lb) := (by (show _ = _); simp only [tabB, h1, h2, h3, Bool.true_and]); go_enter Tryz.func13, Tryz.ntmps13; go_wp2_with fail; refine (refOnes_any la lb _ _ _ ha2 hb2).mono ?_; rintro e w2 ⟨rfl, b2⟩; go_wp2; go_ret; exact ⟨ret_bool (by rw [HN.out]), hB.trans (b2.mono hB.size)⟩)))
end Go.Proofs.YtdgedcfenpmaoaaGreat

/- What is linked and taken away: whatever slice holds the entries. No program's function. -/
set_option linter.unusedVariables false
set_option linter.unusedSimpArgs false
namespace Go.Proofs.YtdgedcfenpmaoaaGreat

theorem drop_key {a b : List Nd} (h : a.map Nd.key = b.map Nd.key) (i : Int) : (dropN a i).map Nd.key = (dropN b i).map Nd.key := by
  have hf : ∀ (p : Int → Bool) (l : List Nd), (l.filter (fun e => p e.ino)).map Nd.key = (l.map Nd.key).filter (fun q => p q.1) := by
    intro p l
    rw [List.filter_map]; rfl
  unfold dropN aheadN behindN
  rw [List.map_append, List.map_append, hf (fun j => decide (j < i)), hf (fun j => decide (j < i)), hf (fun j => decide (i < j)), hf (fun j => decide (i < j)), h]
theorem naL_key (l : List Nd) (d : Int) (n : List UInt8) (i : Int) (a b : Go.Value) : (naL l d n i a).map Nd.key = (naL l d n i b).map Nd.key := setN_key2 (setN_key (x := moreD (getN l d) n i a) (y := moreD (getN l d) n i b) l rfl) rfl
theorem unL_key (l : List Nd) (d : Int) (n : List UInt8) (i : Int) (a b : Go.Value) : (unL l d n i a).map Nd.key = (unL l d n i b).map Nd.key := by
  unfold unL
  split
  · exact drop_key (setN_key (x := lessD (getN l d) n a) (y := lessD (getN l d) n b) l rfl) i
  · exact setN_key2 (setN_key (x := lessD (getN l d) n a) (y := lessD (getN l d) n b) l rfl) rfl
theorem linkF_key (l : List Nd) (base src dst : List UInt8) (a b : Go.Value) : (linkF l base src dst a).2 = (linkF l base src dst b).2 ∧ onesB (linkF l base src dst a).1 (linkF l base src dst b).1 = true := by
  unfold linkF
  repeat' split
  all_goals first | exact ⟨rfl, onesB_refl _⟩ | exact ⟨rfl, decide_eq_true (naL_key _ _ _ _ _ _)⟩
theorem unlinkF_key (l : List Nd) (base p : List UInt8) (a b : Go.Value) : (unlinkF l base p a).2 = (unlinkF l base p b).2 ∧ onesB (unlinkF l base p a).1 (unlinkF l base p b).1 = true := by
  unfold unlinkF
  repeat' split
  all_goals first | exact ⟨rfl, onesB_refl _⟩ | exact ⟨rfl, decide_eq_true (unL_key _ _ _ _ _ _)⟩
theorem rmdirF_key (l : List Nd) (base p : List UInt8) (a b : Go.Value) : (rmdirF l base p a).2 = (rmdirF l base p b).2 ∧ onesB (rmdirF l base p a).1 (rmdirF l base p b).1 = true := by
  unfold rmdirF
  repeat' split
  all_goals first | exact ⟨rfl, onesB_refl _⟩ | exact ⟨rfl, decide_eq_true (unL_key _ _ _ _ _ _)⟩
end Go.Proofs.YtdgedcfenpmaoaaGreat
