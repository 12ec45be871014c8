/- Walks: are inodes, lists of inodes, tables alike: the document's and the program's. -/
import Derived.Test.YtjdpkienljenhaaWalkH04
import Derived.Test.YtjdpkienljenhaaWalkC05
namespace Go.Proofs.Ytjdpkienljenhaa
open Go.RowKit

theorem EqualE_any (la lb : List Ent) (va vb : Value) (w : World) (ha : Ents w va la) (hb : Ents w vb lb) :
    Calls Try.prog 36 #[va, vb] w fun e w' => e = .returned (.bool (decide (la = lb))) ∧ Below w.heap.size w w' := by
  obtain ⟨a, ca, rfl, hca, hma, HA⟩ := ha
  obtain ⟨b, cb, rfl, hcb, hmb, HB⟩ := hb
  unfold maxLen at hma hmb
  by_cases hl : la.length = lb.length
  · have HA' := Lib.hid HA
    have HB' := Lib.hid HB
    clear HA HB
    have hne : ((la.length : Int) != (lb.length : Int)) = false := by simp; omega
    have HL := Lib.hid hl
    have hl2 : la.length ≤ lb.length := by omega
    clear hl
    go_enter Try.func36, Try.ntmps36
    go_wp2
    go_loopw [13] (fun i wr => ∃ k : Nat, k ≤ la.length ∧ i = .int .i64 k ∧ Aside (la.take k = lb.take k) ∧ Below w.heap.size w wr) (fun i _ => la.length - (intOf i).toNat)
    case atStart => exact ⟨0, Nat.zero_le _, rfl, rfl, Below.refl _ _⟩
    case round =>
      obtain ⟨k, hk, rfl, HT, hbw⟩ := hrel
      by_cases hlt : k < la.length
      · have hltb : k < lb.length := by omega
        obtain ⟨ba, oa, rfl, hba, hxa⟩ := HA'.out (by omega)
        obtain ⟨bb, ob, rfl, hbb, hxb⟩ := HB'.out (by omega)
        have c1 : wr.cell? ⟨ba, oa + k * 2, none⟩ = some (.string ⟨la[k].1.toArray⟩) := (hbw.cell (p := ⟨ba, oa + k * 2, none⟩) hba).trans (hxa k hlt).1
        have c2 : wr.cell? ⟨ba, oa + k * 2 + 1, none⟩ = some (.int .i64 la[k].2) := (hbw.cell (p := ⟨ba, oa + k * 2 + 1, none⟩) hba).trans (hxa k hlt).2
        have c3 : wr.cell? ⟨bb, ob + k * 2, none⟩ = some (.string ⟨lb[k].1.toArray⟩) := (hbw.cell (p := ⟨bb, ob + k * 2, none⟩) hbb).trans (hxb k hltb).1
        have c4 : wr.cell? ⟨bb, ob + k * 2 + 1, none⟩ = some (.int .i64 lb[k].2) := (hbw.cell (p := ⟨bb, ob + k * 2 + 1, none⟩) hbb).trans (hxb k hltb).2
        clear hxa hxb
        have k0 : (0 : Int) ≤ (k : Int) := by omega
        have k1 : (k : Int) < (la.length : Int) := by omega
        have k2 : (k : Int) < (lb.length : Int) := by omega
        cases he : la[k].1 == lb[k].1
        · have hne2 : Hid (decide (la = lb) = false) := by
            show _ = _
            rw [decide_eq_false_iff_not]
            intro e
            subst e
            simp at he
          go_wp2
          go_quiet (fail)
          go_wp2
          go_ret
          exact ⟨by rw [hne2.out]; rfl, below_drewN hbw _⟩
        · cases hn : la[k].2 == lb[k].2
          · have hne2 : Hid (decide (la = lb) = false) := by
              show _ = _
              rw [decide_eq_false_iff_not]
              intro e
              subst e
              simp at hn
            go_wp2
            go_quiet (fail)
            go_wp2
            go_ret
            exact ⟨by rw [hne2.out]; rfl, below_drewN hbw _⟩
          · have HT2 : Hid (la.take (k + 1) = lb.take (k + 1)) := by
              show _ = _
              rw [List.take_succ_eq_append_getElem hlt, List.take_succ_eq_append_getElem hltb, HT.out]
              rw [beq_iff_eq] at he hn
              rw [show la[k] = lb[k] from Prod.ext he hn]
            go_wp2
            go_quiet (fail)
            go_wp2
            go_roundw
            case rel => exact ⟨k + 1, by omega, by go_num, HT2.out, below_drewN hbw _⟩
            case measure => simp [intOf]; omega
      · obtain rfl : k = la.length := by omega
        have heq : Hid (decide (la = lb) = true) := by
          show _ = _
          rw [decide_eq_true_eq]
          have := HT.out
          rw [List.take_length, HL.out, List.take_length] at this
          exact this
        clear HT
        go_wp2
        go_ret
        exact ⟨by rw [heq.out]; rfl, hbw⟩
  · have hne : ((la.length : Int) != (lb.length : Int)) = true := by rw [bne_iff_ne]; omega
    have hd : Hid (decide (la = lb) = false) := by
      show _ = _
      rw [decide_eq_false_iff_not]; rintro rfl; exact hl rfl
    clear HA HB
    go_enter Try.func36, Try.ntmps36
    go_wp2
    go_ret
    exact ⟨by rw [hd.out]; rfl, Below.refl _ _⟩

set_option maxHeartbeats 2000000 in
theorem refOne_any (x y : Nd) (w : World) (hx : Ents w x.ev x.ents) (hy : Ents w y.ev y.ents) :
    Calls Try.prog 17 #[.agg (ndC x), .agg (ndC y)] w fun e w' => e = .returned (.bool (oneB x y)) ∧ Below w.heap.size w w' := by
  have hB : Below w.heap.size w ((w.alloc (.cells (ndC x) 35)).alloc (.cells (ndC y) 35)) := ((Below.refl _ w).alloc (Nat.le_refl _) _).alloc (by simp) _
  have hx2 := hx.below hB
  have hy2 := hy.below hB
  clear hx hy
  obtain ⟨xi, xk, xl, xd, xp, xe, xn⟩ := x
  obtain ⟨yi, yk, yl, yd, yp, ye, yn⟩ := y
  dsimp only at hx2 hy2
  obtain ⟨a, ca, rfl, _⟩ := id hx2
  obtain ⟨b, cb, rfl, _⟩ := id hy2
  cases h1 : (xi == yi) with | false => (have HN := Lib.hid (oneB_no1 (a := ⟨xi, xk, xl, xd, xp, .slice a xn.length ca, xn⟩) (b := ⟨yi, yk, yl, yd, yp, .slice b yn.length cb, yn⟩) h1); go_enter Try.func17, Try.ntmps17; go_wp2; go_ret; exact ⟨ret_bool (by rw [HN.out]), hB⟩) | true => (cases h2 : (xk == yk) with | false => (have HN := Lib.hid (oneB_no2 (a := ⟨xi, xk, xl, xd, xp, .slice a xn.length ca, xn⟩) (b := ⟨yi, yk, yl, yd, yp, .slice b yn.length cb, yn⟩) h2); go_enter Try.func17, Try.ntmps17; go_wp2; go_ret; exact ⟨ret_bool (by rw [HN.out]), hB⟩) | true => (cases h3 : (xl == yl) with | false => (have HN := Lib.hid (oneB_no3 (a := ⟨xi, xk, xl, xd, xp, .slice a xn.length ca, xn⟩) (b := ⟨yi, yk, yl, yd, yp, .slice b yn.length cb, yn⟩) h3); go_enter Try.func17, Try.ntmps17; go_wp2; go_ret; exact ⟨ret_bool (by rw [HN.out]), hB⟩) | true => (cases h4 : (xd == yd) with | false => (have HN := Lib.hid (oneB_no4 (a := ⟨xi, xk, xl, xd, xp, .slice a xn.length ca, xn⟩) (b := ⟨yi, yk, yl, yd, yp, .slice b yn.length cb, yn⟩) h4); go_enter Try.func17, Try.ntmps17; go_wp2; go_ret; exact ⟨ret_bool (by rw [HN.out]), hB⟩) | true => (cases h5 : (xp == yp) with | false => (have HN := Lib.hid (oneB_no5 (a := ⟨xi, xk, xl, xd, xp, .slice a xn.length ca, xn⟩) (b := ⟨yi, yk, yl, yd, yp, .slice b yn.length cb, yn⟩) h5); go_enter Try.func17, Try.ntmps17; go_wp2; go_ret; exact ⟨ret_bool (by rw [HN.out]), hB⟩) | true => (have HN := Lib.hid (oneB_ents (a := ⟨xi, xk, xl, xd, xp, .slice a xn.length ca, xn⟩) (b := ⟨yi, yk, yl, yd, yp, .slice b yn.length cb, yn⟩) h1 h2 h3 h4 h5); go_enter Try.func17, Try.ntmps17; go_wp2_with fail; refine (refSame_any xn yn _ _ _ hx2 hy2).mono ?_; rintro e w2 ⟨rfl, b2⟩; go_wp2; go_ret; exact ⟨ret_bool (by rw [HN.out]), hB.trans (b2.mono hB.size)⟩)))))

set_option maxHeartbeats 2000000 in
theorem same_any (x y : Nd) (w : World) (hx : Ents w x.ev x.ents) (hy : Ents w y.ev y.ents) :
    Calls Try.prog 30 #[.agg (ndC x), .agg (ndC y)] w fun e w' => e = .returned (.bool (oneB x y)) ∧ Below w.heap.size w w' := by
  have hB : Below w.heap.size w ((w.alloc (.cells (ndC x) 35)).alloc (.cells (ndC y) 35)) := ((Below.refl _ w).alloc (Nat.le_refl _) _).alloc (by simp) _
  have hx2 := hx.below hB
  have hy2 := hy.below hB
  clear hx hy
  obtain ⟨xi, xk, xl, xd, xp, xe, xn⟩ := x
  obtain ⟨yi, yk, yl, yd, yp, ye, yn⟩ := y
  dsimp only at hx2 hy2
  obtain ⟨a, ca, rfl, _⟩ := id hx2
  obtain ⟨b, cb, rfl, _⟩ := id hy2
  cases h1 : (xi == yi) with | false => (have HN := Lib.hid (oneB_no1 (a := ⟨xi, xk, xl, xd, xp, .slice a xn.length ca, xn⟩) (b := ⟨yi, yk, yl, yd, yp, .slice b yn.length cb, yn⟩) h1); go_enter Try.func30, Try.ntmps30; go_wp2; go_ret; exact ⟨ret_bool (by rw [HN.out]), hB⟩) | true => (cases h2 : (xk == yk) with | false => (have HN := Lib.hid (oneB_no2 (a := ⟨xi, xk, xl, xd, xp, .slice a xn.length ca, xn⟩) (b := ⟨yi, yk, yl, yd, yp, .slice b yn.length cb, yn⟩) h2); go_enter Try.func30, Try.ntmps30; go_wp2; go_ret; exact ⟨ret_bool (by rw [HN.out]), hB⟩) | true => (cases h3 : (xl == yl) with | false => (have HN := Lib.hid (oneB_no3 (a := ⟨xi, xk, xl, xd, xp, .slice a xn.length ca, xn⟩) (b := ⟨yi, yk, yl, yd, yp, .slice b yn.length cb, yn⟩) h3); go_enter Try.func30, Try.ntmps30; go_wp2; go_ret; exact ⟨ret_bool (by rw [HN.out]), hB⟩) | true => (cases h4 : (xd == yd) with | false => (have HN := Lib.hid (oneB_no4 (a := ⟨xi, xk, xl, xd, xp, .slice a xn.length ca, xn⟩) (b := ⟨yi, yk, yl, yd, yp, .slice b yn.length cb, yn⟩) h4); go_enter Try.func30, Try.ntmps30; go_wp2; go_ret; exact ⟨ret_bool (by rw [HN.out]), hB⟩) | true => (cases h5 : (xp == yp) with | false => (have HN := Lib.hid (oneB_no5 (a := ⟨xi, xk, xl, xd, xp, .slice a xn.length ca, xn⟩) (b := ⟨yi, yk, yl, yd, yp, .slice b yn.length cb, yn⟩) h5); go_enter Try.func30, Try.ntmps30; go_wp2; go_ret; exact ⟨ret_bool (by rw [HN.out]), hB⟩) | true => (have HN := Lib.hid (oneB_ents (a := ⟨xi, xk, xl, xd, xp, .slice a xn.length ca, xn⟩) (b := ⟨yi, yk, yl, yd, yp, .slice b yn.length cb, yn⟩) h1 h2 h3 h4 h5); go_enter Try.func30, Try.ntmps30; go_wp2_with fail; refine (EqualE_any xn yn _ _ _ hx2 hy2).mono ?_; rintro e w2 ⟨rfl, b2⟩; go_wp2; go_ret; exact ⟨ret_bool (by rw [HN.out]), hB.trans (b2.mono hB.size)⟩)))))
end Go.Proofs.Ytjdpkienljenhaa
