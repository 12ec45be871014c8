/- Texts put together: WalkJ05, WalkK05. -/
import Derived.Test.YtpeghnhaekebdaaQWalkE05
import Derived.BigQuiet
set_option linter.unusedVariables false
set_option linter.unusedSimpArgs false
/- Walks: the document's Drop, Set. -/
set_option linter.unusedVariables false
set_option linter.unusedSimpArgs false
namespace Go.Proofs.Ytpeghnhaekebdaa
open Go.RowKit

theorem ndC_one (x : Nd) (h : x.ev.oneCell' = true) : ∀ u ∈ (ndC x).toList, u.oneCell' = true := by
  intro u hu
  simp only [List.mem_cons, List.not_mem_nil, or_false] at hu
  rcases hu with rfl | rfl | rfl | rfl | rfl | rfl
  · rfl
  · rfl
  · rfl
  · rfl
  · rfl
  · exact h

set_option maxHeartbeats 4000000 in
theorem refDropT_any (mi mb nx n : Int) (l : List Nd) (v : Value) (w : World) (hv : Nds w v l) (hl : l.length ≤ 1000000) :
    Calls Try.prog 39 #[.agg (fsC mi mb nx v), .int .i64 n] w fun e w' => ∃ y, e = .returned (.agg (fsC mi mb nx y)) ∧ NewNds w (l.filter (fun e => e.ino != n)) y w' := by
  obtain ⟨i0, hi, hz0, hz1, hz2⟩ := info_parts infoN
  obtain ⟨a, ca, rfl, hc, hm, _, hna, _⟩ := id hv
  unfold maxLen at hm
  have b0 := (Blk.new w 24 (fsC mi mb nx (.slice a l.length ca))).alloc (.cells (fsC 0 0 0 (.slice none 0 0)) 24)
  have b1 := Blk.new (w.alloc (.cells (fsC mi mb nx (.slice a l.length ca)) 24)) 24 (fsC 0 0 0 (.slice none 0 0))
  have hB0 : Below w.heap.size w ((w.alloc (.cells (fsC mi mb nx (.slice a l.length ca)) 24)).alloc (.cells (fsC 0 0 0 (.slice none 0 0)) 24)) := ((Below.refl _ w).alloc (Nat.le_refl _) _).alloc (by simp) _
  obtain ⟨_, _, hu, _, _, hea, _, HA0⟩ := hv.below hB0
  simp only [Value.slice.injEq] at hu
  obtain ⟨rfl, _, rfl⟩ := hu
  have HA := Lib.hid HA0
  have HE := Lib.hid hea
  clear HA0 hea hv
  simp only [World.size_alloc] at b1
  go_enter Try.func39, Try.ntmps39
  go_wp2
  generalize hw2 : (w.alloc (.cells (fsC mi mb nx (.slice a l.length ca)) 24)).alloc (.cells (fsC 0 0 0 (.slice none 0 0)) 24) = w2 at *
  have hN : w.heap.size + 2 = w2.heap.size := by rw [← hw2]; simp
  clear hw2
  have HB := Lib.hid (show _ ∧ _ ∧ _ from ⟨b0, b1, hB0⟩)
  clear b0 b1 hB0
  go_loopw [5, 6] (fun s5 s6 wr => ∃ k : Nat, k ≤ l.length ∧ s6 = .int .i64 k ∧ Below w2.heap.size w2 wr ∧ Aside (wr.ownsRow w2.heap.size 33 6 s5 ((l.take k).filter (fun e => e.ino != n)).length (ndsV ((l.take k).filter (fun e => e.ino != n))))) (fun _ s6 _ => l.length - (intOf s6).toNat)
  case atStart => exact ⟨0, Nat.zero_le _, rfl, Below.refl _ _, World.ownsRow_nil _ _ _ _⟩
  case round =>
    obtain ⟨k, hk, rfl, hbw, HO⟩ := hrel
    have b0 := HB.out.1.next hbw
    obtain ⟨⟨p0, p1, p2, p3⟩, _⟩ := b0.four
    by_cases hlt : k < l.length
    · obtain ⟨b, o, rfl, hb, hcl⟩ := HA.out (by omega)
      obtain ⟨c0, c1, c2, c3, c4, c5⟩ := (hcl k hlt).below hbw hb
      clear hcl b0
      obtain ⟨ae, ne, hye, _⟩ := HE.out _ (List.getElem_mem hlt)
      have hnx := filtN_next (n := n) hlt
      have hfl : ((l.take k).filter (fun e => e.ino != n)).length ≤ l.length := Nat.le_trans (List.length_filter_le _ _) (by simp; omega)
      generalize l[k] = y at *
      obtain ⟨yi, yk, yl, yd, yp, ye, yn⟩ := y
      dsimp only at hye c0 c1 c2 c3 c4 c5 hnx
      subst hye
      cases he : (yi != n)
      · rw [he] at hnx
        have HT2 := Lib.hid hnx
        clear hnx
        go_wp2
        go_roundw
        case rel => exact ⟨k + 1, by omega, by go_num, hbw, by (show World.ownsRow _ _ _ _ _ _ _); rw [HT2.out]; simpa using HO.out⟩
        case measure => simp [intOf]; omega
      · rw [he] at hnx
        have HT2 := Lib.hid hnx
        have hsz := hbw.size
        clear hnx
        generalize (l.take k).filter (fun e => e.ino != n) = F at *
        go_wp2_with (at_builtin; refine wpList_append_new rfl (.tmp 22) (.tmp 28) 22 33 rfl Try.underlying22 hi hz0 hz1 hz2 rfl (by decide) (by decide) w2.heap.size (ndC ⟨yi, yk, yl, yd, yp, .slice ae yn.length ne, yn⟩) 1 rfl rfl HO.out rfl (ndC_one _ rfl) (by omega) hsz ?_; intro v2 w3 hown2 hb2)
        have HO2 : Hid (w3.ownsRow w2.heap.size 33 6 v2 (F ++ [(⟨yi, yk, yl, yd, yp, .slice ae yn.length ne, yn⟩ : Nd)]).length (ndsV (F ++ [(⟨yi, yk, yl, yd, yp, .slice ae yn.length ne, yn⟩ : Nd)]))) := by
          (show World.ownsRow _ _ _ _ _ _ _); rw [ndsV_append, List.length_append]; exact hown2
        have hb3 := hbw.trans hb2
        clear hown2 hb2 HO hbw
        go_roundw
        case rel => exact ⟨k + 1, by omega, by go_num, hb3, by (show World.ownsRow _ _ _ _ _ _ _); rw [HT2.out]; simpa using HO2.out⟩
        case measure => simp [intOf]; omega
    · obtain rfl : k = l.length := by omega
      have h1 := HO.out
      rw [List.take_length] at h1
      obtain ⟨a5, c5, rfl⟩ := own_slice h1
      have b1 := HB.out.2.1.next hbw
      have f3 := b0.frozen 3
      have hB1 := HB.out.2.2.trans (hbw.mono (by omega))
      have b4 := b0.set 3 (.slice a5 (l.filter (fun e => e.ino != n)).length c5)
      rw [show (fsC mi mb nx (.slice a l.length ca)).setIfInBounds 3 (.slice a5 (l.filter (fun e => e.ino != n)).length c5) = fsC mi mb nx (.slice a5 (l.filter (fun e => e.ino != n)).length c5) from rfl] at b4
      have b5 := b1.other (B2 := w.heap.size) (i := 3) (by omega) (.slice a5 (l.filter (fun e => e.ino != n)).length c5)
      have hB5 := hB1.setCell (p := ⟨w.heap.size, 3, none⟩) (Nat.le_refl _) (.slice a5 (l.filter (fun e => e.ino != n)).length c5)
      have hown5 := h1.kept (grownBy_set wr w.heap.size 3 (.slice a5 (l.filter (fun e => e.ino != n)).length c5)) (own_not h1 (by omega))
      generalize hw5 : wr.setCell ⟨w.heap.size, 3, none⟩ (.slice a5 (l.filter (fun e => e.ino != n)).length c5) = w5 at *
      obtain ⟨W', hW', hb4, hnew⟩ := store_end (w := w) mi mb nx b5 hown5 hB5 (by omega) (by omega) (by omega)
      obtain ⟨⟨s0, s1, s2, s3⟩, _⟩ := b4.four
      obtain ⟨⟨q0, q1, q2, q3⟩, e0, e1, e2, e3⟩ := b5.four
      clear HO h1 b0 b1 b4 b5 hown5 hbw hB1 hB5
      go_wp2
      obtain ⟨⟨r0, r1, r2, r3⟩, _⟩ := hb4.four
      refine bodyPost_ret (v := .agg (fsC mi mb nx (.slice a5 (l.filter (fun e => e.ino != n)).length c5))) (by simp [results, Try.f39, go_sem, r0, r1, r2, r3]) rfl ?_
      exact ⟨_, rfl, hnew⟩
end Go.Proofs.Ytpeghnhaekebdaa

/- Walks: the document's Set. -/
set_option linter.unusedVariables false
set_option linter.unusedSimpArgs false
namespace Go.Proofs.Ytpeghnhaekebdaa
open Go.RowKit

theorem field3 (x y z : Int) (v : Value) (w : World) : (Instr.field 24 (.agg (fsC x y z v)) 3).run Try.prog w = .ok v w := by kernel_rfl
theorem oneEv {w : World} {v : Value} {l : List Ent} (h : Ents w v l) : ∃ a n c, v = .slice a n c := by obtain ⟨a, c, h, _⟩ := h; exact ⟨_, _, _, h⟩

set_option maxHeartbeats 8000000 in
theorem refSetP_any (mi mb nx : Int) (l : List Nd) (x : Nd) (v : Value) (w : World) (hv : Nds w v l) (hx : Ents w x.ev x.ents) (hl : l.length ≤ 999990) :
    Calls Try.prog 26 #[.agg (fsC mi mb nx v), .agg (ndC x)] w fun e w' => ∃ y, e = .returned (.agg (fsC mi mb nx y)) ∧ NewNds w (finN x (l.filter (fun e => e.ino != x.ino))) y w' := by
  obtain ⟨i0, hi, hz0, hz1, hz2⟩ := info_parts infoN
  obtain ⟨a, ca, rfl, hc, hm, hea, hna, _⟩ := id hv
  unfold maxLen at hm
  obtain ⟨ae, ne, hye, _⟩ := id hx
  obtain ⟨yi, yk, yl, yd, yp, ye, yn⟩ := x
  dsimp only at hye hx ⊢
  subst hye
  have b0 := ((Blk.new w 24 (fsC mi mb nx (.slice a l.length ca))).alloc (.cells (ndC ⟨yi, yk, yl, yd, yp, .slice ae yn.length ne, yn⟩) 33)).alloc (.cells (fsC 0 0 0 (.slice none 0 0)) 24)
  have b1 := (Blk.new (w.alloc (.cells (fsC mi mb nx (.slice a l.length ca)) 24)) 33 (ndC ⟨yi, yk, yl, yd, yp, .slice ae yn.length ne, yn⟩)).alloc (.cells (fsC 0 0 0 (.slice none 0 0)) 24)
  have b2 := Blk.new ((w.alloc (.cells (fsC mi mb nx (.slice a l.length ca)) 24)).alloc (.cells (ndC ⟨yi, yk, yl, yd, yp, .slice ae yn.length ne, yn⟩) 33)) 24 (fsC 0 0 0 (.slice none 0 0))
  have hB0 : Below w.heap.size w (((w.alloc (.cells (fsC mi mb nx (.slice a l.length ca)) 24)).alloc (.cells (ndC ⟨yi, yk, yl, yd, yp, .slice ae yn.length ne, yn⟩) 33)).alloc (.cells (fsC 0 0 0 (.slice none 0 0)) 24)) := (((Below.refl _ w).alloc (Nat.le_refl _) _).alloc (by simp) _).alloc (by simp; omega) _
  have hv2 := hv.below hB0
  simp only [World.size_alloc] at b1 b2
  have HR := Lib.hid (show ((l.filter (fun e => e.ino != yi)).length ≤ l.length) ∧ (∀ z ∈ l.filter (fun e => e.ino != yi), ∃ a n c, z.ev = .slice a n c) from ⟨List.length_filter_le _ _, fun z hz => oneEv (hea z ((List.mem_filter.1 hz).1))⟩)
  have HEA : Hid (EntsAll w l) := hea
  have HDT := refDropT_any mi mb nx yi l _ _ hv2 (by omega)
  generalize hRR : l.filter (fun e => e.ino != yi) = R at *
  have HRR := Lib.hid hRR
  clear hv hv2 hx hea hRR
  go_enter Try.func26, Try.ntmps26
  go_wp2_with fail
  refine HDT.mono ?_
  rintro e w1 ⟨y, rfl, hown, hb⟩
  obtain ⟨ar, cr, rfl⟩ := own_slice hown
  replace b0 := b0.next hb
  replace b1 := b1.next hb
  replace b2 := b2.next hb
  have hB1 := hB0.trans (hb.mono hB0.size)
  have hlt1 : w.heap.size + 3 ≤ w1.heap.size := by have := hb.size; simp at this; omega
  have hRn : Nds w1 (.slice ar R.length cr) R := own_nds hown (by
    intro z hz
    rw [← HRR.out] at hz
    exact ((HEA.out.below hB1) z ((List.mem_filter.1 hz).1)))
  have hRl := HR.out.1
  have hfd := field3 mi mb nx (.slice ar R.length cr)
  obtain ⟨_, _, hu, hrc, hrm, _, _, HA0⟩ := hRn
  simp only [Value.slice.injEq] at hu
  obtain ⟨rfl, _, rfl⟩ := hu
  unfold maxLen at hrm
  have HA := Lib.hid HA0
  have HB := Lib.hid (show _ ∧ _ ∧ _ ∧ _ from ⟨b0, b1, b2, hB1⟩)
  clear HA0 b0 b1 b2 hB1 hB0 hb hown HDT HEA HRR
  go_wp2
  go_loopw [6, 7, 8] (fun s6 s7 s8 wr => ∃ k : Nat, k ≤ R.length ∧ s8 = .int .i64 k ∧ Below w1.heap.size w1 wr ∧ s7 = .bool (insN ⟨yi, yk, yl, yd, yp, .slice ae yn.length ne, yn⟩ (R.take k)).2 ∧ Aside (wr.ownsRow w1.heap.size 33 6 s6 (insN ⟨yi, yk, yl, yd, yp, .slice ae yn.length ne, yn⟩ (R.take k)).1.length (ndsV (insN ⟨yi, yk, yl, yd, yp, .slice ae yn.length ne, yn⟩ (R.take k)).1))) (fun _ _ s8 _ => R.length - (intOf s8).toNat)
  case atStart => exact ⟨0, Nat.zero_le _, rfl, Below.refl _ _, rfl, World.ownsRow_nil _ _ _ _⟩
  case round =>
    obtain ⟨k, hk, rfl, hbw, rfl, HO⟩ := hrel
    have hil := ins_len ⟨yi, yk, yl, yd, yp, .slice ae yn.length ne, yn⟩ (R.take k)
    rw [List.length_take] at hil
    obtain ⟨⟨s0, s1, s2, s3, s4, s5⟩, _⟩ := (HB.out.2.1.next hbw).six
    dsimp only at s0 s1 s2 s3 s4 s5
    have hsz := hbw.size
    by_cases hlt : k < R.length
    · obtain ⟨b, o, rfl, hb, hcl⟩ := HA.out (by omega)
      have hnd := hcl k hlt
      clear hcl
      have hnx := insN_next ⟨yi, yk, yl, yd, yp, .slice ae yn.length ne, yn⟩ hlt
      obtain ⟨az, nz, cz, hze⟩ := HR.out.2 _ (List.getElem_mem hlt)
      generalize R[k] = z at *
      obtain ⟨zi, zk, zl, zd, zp, ze, zn⟩ := z
      dsimp only at hze hnx
      subst hze
      obtain ⟨c0, c1, c2, c3, c4, c5⟩ := hnd.below hbw hb
      have HND := Lib.hid hnd
      clear hnd
      dsimp only at c0 c1 c2 c3 c4 c5
      generalize insN ⟨yi, yk, yl, yd, yp, .slice ae yn.length ne, yn⟩ (R.take k) = I at *
      obtain ⟨F, d⟩ := I
      dsimp only at HO hil hnx
      have k0 : (0 : Int) ≤ (k : Int) := by omega
      have k1 : (k : Int) < (R.length : Int) := by omega
      have hzq : ∀ q, w1.heap.size ≤ (wr.drewN q).heap.size := fun q => (below_drewN hbw q).size
      have hbq : ∀ q, Below w1.heap.size w1 (wr.drewN q) := fun q => below_drewN hbw q
      cases d
      · rw [if_neg (by simp)] at hnx
        have HOq := fun q => own_keep HO.out (below_drewN (Below.refl _ wr) q)
        by_cases hg : yi < zi
        · rw [if_pos hg] at hnx
          have HNX := Lib.hid hnx
          have hg2 : decide (yi < zi) = true := decide_eq_true hg
          clear hnx
          go_wp2
          go_quiet (fail)
          go_wp2_with (first | ((at_builtin; refine wpList_append_new rfl (.tmp 32) (.tmp 34) 22 33 rfl Try.underlying22 hi hz0 hz1 hz2 rfl (by decide) (by decide) w1.heap.size (ndC ⟨yi, yk, yl, yd, yp, .slice ae yn.length ne, yn⟩) 1 rfl rfl (HOq _) rfl (ndC_one _ rfl) (by omega) (hzq _) ?_; intro v2 w3 hown2 hb2); have hb3 := (hbq _).trans hb2; obtain ⟨g0, g1, g2, g3, g4, g5⟩ := HND.out.below hb3 hb; dsimp only at g0 g1 g2 g3 g4 g5; have hsz3 := hb3.size; clear hbq hzq HOq) | (at_builtin; refine wpList_append_new rfl (.tmp 36) (.tmp 41) 22 33 rfl Try.underlying22 hi hz0 hz1 hz2 rfl (by decide) (by decide) w1.heap.size (ndC ⟨zi, zk, zl, zd, zp, .slice az nz cz, zn⟩) 1 rfl rfl hown2 rfl (ndC_one _ rfl) (by omega) hsz3 ?_; intro v4 w4 hown4 hb4))
          have hb5 := hb3.trans hb4
          have HO2 : Hid (w4.ownsRow w1.heap.size 33 6 v4 (F ++ [(⟨yi, yk, yl, yd, yp, .slice ae yn.length ne, yn⟩ : Nd), (⟨zi, zk, zl, zd, zp, .slice az nz cz, zn⟩ : Nd)]).length (ndsV (F ++ [(⟨yi, yk, yl, yd, yp, .slice ae yn.length ne, yn⟩ : Nd), (⟨zi, zk, zl, zd, zp, .slice az nz cz, zn⟩ : Nd)]))) := by
            (show World.ownsRow _ _ _ _ _ _ _); rw [ndsV_append, List.length_append]; simpa [ndsV, Nat.add_assoc, List.append_assoc] using hown4
          clear hown2 hb2 hb3 hown4 hb4 HO hbw
          go_roundw
          case rel => exact ⟨k + 1, by omega, by go_num, hb5, by rw [HNX.out], by (show World.ownsRow _ _ _ _ _ _ _); rw [HNX.out]; exact HO2.out⟩
          case measure => simp [intOf]; omega
        · rw [if_neg hg] at hnx
          have HNX := Lib.hid hnx
          have hg2 : decide (yi < zi) = false := decide_eq_false hg
          clear hnx
          go_wp2
          go_quiet (fail)
          go_wp2_with ((at_builtin; refine wpList_append_new rfl (.tmp 36) (.tmp 41) 22 33 rfl Try.underlying22 hi hz0 hz1 hz2 rfl (by decide) (by decide) w1.heap.size (ndC ⟨zi, zk, zl, zd, zp, .slice az nz cz, zn⟩) 1 rfl rfl (HOq _) rfl (ndC_one _ rfl) (by omega) (hzq _) ?_; intro v4 w4 hown4 hb4); have hb5 := (hbq _).trans hb4; clear hbq hzq HOq)
          have HO2 : Hid (w4.ownsRow w1.heap.size 33 6 v4 (F ++ [(⟨zi, zk, zl, zd, zp, .slice az nz cz, zn⟩ : Nd)]).length (ndsV (F ++ [(⟨zi, zk, zl, zd, zp, .slice az nz cz, zn⟩ : Nd)]))) := by
            (show World.ownsRow _ _ _ _ _ _ _); rw [ndsV_append, List.length_append]; exact hown4
          clear hown4 hb4 HO hbw
          go_roundw
          case rel => exact ⟨k + 1, by omega, by go_num, hb5, by rw [HNX.out], by (show World.ownsRow _ _ _ _ _ _ _); rw [HNX.out]; exact HO2.out⟩
          case measure => simp [intOf]; omega
      · rw [if_pos rfl] at hnx
        have HNX := Lib.hid hnx
        have HOq := fun q => own_keep HO.out (below_drewN (Below.refl _ wr) q)
        clear hnx
        go_wp2
        go_quiet (fail)
        go_wp2_with ((at_builtin; refine wpList_append_new rfl (.tmp 36) (.tmp 41) 22 33 rfl Try.underlying22 hi hz0 hz1 hz2 rfl (by decide) (by decide) w1.heap.size (ndC ⟨zi, zk, zl, zd, zp, .slice az nz cz, zn⟩) 1 rfl rfl (HOq _) rfl (ndC_one _ rfl) (by omega) (hzq _) ?_; intro v4 w4 hown4 hb4); have hb5 := (hbq _).trans hb4; clear hbq hzq HOq)
        have HO2 : Hid (w4.ownsRow w1.heap.size 33 6 v4 (F ++ [(⟨zi, zk, zl, zd, zp, .slice az nz cz, zn⟩ : Nd)]).length (ndsV (F ++ [(⟨zi, zk, zl, zd, zp, .slice az nz cz, zn⟩ : Nd)]))) := by
          (show World.ownsRow _ _ _ _ _ _ _); rw [ndsV_append, List.length_append]; exact hown4
        clear hown4 hb4 HO hbw
        go_roundw
        case rel => exact ⟨k + 1, by omega, by go_num, hb5, by rw [HNX.out], by (show World.ownsRow _ _ _ _ _ _ _); rw [HNX.out]; exact HO2.out⟩
        case measure => simp [intOf]; omega
    · obtain rfl : k = R.length := by omega
      rw [List.take_length] at HO hil ⊢
      have HFN : Hid (finN (⟨yi, yk, yl, yd, yp, .slice ae yn.length ne, yn⟩ : Nd) R = if (insN (⟨yi, yk, yl, yd, yp, .slice ae yn.length ne, yn⟩ : Nd) R).2 = true then (insN (⟨yi, yk, yl, yd, yp, .slice ae yn.length ne, yn⟩ : Nd) R).1 else (insN (⟨yi, yk, yl, yd, yp, .slice ae yn.length ne, yn⟩ : Nd) R).1 ++ [(⟨yi, yk, yl, yd, yp, .slice ae yn.length ne, yn⟩ : Nd)]) := rfl
      generalize insN ⟨yi, yk, yl, yd, yp, .slice ae yn.length ne, yn⟩ R = I at *
      obtain ⟨F, d⟩ := I
      dsimp only at HO hil HFN ⊢
      generalize hFN : finN ⟨yi, yk, yl, yd, yp, .slice ae yn.length ne, yn⟩ R = L at *
      have HFL := Lib.hid hFN
      clear hFN
      cases d
      · have hL : L = F ++ [(⟨yi, yk, yl, yd, yp, .slice ae yn.length ne, yn⟩ : Nd)] := HFN.out
        go_wp2_with ((at_builtin; refine wpList_append_new rfl (.tmp 45) (.tmp 47) 22 33 rfl Try.underlying22 hi hz0 hz1 hz2 rfl (by decide) (by decide) w1.heap.size (ndC ⟨yi, yk, yl, yd, yp, .slice ae yn.length ne, yn⟩) 1 rfl rfl HO.out rfl (ndC_one _ rfl) (by omega) hsz ?_; intro v4 w4 hown4 hb4); have hbW := hbw.trans hb4; have h1 : w4.ownsRow w1.heap.size 33 6 v4 L.length (ndsV L) := by { rw [hL, ndsV_append, List.length_append]; exact hown4 }; clear hL HFN hown4 hb4 HO hbw hsz s0 s1 s2 s3 s4 s5; obtain ⟨a5, c5, rfl⟩ := own_slice h1; have B0 := HB.out.1.next hbW; have B2 := HB.out.2.2.1.next hbW; obtain ⟨⟨p0, p1, p2, p3⟩, _⟩ := B0.four; have f3 := B0.frozen 3; have hB1 := HB.out.2.2.2.trans (hbW.mono (by omega)); have b4 := B0.set 3 (.slice a5 L.length c5); rw [show (fsC mi mb nx (.slice a l.length ca)).setIfInBounds 3 (.slice a5 L.length c5) = fsC mi mb nx (.slice a5 L.length c5) from rfl] at b4; have b5 := B2.other (B2 := w.heap.size) (i := 3) (by omega) (.slice a5 L.length c5); have hB5 := hB1.setCell (p := ⟨w.heap.size, 3, none⟩) (Nat.le_refl _) (.slice a5 L.length c5); have hown5 := World.ownsRow.kept h1 (grownBy_set w4 w.heap.size 3 (.slice a5 L.length c5)) (own_not h1 (by omega)); generalize hw5 : World.setCell w4 ⟨w.heap.size, 3, none⟩ (.slice a5 L.length c5) = w5 at *; obtain ⟨W', hW', hb4, hnew⟩ := store_end (w := w) mi mb nx b5 hown5 hB5 (by omega) (by omega) (by omega); obtain ⟨⟨s0, s1, s2, s3⟩, _⟩ := b4.four; obtain ⟨⟨q0, q1, q2, q3⟩, e0, e1, e2, e3⟩ := b5.four; clear b4 b5 hown5 hB1 hB5 B0 B2)
        obtain ⟨⟨r0, r1, r2, r3⟩, _⟩ := hb4.four; refine bodyPost_ret (v := .agg (fsC mi mb nx (.slice a5 L.length c5))) (by simp [results, Try.f26, go_sem, r0, r1, r2, r3]) rfl ?_; exact ⟨_, rfl, by rw [HFL.out]; exact hnew⟩
      · have hL : L = F := HFN.out
        have h1 := HO.out
        rw [← hL] at h1
        have hbW := hbw
        clear hL HFN HO hbw s0 s1 s2 s3 s4 s5
        obtain ⟨a5, c5, rfl⟩ := own_slice h1; have B0 := HB.out.1.next hbW; have B2 := HB.out.2.2.1.next hbW; obtain ⟨⟨p0, p1, p2, p3⟩, _⟩ := B0.four; have f3 := B0.frozen 3; have hB1 := HB.out.2.2.2.trans (hbW.mono (by omega)); have b4 := B0.set 3 (.slice a5 L.length c5); rw [show (fsC mi mb nx (.slice a l.length ca)).setIfInBounds 3 (.slice a5 L.length c5) = fsC mi mb nx (.slice a5 L.length c5) from rfl] at b4; have b5 := B2.other (B2 := w.heap.size) (i := 3) (by omega) (.slice a5 L.length c5); have hB5 := hB1.setCell (p := ⟨w.heap.size, 3, none⟩) (Nat.le_refl _) (.slice a5 L.length c5); have hown5 := World.ownsRow.kept h1 (grownBy_set wr w.heap.size 3 (.slice a5 L.length c5)) (own_not h1 (by omega)); generalize hw5 : World.setCell wr ⟨w.heap.size, 3, none⟩ (.slice a5 L.length c5) = w5 at *; obtain ⟨W', hW', hb4, hnew⟩ := store_end (w := w) mi mb nx b5 hown5 hB5 (by omega) (by omega) (by omega); obtain ⟨⟨s0, s1, s2, s3⟩, _⟩ := b4.four; obtain ⟨⟨q0, q1, q2, q3⟩, e0, e1, e2, e3⟩ := b5.four; clear b4 b5 hown5 hB1 hB5 B0 B2
        go_wp2
        obtain ⟨⟨r0, r1, r2, r3⟩, _⟩ := hb4.four; refine bodyPost_ret (v := .agg (fsC mi mb nx (.slice a5 L.length c5))) (by simp [results, Try.f26, go_sem, r0, r1, r2, r3]) rfl ?_; exact ⟨_, rfl, by rw [HFL.out]; exact hnew⟩
theorem refSetT_any (mi mb nx : Int) (l : List Nd) (x : Nd) (v : Value) (w : World) (hv : Nds w v l) (hx : Ents w x.ev x.ents) (hs : riseP l) (hl : l.length ≤ 999990) :
    Calls Try.prog 26 #[.agg (fsC mi mb nx v), .agg (ndC x)] w fun e w' => ∃ y, e = .returned (.agg (fsC mi mb nx y)) ∧ NewNds w (setN l x) y w' := by
  rw [← fin_eq, ← dropN_eq l x.ino hs]
  exact refSetP_any mi mb nx l x v w hv hx hl
end Go.Proofs.Ytpeghnhaekebdaa
