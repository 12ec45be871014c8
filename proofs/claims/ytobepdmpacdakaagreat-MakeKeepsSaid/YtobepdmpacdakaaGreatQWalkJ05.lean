/- Walks: the document's Drop, Set. -/
import Derived.Test.YtobepdmpacdakaaGreatQWalkE05
import Derived.BigQuiet
set_option linter.unusedVariables false
set_option linter.unusedSimpArgs false
namespace Go.Proofs.YtobepdmpacdakaaGreat
open Go.RowKit

theorem ndC_one (x : Nd) (h : x.ev.oneCell' = true) : ∀ u ∈ (ndC x).toList, u.oneCell' = true := by
  intro u hu
  simp only [List.mem_cons, List.not_mem_nil, or_false] at hu
  rcases hu with rfl | rfl | rfl | rfl | rfl | rfl
  · rfl
  · rfl
  · rfl
  · rfl
  · rfl
  · exact h

set_option maxHeartbeats 4000000 in
theorem refDropT_any (mi mb nx n : Int) (l : List Nd) (v : Value) (w : World) (hv : Nds w v l) (hl : l.length ≤ 1000000) :
    Calls Tryz.prog 72 #[.agg (fsC mi mb nx v), .int .i64 n] w fun e w' => ∃ y, e = .returned (.agg (fsC mi mb nx y)) ∧ NewNds w (l.filter (fun e => e.ino != n)) y w' := by
  obtain ⟨i0, hi, hz0, hz1, hz2⟩ := info_parts infoN
  obtain ⟨a, ca, rfl, hc, hm, _, hna, _⟩ := id hv
  unfold maxLen at hm
  have b0 := (Blk.new w 24 (fsC mi mb nx (.slice a l.length ca))).alloc (.cells (fsC 0 0 0 (.slice none 0 0)) 24)
  have b1 := Blk.new (w.alloc (.cells (fsC mi mb nx (.slice a l.length ca)) 24)) 24 (fsC 0 0 0 (.slice none 0 0))
  have hB0 : Below w.heap.size w ((w.alloc (.cells (fsC mi mb nx (.slice a l.length ca)) 24)).alloc (.cells (fsC 0 0 0 (.slice none 0 0)) 24)) := ((Below.refl _ w).alloc (Nat.le_refl _) _).alloc (by simp) _
  obtain ⟨_, _, hu, _, _, hea, _, HA0⟩ := hv.below hB0
  simp only [Value.slice.injEq] at hu
  obtain ⟨rfl, _, rfl⟩ := hu
  have HA := Lib.hid HA0
  have HE := Lib.hid hea
  clear HA0 hea hv
  simp only [World.size_alloc] at b1
  go_enter Tryz.func72, Tryz.ntmps72
  go_wp2
  generalize hw2 : (w.alloc (.cells (fsC mi mb nx (.slice a l.length ca)) 24)).alloc (.cells (fsC 0 0 0 (.slice none 0 0)) 24) = w2 at *
  have hN : w.heap.size + 2 = w2.heap.size := by rw [← hw2]; simp
  clear hw2
  have HB := Lib.hid (show _ ∧ _ ∧ _ from ⟨b0, b1, hB0⟩)
  clear b0 b1 hB0
  go_loopw [5, 6] (fun s5 s6 wr => ∃ k : Nat, k ≤ l.length ∧ s6 = .int .i64 k ∧ Below w2.heap.size w2 wr ∧ Aside (wr.ownsRow w2.heap.size 45 6 s5 ((l.take k).filter (fun e => e.ino != n)).length (ndsV ((l.take k).filter (fun e => e.ino != n))))) (fun _ s6 _ => l.length - (intOf s6).toNat)
  case atStart => exact ⟨0, Nat.zero_le _, rfl, Below.refl _ _, World.ownsRow_nil _ _ _ _⟩
  case round =>
    obtain ⟨k, hk, rfl, hbw, HO⟩ := hrel
    have b0 := HB.out.1.next hbw
    obtain ⟨⟨p0, p1, p2, p3⟩, _⟩ := b0.four
    by_cases hlt : k < l.length
    · obtain ⟨b, o, rfl, hb, hcl⟩ := HA.out (by omega)
      obtain ⟨c0, c1, c2, c3, c4, c5⟩ := (hcl k hlt).below hbw hb
      clear hcl b0
      obtain ⟨ae, ne, hye, _⟩ := HE.out _ (List.getElem_mem hlt)
      have hnx := filtN_next (n := n) hlt
      have hfl : ((l.take k).filter (fun e => e.ino != n)).length ≤ l.length := Nat.le_trans (List.length_filter_le _ _) (by simp; omega)
      generalize l[k] = y at *
      obtain ⟨yi, yk, yl, yd, yp, ye, yn⟩ := y
      dsimp only at hye c0 c1 c2 c3 c4 c5 hnx
      subst hye
      cases he : (yi != n)
      · rw [he] at hnx
        have HT2 := Lib.hid hnx
        clear hnx
        go_wp2
        go_roundw
        case rel => exact ⟨k + 1, by omega, by go_num, hbw, by (show World.ownsRow _ _ _ _ _ _ _); rw [HT2.out]; simpa using HO.out⟩
        case measure => simp [intOf]; omega
      · rw [he] at hnx
        have HT2 := Lib.hid hnx
        have hsz := hbw.size
        clear hnx
        generalize (l.take k).filter (fun e => e.ino != n) = F at *
        go_wp2_with (at_builtin; refine wpList_append_new rfl (.tmp 22) (.tmp 28) 22 45 rfl Tryz.underlying22 hi hz0 hz1 hz2 rfl (by decide) (by decide) w2.heap.size (ndC ⟨yi, yk, yl, yd, yp, .slice ae yn.length ne, yn⟩) 1 rfl rfl HO.out rfl (ndC_one _ rfl) (by omega) hsz ?_; intro v2 w3 hown2 hb2)
        have HO2 : Hid (w3.ownsRow w2.heap.size 45 6 v2 (F ++ [(⟨yi, yk, yl, yd, yp, .slice ae yn.length ne, yn⟩ : Nd)]).length (ndsV (F ++ [(⟨yi, yk, yl, yd, yp, .slice ae yn.length ne, yn⟩ : Nd)]))) := by
          (show World.ownsRow _ _ _ _ _ _ _); rw [ndsV_append, List.length_append]; exact hown2
        have hb3 := hbw.trans hb2
        clear hown2 hb2 HO hbw
        go_roundw
        case rel => exact ⟨k + 1, by omega, by go_num, hb3, by (show World.ownsRow _ _ _ _ _ _ _); rw [HT2.out]; simpa using HO2.out⟩
        case measure => simp [intOf]; omega
    · obtain rfl : k = l.length := by omega
      have h1 := HO.out
      rw [List.take_length] at h1
      obtain ⟨a5, c5, rfl⟩ := own_slice h1
      have b1 := HB.out.2.1.next hbw
      have f3 := b0.frozen 3
      have hB1 := HB.out.2.2.trans (hbw.mono (by omega))
      have b4 := b0.set 3 (.slice a5 (l.filter (fun e => e.ino != n)).length c5)
      rw [show (fsC mi mb nx (.slice a l.length ca)).setIfInBounds 3 (.slice a5 (l.filter (fun e => e.ino != n)).length c5) = fsC mi mb nx (.slice a5 (l.filter (fun e => e.ino != n)).length c5) from rfl] at b4
      have b5 := b1.other (B2 := w.heap.size) (i := 3) (by omega) (.slice a5 (l.filter (fun e => e.ino != n)).length c5)
      have hB5 := hB1.setCell (p := ⟨w.heap.size, 3, none⟩) (Nat.le_refl _) (.slice a5 (l.filter (fun e => e.ino != n)).length c5)
      have hown5 := h1.kept (grownBy_set wr w.heap.size 3 (.slice a5 (l.filter (fun e => e.ino != n)).length c5)) (own_not h1 (by omega))
      generalize hw5 : wr.setCell ⟨w.heap.size, 3, none⟩ (.slice a5 (l.filter (fun e => e.ino != n)).length c5) = w5 at *
      obtain ⟨W', hW', hb4, hnew⟩ := store_end (w := w) mi mb nx b5 hown5 hB5 (by omega) (by omega) (by omega)
      obtain ⟨⟨s0, s1, s2, s3⟩, _⟩ := b4.four
      obtain ⟨⟨q0, q1, q2, q3⟩, e0, e1, e2, e3⟩ := b5.four
      clear HO h1 b0 b1 b4 b5 hown5 hbw hB1 hB5
      go_wp2
      obtain ⟨⟨r0, r1, r2, r3⟩, _⟩ := hb4.four
      refine bodyPost_ret (v := .agg (fsC mi mb nx (.slice a5 (l.filter (fun e => e.ino != n)).length c5))) (by simp [results, Tryz.f72, go_sem, r0, r1, r2, r3]) rfl ?_
      exact ⟨_, rfl, hnew⟩
end Go.Proofs.YtobepdmpacdakaaGreat
