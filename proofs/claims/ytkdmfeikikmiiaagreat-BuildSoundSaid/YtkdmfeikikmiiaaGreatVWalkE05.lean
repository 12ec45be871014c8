/- Walks: Set, Drop, Take. -/
import Derived.Test.YtkdmfeikikmiiaaGreatVMWalkB05
import Derived.Test.YtkdmfeikikmiiaaGreatVMWalkB03
set_option linter.unusedVariables false
set_option linter.unusedSimpArgs false
namespace Go.Proofs.YtkdmfeikikmiiaaGreat
open Go.RowKit
theorem partsN_one {w : World} {x : Value} {A : List Nd} (hx : Nds w x A) (t : TypeId) (n : Nat) (hn : n = w.heap.size) : PartsN (w.alloc (.cells #[x] t)) (.slice (some ⟨n, 0, none⟩) 1 1) [A] := by
  subst hn
  have hb : Below w.heap.size w (w.alloc (.cells #[x] t)) := (Below.refl _ w).alloc (Nat.le_refl _) _
  have hB := Blk.new w t #[x]
  refine ⟨_, 1, rfl, fun _ => ⟨w.heap.size, 0, rfl, hB.lt, fun i hi => ?_⟩⟩
  have : i = 0 := by simp at hi; omega
  subst this
  exact ⟨x, (hB.cell 0).trans rfl, hx.below hb⟩
theorem partsN_two {w : World} {x y : Value} {A B : List Nd} (hx : Nds w x A) (hy : Nds w y B) (t : TypeId) (n : Nat) (hn : n = w.heap.size) : PartsN (w.alloc (.cells #[x, y] t)) (.slice (some ⟨n, 0, none⟩) 2 2) [A, B] := by
  subst hn
  have hb : Below w.heap.size w (w.alloc (.cells #[x, y] t)) := (Below.refl _ w).alloc (Nat.le_refl _) _
  have hB := Blk.new w t #[x, y]
  refine ⟨_, 2, rfl, fun _ => ⟨w.heap.size, 0, rfl, hB.lt, fun i hi => ?_⟩⟩
  have : i = 0 ∨ i = 1 := by simp at hi; omega
  rcases this with rfl | rfl
  · exact ⟨x, (hB.cell 0).trans rfl, hx.below hb⟩
  · exact ⟨y, (hB.cell 1).trans rfl, hy.below hb⟩
theorem partsN_three {w : World} {x y z : Value} {A B C : List Nd} (hx : Nds w x A) (hy : Nds w y B) (hz : Nds w z C) (t : TypeId) (n : Nat) (hn : n = w.heap.size) : PartsN (w.alloc (.cells #[x, y, z] t)) (.slice (some ⟨n, 0, none⟩) 3 3) [A, B, C] := by
  subst hn
  have hb : Below w.heap.size w (w.alloc (.cells #[x, y, z] t)) := (Below.refl _ w).alloc (Nat.le_refl _) _
  have hB := Blk.new w t #[x, y, z]
  refine ⟨_, 3, rfl, fun _ => ⟨w.heap.size, 0, rfl, hB.lt, fun i hi => ?_⟩⟩
  have : i = 0 ∨ i = 1 ∨ i = 2 := by simp at hi; omega
  rcases this with rfl | rfl | rfl
  · exact ⟨x, (hB.cell 0).trans rfl, hx.below hb⟩
  · exact ⟨y, (hB.cell 1).trans rfl, hy.below hb⟩
  · exact ⟨z, (hB.cell 2).trans rfl, hz.below hb⟩
theorem own_slice {w : World} {base : Nat} {e : TypeId} {size : Nat} {v : Value} {n : Nat} {xs : List Value} (h : w.ownsRow base e size v n xs) : ∃ a c, v = .slice a n c := by
  rcases own_cases h with ⟨rfl, rfl, _⟩ | ⟨g, cap, rfl, _⟩
  · exact ⟨_, _, rfl⟩
  · exact ⟨_, _, rfl⟩
theorem own_not {w : World} {base : Nat} {e : TypeId} {size : Nat} {v : Value} {n : Nat} {xs : List Value} (h : w.ownsRow base e size v n xs) {B : Nat} (hB : B < base) : v.ownBlock = none ∨ v.ownBlock ≠ some B := by
  rcases own_cases h with ⟨rfl, _⟩ | ⟨g, cap, rfl, hg, _⟩
  · exact .inl rfl
  · right; simp [Value.ownBlock]; omega
/-- The end of Set, Drop, Take: the whole table stored into the result. -/
theorem store_end {w w1 : World} {B : Nat} {t : TypeId} {L : List Nd} {a : Option Addr} {n c : Nat} {N0 : Nat} (mi mb nx : Int) (hr : Blk w1 B t (fsC 0 0 0 (.slice none 0 0))) (hown : w1.ownsRow N0 49 6 (.slice a n c) L.length (ndsV L)) (hb : Below w.heap.size w w1) (hN : w.heap.size ≤ N0) (hB : w.heap.size ≤ B) (hBN : B < N0) :
    ∃ W', (((w1.setCell ⟨B, 0, none⟩ (.int .i64 mi)).setCell ⟨B, 1, none⟩ (.int .i64 mb)).setCell ⟨B, 2, none⟩ (.int .i64 nx)).setCell ⟨B, 3, none⟩ (.slice a n c) = W' ∧ Blk W' B t (fsC mi mb nx (.slice a n c)) ∧ NewNds w L (.slice a n c) W' := by
  obtain ⟨W', hW', hb4, hg4⟩ := hr.put4 (.int .i64 mi) (.int .i64 mb) (.int .i64 nx) (.slice a n c)
  refine ⟨W', hW', hb4, own_base (hown.kept hg4 ?_) hN, below_grown hb hg4 (Nat.le_refl _) hB⟩
  cases a with
  | none => exact .inl rfl
  | some ad =>
    right
    have := (hown.lt ad.block rfl).1
    simp [Value.ownBlock]; omega
set_option maxHeartbeats 2000000 in
theorem TakeN_any (mi mb nx : Int) (l : List Nd) (v : Value) (w : World) (hv : Nds w v l) (hl : l.length ≤ 1000000) (hd : ∀ x ∈ l, x.data.length ≤ 281474976710656) (h0 : 0 ≤ nx) (h1 : nx ≤ 4611686018427387904) :
    Calls Tryz.prog 114 #[.agg (fsC mi mb nx v)] w fun e w' => ∃ y, e = .returned (.tuple #[.agg (fsC mi mb (nx + 1) y), .int .i64 nx]) ∧ NewNds w l y w' := by
  obtain ⟨a, ca, rfl, hc, hm, hea, hna, HA0⟩ := id hv
  clear HA0 hea
  have b1 := (Blk.new (w.alloc (.cells (fsC mi mb (nx + 1) (.slice a l.length ca)) 28)) 28 (fsC 0 0 0 (.slice none 0 0))).alloc (.cells #[.slice a l.length ca] 26)
  have hB0 : Below w.heap.size w ((w.alloc (.cells (fsC mi mb (nx + 1) (.slice a l.length ca)) 28)).alloc (.cells (fsC 0 0 0 (.slice none 0 0)) 28)) := ((Below.refl _ w).alloc (Nat.le_refl _) _).alloc (by simp) _
  have hP := partsN_one (hv.below hB0) 26 (w.heap.size + 1 + 1) (by simp)
  have hB1 := hB0.alloc hB0.size (.cells #[.slice a l.length ca] 26)
  have hH := holding_any mi mb (nx + 1) (.slice a l.length ca) [l] _ _ hP (by simp) (by simpa using hl) (by simpa using hd)
  rw [show [l].flatten = l by simp] at hH
  simp only [World.size_alloc] at b1
  clear hP hB0 hv
  go_enter Tryz.func114, Tryz.ntmps114
  go_wp2_with fail
  refine hH.mono ?_
  rintro e w1 ⟨y, rfl, hown, hb⟩
  obtain ⟨ay, cy, rfl⟩ := own_slice hown
  replace b1 := b1.next hb
  obtain ⟨W', hW', hb4, hnew⟩ := store_end (w := w) mi mb (nx + 1) b1 hown (hB1.trans (hb.mono hB1.size)) (by simp; omega) (by omega) (by simp)
  obtain ⟨⟨q0, q1, q2, q3⟩, e0, e1, e2, e3⟩ := b1.four
  clear b1 hown hb hB1 hH
  go_wp2
  obtain ⟨⟨r0, r1, r2, r3⟩, _⟩ := hb4.four
  refine bodyPost_ret (v := .tuple #[.agg (fsC mi mb (nx + 1) (.slice ay l.length cy)), .int .i64 nx]) (by simp [results, Tryz.f114, go_sem, r0, r1, r2, r3]) rfl ?_
  exact ⟨_, rfl, hnew⟩
set_option maxHeartbeats 4000000 in
theorem SetN_any (mi mb nx : Int) (l : List Nd) (x : Nd) (v : Value) (w : World) (hv : Nds w v l) (hx : Ents w x.ev x.ents) (hs : riseP l) (hl : l.length ≤ 999990) (hd : ∀ y ∈ l, y.data.length ≤ 281474976710656) (hdx : x.data.length ≤ 281474976710656) :
    Calls Tryz.prog 100 #[.agg (fsC mi mb nx v), .agg (ndC x)] w fun e w' => ∃ y, e = .returned (.agg (fsC mi mb nx y)) ∧ NewNds w (setN l x) y w' := by
  obtain ⟨a, ca, rfl, hc, hm, hea, hna, HA0⟩ := id hv
  clear HA0 hea
  unfold maxLen at hm
  obtain ⟨ae, ne, hye, _⟩ := id hx
  obtain ⟨yi, yk, yl, yd, yp, ye, yn⟩ := x
  dsimp only at hye hx hdx
  subst hye
  generalize hY : (⟨yi, yk, yl, yd, yp, .slice ae yn.length ne, yn⟩ : Nd) = Y
  have hYd : Y.data.length ≤ 281474976710656 := by rw [← hY]; exact hdx
  have hYE : EntsAll w [Y] := by intro z hz; rw [List.mem_singleton.1 hz, ← hY]; exact hx
  have hYi : Y.ino = yi := by rw [← hY]
  have b0 := ((Blk.new w 28 (fsC mi mb nx (.slice a l.length ca))).alloc (.cells (ndC Y) 49)).alloc (.cells (fsC 0 0 0 (.slice none 0 0)) 28)
  have b1 := (Blk.new (w.alloc (.cells (fsC mi mb nx (.slice a l.length ca)) 28)) 49 (ndC Y)).alloc (.cells (fsC 0 0 0 (.slice none 0 0)) 28)
  have b2 := Blk.new ((w.alloc (.cells (fsC mi mb nx (.slice a l.length ca)) 28)).alloc (.cells (ndC Y) 49)) 28 (fsC 0 0 0 (.slice none 0 0))
  have hB0 : Below w.heap.size w (((w.alloc (.cells (fsC mi mb nx (.slice a l.length ca)) 28)).alloc (.cells (ndC Y) 49)).alloc (.cells (fsC 0 0 0 (.slice none 0 0)) 28)) := (((Below.refl _ w).alloc (Nat.le_refl _) _).alloc (by simp) _).alloc (by simp; omega) _
  have hv2 := hv.below hB0
  simp only [World.size_alloc] at b1 b2
  clear hv hx hdx
  subst hY
  go_enter Tryz.func100, Tryz.ntmps100
  go_wp2_with fail
  refine (searchN_any l yi _ _ hv2 hs (by omega)).mono ?_
  rintro e w1 ⟨lo, rfl, hS, hb⟩
  have hlo := hS.1
  have hv3 := hv2.below hb
  have hE3 := (hYE.below hB0).below hb
  replace b0 := b0.next hb
  replace b1 := b1.next hb
  replace b2 := b2.next hb
  have hB1 := hB0.trans (hb.mono hB0.size)
  have hlt1 : w.heap.size + 3 ≤ w1.heap.size := by have := hb.size; simp at this; omega
  clear hB0 hv2 hb hYE
  obtain ⟨⟨p0, p1, p2, p3⟩, _⟩ := b0.four
  obtain ⟨⟨s0, s1, s2, s3, s4, s5⟩, _⟩ := b1.six
  unfold SrchN at hS
  generalize hasN l yi = bh at *
  have HS := Lib.hid hS
  have HV := Lib.hid hv3
  clear hS hv3
  have h0 : (0 : Int) ≤ (lo : Int) := by omega
  have h1 : (lo : Int) ≤ (l.length : Int) := by omega
  have h2 : (lo : Int) ≤ (ca : Int) := by omega
  go_upto_region 2 with fail
  go_cut [7] from 16 (fun s7 wc => wc = w1 ∧ ∃ a' c', s7 = .slice a' (l.length - lo) c' ∧ l.length - lo ≤ c' ∧ c' ≤ 9223372036854775807 ∧ Aside (Nds w1 (.slice a' (l.length - lo) c') (l.drop lo)))
  case first =>
    go_wp2_with fail
    all_goals try subst_vars
    all_goals go_meet
    all_goals refine ⟨rfl, _, _, rfl, by omega, by omega, ?_⟩
    all_goals first
      | exact Nds.tail HV.out lo _ _ _ hlo rfl (by omega) (by unfold maxLen; omega) (fun h => by have := hna (by simpa using h); omega) (fun h => rfl)
      | exact Nds.tail HV.out lo _ _ _ hlo rfl (by omega) (by unfold maxLen; omega) (fun h => rfl) (fun h => by omega)
  case rest =>
    obtain ⟨hwc, a1, c1, rfl, hc1, hc1m, H7⟩ := hcut
    subst hwc
    go_upto_if 20 with (fail)
    go_cut [7] from 21 (fun s7 wd => wd = wc ∧ ∃ a' m' c', s7 = .slice a' m' c' ∧ Aside (Nds wc (.slice a' m' c') (behindN l yi)))
    case first =>
      cases bh
      · have HB := Lib.hid (HS.out.2.2.2 rfl)
        go_wp2_with fail
        go_meet
        exact ⟨rfl, _, _, _, rfl, by rw [← HB.out]; exact H7.out⟩
      · obtain ⟨hk, _, hB⟩ := HS.out.2.2.1 rfl
        have HB := Lib.hid hB
        clear hB
        have h3 : (1 : Int) ≤ ((l.length - lo : Nat) : Int) := by omega
        have h4 : (1 : Int) ≤ (c1 : Int) := by omega
        have hN1 : a1 = none → c1 = 0 := by
          obtain ⟨_, _, e, _, _, _, h, _⟩ := H7.out
          simp only [Value.slice.injEq] at e
          obtain ⟨rfl, _, rfl⟩ := e
          exact h
        have hdl : (l.drop lo).length = l.length - lo := List.length_drop ..
        have hdd : (l.drop lo).drop 1 = behindN l yi := by rw [List.drop_drop, HB.out]
        go_wp2_with fail
        all_goals try subst_vars
        all_goals go_meet
        all_goals refine ⟨rfl, _, _, _, rfl, ?_⟩
        all_goals rw [← hdd]
        all_goals first
          | exact Nds.tail H7.out 1 _ _ _ (by omega) (by omega) (by omega) (by unfold maxLen; omega) (fun h => by have := hN1 (by simpa using h); omega) (fun h => rfl)
          | exact Nds.tail H7.out 1 _ _ _ (by omega) (by omega) (by omega) (by unfold maxLen; omega) (fun h => rfl) (fun h => by omega)
    case rest =>
      obtain ⟨hwd, a2, m2, c2, rfl, H8⟩ := hcut
      subst hwd
      have hone : Nds (wc.alloc (.cells (ndC ⟨yi, yk, yl, yd, yp, .slice ae yn.length ne, yn⟩) 49)) (.slice (some ⟨wc.heap.size, 0, none⟩) 1 1) [⟨yi, yk, yl, yd, yp, .slice ae yn.length ne, yn⟩] :=
        blk_nds (L := [⟨yi, yk, yl, yd, yp, .slice ae yn.length ne, yn⟩]) (Blk.new wc 49 _) (by simp [maxLen]) (hE3.below ((Below.refl _ wc).alloc (Nat.le_refl _) _)) 1 rfl
      have hbo : Below wc.heap.size wc (wc.alloc (.cells (ndC ⟨yi, yk, yl, yd, yp, .slice ae yn.length ne, yn⟩) 49)) := (Below.refl _ wc).alloc (Nat.le_refl _) _
      have hah : Nds wc (.slice a lo ca) (aheadN l yi) := by rw [← HS.out.2.1]; exact Nds.head HV.out lo ca hlo (by omega) (by unfold maxLen; omega) hna
      have hP : PartsN ((wc.alloc (.cells (ndC ⟨yi, yk, yl, yd, yp, .slice ae yn.length ne, yn⟩) 49)).alloc (.cells #[.slice a lo ca, .slice (some ⟨wc.heap.size, 0, none⟩) 1 1, .slice a2 m2 c2] 26)).drew (.slice (some ⟨wc.heap.size + 1, 0, none⟩) 3 3) [aheadN l yi, [⟨yi, yk, yl, yd, yp, .slice ae yn.length ne, yn⟩], behindN l yi] :=
        partsN_three (hah.below hbo) hone (H8.out.below hbo) 26 (wc.heap.size + 1) (by simp)
      have hBw : Below w.heap.size w ((wc.alloc (.cells (ndC ⟨yi, yk, yl, yd, yp, .slice ae yn.length ne, yn⟩) 49)).alloc (.cells #[.slice a lo ca, .slice (some ⟨wc.heap.size, 0, none⟩) 1 1, .slice a2 m2 c2] 26)).drew :=
        ((hB1.trans (hbo.mono hB1.size)).alloc (Nat.le_trans hB1.size hbo.size) _).drew
      have b3 : Blk ((wc.alloc (.cells (ndC ⟨yi, yk, yl, yd, yp, .slice ae yn.length ne, yn⟩) 49)).alloc (.cells #[.slice a lo ca, .slice (some ⟨wc.heap.size, 0, none⟩) 1 1, .slice a2 m2 c2] 26)).drew (w.heap.size + 1 + 1) 28 (fsC 0 0 0 (.slice none 0 0)) := (b2.alloc _).alloc _
      have hfl : [aheadN l yi, [⟨yi, yk, yl, yd, yp, .slice ae yn.length ne, yn⟩], behindN l yi].flatten = setN l ⟨yi, yk, yl, yd, yp, .slice ae yn.length ne, yn⟩ := by simp [setN]
      have hle := setN_len l ⟨yi, yk, yl, yd, yp, .slice ae yn.length ne, yn⟩
      have hH := holding_any mi mb nx (.slice a l.length ca) _ _ _ hP (by simp) (by rw [hfl]; omega) (by
        rw [hfl]; intro z hz
        rcases mem_setN hz with rfl | hz
        · exact hYd
        · exact hd z hz)
      rw [hfl] at hH
      have HH := Lib.hid (show _ ∧ _ from ⟨hBw, b3⟩)
      obtain ⟨⟨u0, u1, u2, u3⟩, _⟩ := (b0.alloc (.cells (ndC ⟨yi, yk, yl, yd, yp, .slice ae yn.length ne, yn⟩) 49)).four
      obtain ⟨⟨t0, t1, t2, t3⟩, _⟩ := ((b0.alloc (.cells (ndC ⟨yi, yk, yl, yd, yp, .slice ae yn.length ne, yn⟩) 49)).alloc (.cells #[.slice a lo ca, .slice (some ⟨wc.heap.size, 0, none⟩) 1 1, .slice a2 m2 c2] 26)).four
      have ne1 : ¬ (w.heap.size = wc.heap.size) := by omega
      have ne2 : ¬ (wc.heap.size = w.heap.size) := by omega
      clear hone hbo hah hP hBw b3 hfl b0 b1 b2
      go_upto_region 5 with fail
      go_region_with (go_at_call 121; refine hH.mono ?_; rintro e w5 ⟨y, rfl, hown, hb⟩; obtain ⟨ay, cy, rfl⟩ := own_slice hown; obtain ⟨hBw, b3⟩ := HH.out; obtain ⟨W', hW', hb4, hnew⟩ := store_end (w := w) mi mb nx (b3.next hb) hown (hBw.trans (hb.mono hBw.size)) hBw.size (by omega) b3.lt; obtain ⟨⟨q0, q1, q2, q3⟩, e0, e1, e2, e3⟩ := (b3.next hb).four)
      all_goals go_wp2
      all_goals obtain ⟨⟨r0, r1, r2, r3⟩, _⟩ := hb4.four
      all_goals refine bodyPost_ret (v := .agg (fsC mi mb nx (.slice ay (setN l ⟨yi, yk, yl, yd, yp, .slice ae yn.length ne, yn⟩).length cy))) (by simp [results, Tryz.f100, go_sem, r0, r1, r2, r3]) rfl ?_
      all_goals exact ⟨_, rfl, hnew⟩
end Go.Proofs.YtkdmfeikikmiiaaGreat
