/- For every table of few inodes that rise, and every inode: what is handed in to Set and Drop stays, and what they answer is new memory (no condition). -/
import Derived.Test.YtjdpkienljenhaaLawBase05
import Derived.Test.YtjdpkienljenhaaLawC05
import Derived.Test.YtjdpkienljenhaaKeep05
import Derived.BigQuiet
namespace Go.Proofs.Ytjdpkienljenhaa
open Go.ChangeShapes Go.WideShapes Go.ChangeAt Go.RowKit
open Go.ChangeMaps (open_string shut_string)
set_option linter.unusedVariables false

set_option maxHeartbeats 8000000 in
set_option maxRecDepth 100000 in
theorem lawKeeps (mi mb nx : Int) (l : List Nd) (x : Nd) (v : Value) (w : World) (hv : Nds w v l) (hx : Ents w x.ev x.ents) (hxd : x.data.length ≤ 281474976710656) :
    Calls Try.prog 8 #[.agg (fsC mi mb nx v), .agg (ndC x)] w fun e w' => e = .returned (.bool true) ∧ Below w.heap.size w w' := by
  obtain ⟨i0, hif, hz0, hz1, hz2⟩ := info_parts infoN
  have HV0 := Lib.hid hv
  obtain ⟨a, ca, rfl⟩ := nds_slice hv
  obtain ⟨ae, ne, hye, _⟩ := id hx
  obtain ⟨yi, yk, yl, yd, yp, ye, yn⟩ := x
  dsimp only at hye hx hxd
  subst hye
  have bF := (Blk.new w 25 (fsC mi mb nx (.slice a l.length ca))).alloc (.cells (ndC ⟨yi, yk, yl, yd, yp, .slice ae yn.length ne, yn⟩) 35)
  have bX := Blk.new (w.alloc (.cells (fsC mi mb nx (.slice a l.length ca)) 25)) 35 (ndC ⟨yi, yk, yl, yd, yp, .slice ae yn.length ne, yn⟩)
  have hB : Below w.heap.size w ((w.alloc (.cells (fsC mi mb nx (.slice a l.length ca)) 25)).alloc (.cells (ndC ⟨yi, yk, yl, yd, yp, .slice ae yn.length ne, yn⟩) 35)) := ((Below.refl _ w).alloc (Nat.le_refl _) _).alloc (by simp) _
  have nV := hv.below hB
  have HX0 := Lib.hid hx
  replace hx := hx.below hB
  simp only [World.size_alloc] at bX
  clear hv
  cases hf : fewN l
  · go_enter Try.func8, Try.ntmps8
    go_wp2_with fail; refine (awake_any _).mono ?_; rintro e w1 ⟨rfl, b1⟩
    (replace bX := bX.next b1; replace hx := hx.below b1; replace bF := bF.next b1; replace nV := nV.below b1; replace hB := hB.trans (b1.mono hB.size))
    obtain ⟨⟨p0, p1, p2, p3⟩, _⟩ := bF.four
    go_wp2_with fail; refine (fewT_any mi mb nx l _ _ nV).mono ?_; rintro e w2 ⟨rfl, b2⟩
    (replace bX := bX.next b2; replace hx := hx.below b2; replace bF := bF.next b2; replace nV := nV.below b2; replace hB := hB.trans (b2.mono hB.size))
    rw [hf]
    go_wp2_with fail; refine (awake_any _).mono ?_; rintro e w9 ⟨rfl, b9⟩
    go_wp2
    go_ret
    exact ⟨rfl, hB.trans (b9.mono hB.size)⟩
  have hsm := fewN_small hf
  have hl40 := hsm.1
  have hd : ∀ y ∈ l, y.data.length ≤ 281474976710656 := fun y hy => Nat.le_trans (hsm.2 y hy) (by decide)
  have HD := Lib.hid hd
  clear hd hsm
  cases hr : riseN l
  · go_enter Try.func8, Try.ntmps8
    go_wp2_with fail; refine (awake_any _).mono ?_; rintro e w1 ⟨rfl, b1⟩
    (replace bX := bX.next b1; replace hx := hx.below b1; replace bF := bF.next b1; replace nV := nV.below b1; replace hB := hB.trans (b1.mono hB.size))
    obtain ⟨⟨p0, p1, p2, p3⟩, _⟩ := bF.four
    go_wp2_with fail; refine (fewT_any mi mb nx l _ _ nV).mono ?_; rintro e w2 ⟨rfl, b2⟩
    (replace bX := bX.next b2; replace hx := hx.below b2; replace bF := bF.next b2; replace nV := nV.below b2; replace hB := hB.trans (b2.mono hB.size))
    rw [hf]
    clear p0 p1 p2 p3
    obtain ⟨⟨p0, p1, p2, p3⟩, _⟩ := bF.four
    go_wp2_with fail; refine (riseT_any mi mb nx l _ _ nV (by omega)).mono ?_; rintro e w3 ⟨rfl, b3⟩
    (replace bX := bX.next b3; replace hx := hx.below b3; replace bF := bF.next b3; replace nV := nV.below b3; replace hB := hB.trans (b3.mono hB.size))
    rw [hr]
    go_wp2_with fail; refine (awake_any _).mono ?_; rintro e w9 ⟨rfl, b9⟩
    go_wp2
    go_ret
    exact ⟨rfl, hB.trans (b9.mono hB.size)⟩
  have hrp := (riseN_iff l).1 hr
  go_enter Try.func8, Try.ntmps8
  go_wp2_with fail; refine (awake_any _).mono ?_; rintro e w1 ⟨rfl, b1⟩
  (replace bX := bX.next b1; replace hx := hx.below b1; replace bF := bF.next b1; replace nV := nV.below b1; replace hB := hB.trans (b1.mono hB.size))
  obtain ⟨⟨p0, p1, p2, p3⟩, _⟩ := bF.four
  go_wp2_with fail; refine (fewT_any mi mb nx l _ _ nV).mono ?_; rintro e w2 ⟨rfl, b2⟩
  (replace bX := bX.next b2; replace hx := hx.below b2; replace bF := bF.next b2; replace nV := nV.below b2; replace hB := hB.trans (b2.mono hB.size))
  rw [hf]
  clear p0 p1 p2 p3
  obtain ⟨⟨p0, p1, p2, p3⟩, _⟩ := bF.four
  go_wp2_with fail; refine (riseT_any mi mb nx l _ _ nV (by omega)).mono ?_; rintro e w3 ⟨rfl, b3⟩
  (replace bX := bX.next b3; replace hx := hx.below b3; replace bF := bF.next b3; replace nV := nV.below b3; replace hB := hB.trans (b3.mono hB.size))
  rw [hr]
  clear p0 p1 p2 p3 b1 b2 b3
  obtain ⟨⟨p0, p1, p2, p3⟩, _⟩ := bF.four
  have hgx : w.heap.size + 1 < w3.heap.size := bX.lt
  go_wp2_with (at_make; refine wpList_make_full _ rfl _ _ 23 rfl w3.heap.size 35 i0 (.agg #[.int .i64 0, .int .i64 0, .int .i64 0, .string ⟨#[]⟩, .int .i64 0, .slice none 0 0]) 6 Try.underlying23 hif hz0 hz1 _ _ _ _ (l.length + 2) rfl rfl (by omega) (by omega) (by rw [hz2]; omega) (by unfold maxLen; omega) (Nat.le_refl _) ?_; intro w4 hown hgr; have hgg := (Below.refl w3.heap.size w3).grown hgr (Nat.le_refl _) (fun k hk => by cases hk); obtain ⟨w5, hrun, bG, hbl⟩ := room_copyN (by unfold maxLen; omega) hown (nV.below hgg); have h35 := hbl _ _ hgg (Nat.le_refl _); obtain ⟨⟨q0, q1, q2, q3⟩, _⟩ := (bF.next hgg).four; obtain ⟨⟨r0, r1, r2, r3⟩, _⟩ := (bF.next h35).four; obtain ⟨⟨s0, s1, s2, s3, s4, s5⟩, _⟩ := (bX.next h35).six; dsimp only at s0 s1 s2 s3 s4 s5; obtain ⟨⟨t0, t1, t2, t3⟩, _⟩ := ((bF.next h35).alloc (.cells (fsC mi mb nx (.slice a l.length ca)) 25)).four; obtain ⟨⟨m0, m1, m2, m3, m4, m5⟩, _⟩ := ((bX.next h35).alloc (.cells #[.int .i64 mi, .int .i64 mb, .int .i64 nx, .slice (some ⟨w3.heap.size, 0, none⟩) l.length (l.length + 2)] 25)).six; dsimp only at m0 m1 m2 m3 m4 m5; have ne1 : ¬ (w.heap.size = w5.heap.size) := (by have := h35.size; omega); have ne2 : ¬ (w5.heap.size = w.heap.size) := (by omega); have ne3 : ¬ (w.heap.size + 1 = w5.heap.size) := (by have := h35.size; omega); have ne4 : ¬ (w5.heap.size = w.heap.size + 1) := (by omega))
  have hB5 := hB.trans (h35.mono hB.size)
  replace bF := bF.next h35
  replace bX := bX.next h35
  replace nV := nV.below h35
  replace hx := hx.below h35
  have hg0 : w.heap.size + 1 < w3.heap.size := hgx
  clear t0 t1 t2 t3 m0 m1 m2 m3 m4 m5 h35 hgg hown hgr hrun hbl hB q0 q1 q2 q3 r0 r1 r2 r3 s0 s1 s2 s3 s4 s5 ne1 ne2 ne3 ne4 p0 p1 p2 p3 hgx
  generalize w3.heap.size = g at *
  have nO := room_ownN bG (by unfold maxLen; omega) nV.all
  have bO : Blk (w5.alloc (.cells #[.int .i64 mi, .int .i64 mb, .int .i64 nx, .slice (some ⟨g, 0, none⟩) l.length (l.length + 2)] 25)) w5.heap.size 25 (fsC mi mb nx (.slice (some ⟨g, 0, none⟩) l.length (l.length + 2))) := Blk.new w5 25 _
  have hS := alloc_below w5 (.cells #[.int .i64 mi, .int .i64 mb, .int .i64 nx, .slice (some ⟨g, 0, none⟩) l.length (l.length + 2)] 25)
  replace bF := bF.next hS
  replace bX := bX.next hS
  replace nV := nV.below hS
  replace hx := hx.below hS
  have hgO : g < w5.heap.size := bG.lt
  replace bG := bG.next hS
  replace nO := nO.below hS
  replace hB5 := hB5.trans (hS.mono hB5.size)
  clear hS
  generalize w5.alloc (.cells #[.int .i64 mi, .int .i64 mb, .int .i64 nx, .slice (some ⟨g, 0, none⟩) l.length (l.length + 2)] 25) = Ao at *
  generalize w5.heap.size = Bo at *
  -- Set(own, x)
  refine (SetN_any mi mb nx l ⟨yi, yk, yl, yd, yp, .slice ae yn.length ne, yn⟩ _ _ nO hx hrp (by omega) HD.out hxd).mono ?_
  rintro e w6 ⟨v6, rfl, hnA⟩
  obtain ⟨a6, c6, rfl⟩ := own_slice hnA.1
  obtain ⟨A6, hA⟩ : ∃ A6, w6.alloc (.cells (fsC mi mb nx (.slice a6 (setN l ⟨yi, yk, yl, yd, yp, .slice ae yn.length ne, yn⟩).length c6)) 25) = A6 := ⟨_, rfl⟩
  have bA : Blk A6 w6.heap.size 25 (fsC mi mb nx (.slice a6 (setN l ⟨yi, yk, yl, yd, yp, .slice ae yn.length ne, yn⟩).length c6)) := by rw [← hA]; exact Blk.new _ _ _
  have hS0 : Below w6.heap.size w6 A6 := by rw [← hA]; exact alloc_below _ _
  have hgA := bG.lt
  have oA := own_base (own_keep hnA.1 hS0) (base' := g + 1) hgA
  have hS := hnA.2.trans (hS0.mono hnA.2.size)
  have hBoA : Bo < w6.heap.size := Nat.lt_of_lt_of_le bO.lt hnA.2.size
  replace bF := bF.next hS
  replace bX := bX.next hS
  replace bO := bO.next hS
  replace bG := bG.next hS
  replace nO := nO.below hS
  replace nV := nV.below hS
  replace hB5 := hB5.trans (hS.mono hB5.size)
  clear hS hS0 hnA
  obtain ⟨⟨p0, p1, p2, p3⟩, _⟩ := bO.four
  obtain ⟨⟨s0, s1, s2, s3, s4, s5⟩, _⟩ := bX.six
  dsimp only at s0 s1 s2 s3 s4 s5
  go_wp2_with fail
  clear hA p0 p1 p2 p3 s0 s1 s2 s3 s4 s5
  generalize w6.heap.size = Ba at *
  -- Drop(own, x.Ino)
  refine (DropN_any mi mb nx yi l _ _ nO hrp (by omega) HD.out).mono ?_
  rintro e w7 ⟨v7, rfl, hnB⟩
  obtain ⟨a7, c7, rfl⟩ := own_slice hnB.1
  obtain ⟨A7, hA⟩ : ∃ A7, w7.alloc (.cells (fsC mi mb nx (.slice a7 (dropN l yi).length c7)) 25) = A7 := ⟨_, rfl⟩
  have bB : Blk A7 w7.heap.size 25 (fsC mi mb nx (.slice a7 (dropN l yi).length c7)) := by rw [← hA]; exact Blk.new _ _ _
  have hS0 : Below w7.heap.size w7 A7 := by rw [← hA]; exact alloc_below _ _
  have hgB := bG.lt
  have oB := own_base (own_keep hnB.1 hS0) (base' := g + 1) hgB
  have hS := hnB.2.trans (hS0.mono hnB.2.size)
  have hBaB : Ba < w7.heap.size := Nat.lt_of_lt_of_le bA.lt hnB.2.size
  replace bF := bF.next hS
  replace bX := bX.next hS
  replace bO := bO.next hS
  replace bA := bA.next hS
  replace bG := bG.next hS
  replace oA := own_keep oA hS
  replace nO := nO.below hS
  replace nV := nV.below hS
  replace hB5 := hB5.trans (hS.mono hB5.size)
  clear hS hS0 hnB
  obtain ⟨⟨p0, p1, p2, p3⟩, _⟩ := bO.four
  obtain ⟨⟨q0, q1, q2, q3⟩, _⟩ := bF.four
  go_wp2_with fail
  clear hA p0 p1 p2 p3 q0 q1 q2 q3
  generalize w7.heap.size = Bb at *
  -- Same(own, f)
  refine (tab_same mi mb nx l _ _ _ nO nV).mono ?_
  rintro e w8 ⟨rfl, b8⟩
  replace bF := bF.next b8
  replace bX := bX.next b8
  replace bO := bO.next b8
  replace bA := bA.next b8
  replace bB := bB.next b8
  replace bG := bG.next b8
  replace oA := own_keep oA b8
  replace oB := own_keep oB b8
  replace hB5 := hB5.trans (b8.mono hB5.size)
  clear b8 nO nV
  have hlr : l.length < (l ++ List.replicate 2 zeroN).length := by rw [List.length_append, List.length_replicate]; omega
  have hzz : (l ++ List.replicate 2 zeroN)[l.length] = zeroN := by
    rw [List.getElem_append_right (Nat.le_refl _)]; simp
  have hat := ndsV_at (l ++ List.replicate 2 zeroN) l.length hlr
  rw [hzz] at hat
  have hcg : ∀ j, w8.cell? ⟨g, j, none⟩ = (ndsV (l ++ List.replicate 2 zeroN))[j]? := fun j => by rw [bG.cell]; simp
  have z0 := (hcg _).trans hat.1
  have z1 := (hcg _).trans hat.2.1
  have z2 := (hcg _).trans hat.2.2.1
  have z3 := (hcg _).trans hat.2.2.2.1
  have z4 := (hcg _).trans hat.2.2.2.2.1
  have z5 := (hcg _).trans hat.2.2.2.2.2
  simp only [zeroN] at z0 z1 z2 z3 z4 z5
  obtain ⟨⟨q0, q1, q2, q3⟩, _⟩ := bF.four
  clear hcg hat hzz hlr
  go_wp2_with fail
  refine (one_same zeroN _ (Ents.nil_ _)).mono ?_
  rintro e w9 ⟨rfl, b9⟩
  clear z0 z1 z2 z3 z4 z5 q0 q1 q2 q3
  have HALL := Lib.hid (show _ ∧ _ ∧ _ ∧ _ ∧ _ ∧ _ ∧ _ ∧ _ from ⟨bF.next b9, bX.next b9, bO.next b9, bA.next b9, bB.next b9, bG.next b9, own_keep oA b9, own_keep oB b9⟩)
  have HB9 := Lib.hid (hB5.trans (b9.mono hB5.size))
  have hFg : w.heap.size < g := by omega
  clear bF bX bO bA bB bG oA oB b9 hB5
  go_wp2
  have hg9 : g < w9.heap.size := HALL.out.2.2.2.2.2.1.lt
  go_loopw [9] (fun s9 wr => ∃ k : Nat, k ≤ l.length ∧ s9 = .int .i64 k ∧ Below g w9 wr ∧ Aside (∃ C : Array Value, C.size = (l.length + 2) * 6 ∧ Blk wr g 35 C) ∧ Aside (Blk wr Bo 25 (fsC mi mb nx (.slice (some ⟨g, 0, none⟩) l.length (l.length + 2)))) ∧
    Aside (Blk wr Ba 25 (fsC mi mb nx (.slice a6 (setN l ⟨yi, yk, yl, yd, yp, .slice ae yn.length ne, yn⟩).length c6))) ∧ Aside (Blk wr Bb 25 (fsC mi mb nx (.slice a7 (dropN l yi).length c7))) ∧
    Aside (wr.ownsRow (g + 1) 35 6 (.slice a6 (setN l ⟨yi, yk, yl, yd, yp, .slice ae yn.length ne, yn⟩).length c6) (setN l ⟨yi, yk, yl, yd, yp, .slice ae yn.length ne, yn⟩).length (ndsV (setN l ⟨yi, yk, yl, yd, yp, .slice ae yn.length ne, yn⟩))) ∧ Aside (wr.ownsRow (g + 1) 35 6 (.slice a7 (dropN l yi).length c7) (dropN l yi).length (ndsV (dropN l yi)))) (fun s9 _ => l.length - (intOf s9).toNat)
  case atStart =>
    obtain ⟨_, _, h3, h4, h5, h6, h7, h8⟩ := HALL.out
    exact ⟨0, Nat.zero_le _, rfl, Below.refl _ _, ⟨_, by rw [List.size_toArray, ndsV_len, List.length_append, List.length_replicate], h6⟩, h3, h4, h5, h7, h8⟩
  case round =>
    obtain ⟨k, hk, rfl, hbw, HG, HO, HA, HBb, HOA, HOB⟩ := hrel
    obtain ⟨⟨p0, p1, p2, p3⟩, _⟩ := HO.out.four
    by_cases hlt : k < l.length
    · obtain ⟨C, hC, hCB⟩ := HG.out
      obtain ⟨x0, x1, x2, x3, x4, x5, ⟨c0, c1, c2, c3, c4, c5⟩, f0, f1, f2, f3, f4, f5⟩ := hCB.at_six (o := k * 6) (by omega)
      obtain ⟨W', C', hW', hCB', hC', hg'⟩ := hCB.six_at (k * 6) (.int .i64 0) (.int .i64 0) (.int .i64 0) (.string ⟨#[]⟩) (.int .i64 0) (.slice none 0 0)
      have HC := Lib.hid (show _ ∧ _ from ⟨hC'.trans hC, hCB'⟩)
      have HK := Lib.hid (show _ ∧ _ ∧ _ ∧ _ ∧ _ ∧ _ from ⟨below_grown hbw hg' (Nat.le_of_lt hg9) (Nat.le_refl _), HO.out.kept hg' (by simp; omega), HA.out.kept hg' (by simp; omega), HBb.out.kept hg' (by simp; omega), HOA.out.kept hg' (own_not HOA.out (Nat.lt_succ_self _)), HOB.out.kept hg' (own_not HOB.out (Nat.lt_succ_self _))⟩)
      clear HG hC hCB hC' hCB' hg' HO HA HBb HOA HOB hbw
      go_wp2
      go_roundw
      case rel =>
        obtain ⟨h1, h2, h3, h4, h5, h6⟩ := HK.out
        exact ⟨k + 1, by omega, by go_num, h1, ⟨_, HC.out.1, HC.out.2⟩, h2, h3, h4, h5, h6⟩
      case measure => simp [intOf]; omega
    · obtain rfl : k = l.length := by omega
      have hbW := HB9.out.trans (hbw.mono (by omega))
      have bF := HALL.out.1.below hbw (by omega)
      have bX := HALL.out.2.1.below hbw (by omega)
      have nV := HV0.out.below hbW
      have hx := HX0.out.below hbW
      have nA : Nds wr (.slice a6 (setN l ⟨yi, yk, yl, yd, yp, .slice ae yn.length ne, yn⟩).length c6) (setN l ⟨yi, yk, yl, yd, yp, .slice ae yn.length ne, yn⟩) := own_nds HOA.out (fun z hz => by
        rcases mem_setN hz with rfl | hz
        · exact hx
        · exact nV.all z hz)
      have nB : Nds wr (.slice a7 (dropN l yi).length c7) (dropN l yi) := own_nds HOB.out (nV.all.sub fun z hz => mem_dropN hz)
      have bA := HA.out
      have bB := HBb.out
      clear HALL HG HO HA HBb HOA HOB HV0 HX0 HB9 hbw
      go_upto_region 15 with fail
      have HMK : ∀ W, Below wr.heap.size wr W → (W.cell? ⟨Ba, 0, none⟩ = some (.int .i64 mi) ∧ W.cell? ⟨Ba, 1, none⟩ = some (.int .i64 mb) ∧ W.cell? ⟨Ba, 2, none⟩ = some (.int .i64 nx) ∧ W.cell? ⟨Ba, 3, none⟩ = some (.slice a6 (setN l ⟨yi, yk, yl, yd, yp, .slice ae yn.length ne, yn⟩).length c6) ∧ W.cell? ⟨w.heap.size, 0, none⟩ = some (.int .i64 mi) ∧ W.cell? ⟨w.heap.size, 1, none⟩ = some (.int .i64 mb) ∧ W.cell? ⟨w.heap.size, 2, none⟩ = some (.int .i64 nx) ∧ W.cell? ⟨w.heap.size, 3, none⟩ = some (.slice a l.length ca) ∧ W.cell? ⟨w.heap.size + 1, 0, none⟩ = some (.int .i64 yi) ∧ W.cell? ⟨w.heap.size + 1, 1, none⟩ = some (.int .i64 yk) ∧ W.cell? ⟨w.heap.size + 1, 2, none⟩ = some (.int .i64 yl) ∧ W.cell? ⟨w.heap.size + 1, 3, none⟩ = some (.string ⟨yd.toArray⟩) ∧ W.cell? ⟨w.heap.size + 1, 4, none⟩ = some (.int .i64 yp) ∧ W.cell? ⟨w.heap.size + 1, 5, none⟩ = some (.slice ae yn.length ne) ∧ W.cell? ⟨Bb, 0, none⟩ = some (.int .i64 mi) ∧ W.cell? ⟨Bb, 1, none⟩ = some (.int .i64 mb) ∧ W.cell? ⟨Bb, 2, none⟩ = some (.int .i64 nx) ∧ W.cell? ⟨Bb, 3, none⟩ = some (.slice a7 (dropN l yi).length c7)) := by
        intro W h
        obtain ⟨⟨x0, x1, x2, x3⟩, _⟩ := (bA.next h).four
        obtain ⟨⟨y0, y1, y2, y3⟩, _⟩ := (bF.next h).four
        obtain ⟨⟨z0, z1, z2, z3, z4, z5⟩, _⟩ := (bX.next h).six
        obtain ⟨⟨t0, t1, t2, t3⟩, _⟩ := (bB.next h).four
        exact ⟨x0, x1, x2, x3, y0, y1, y2, y3, z0, z1, z2, z3, z4, z5, t0, t1, t2, t3⟩
      have hq := (Below.refl wr.heap.size wr).drew
      clear bA bF bX bB p0 p1 p2 p3
      go_region_held3 (fun W => W.cell? ⟨Ba, 0, none⟩ = some (.int .i64 mi) ∧ W.cell? ⟨Ba, 1, none⟩ = some (.int .i64 mb) ∧ W.cell? ⟨Ba, 2, none⟩ = some (.int .i64 nx) ∧ W.cell? ⟨Ba, 3, none⟩ = some (.slice a6 (setN l ⟨yi, yk, yl, yd, yp, .slice ae yn.length ne, yn⟩).length c6) ∧ W.cell? ⟨w.heap.size, 0, none⟩ = some (.int .i64 mi) ∧ W.cell? ⟨w.heap.size, 1, none⟩ = some (.int .i64 mb) ∧ W.cell? ⟨w.heap.size, 2, none⟩ = some (.int .i64 nx) ∧ W.cell? ⟨w.heap.size, 3, none⟩ = some (.slice a l.length ca) ∧ W.cell? ⟨w.heap.size + 1, 0, none⟩ = some (.int .i64 yi) ∧ W.cell? ⟨w.heap.size + 1, 1, none⟩ = some (.int .i64 yk) ∧ W.cell? ⟨w.heap.size + 1, 2, none⟩ = some (.int .i64 yl) ∧ W.cell? ⟨w.heap.size + 1, 3, none⟩ = some (.string ⟨yd.toArray⟩) ∧ W.cell? ⟨w.heap.size + 1, 4, none⟩ = some (.int .i64 yp) ∧ W.cell? ⟨w.heap.size + 1, 5, none⟩ = some (.slice ae yn.length ne) ∧ W.cell? ⟨Bb, 0, none⟩ = some (.int .i64 mi) ∧ W.cell? ⟨Bb, 1, none⟩ = some (.int .i64 mb) ∧ W.cell? ⟨Bb, 2, none⟩ = some (.int .i64 nx) ∧ W.cell? ⟨Bb, 3, none⟩ = some (.slice a7 (dropN l yi).length c7))
        (exact HMK _ hq)
        (first
          | (go_at_call 21; refine (refSet_call mi mb nx l ⟨yi, yk, yl, yd, yp, .slice ae yn.length ne, yn⟩ _ _ (nV.below hq) (hx.below hq) hrp hl40).mono ?_; rintro e wz ⟨y1, rfl, nS, bz⟩; obtain ⟨ad1, cd1, rfl⟩ := nds_slice nS; have hq := hq.trans (bz.mono hq.size))
          | (go_at_call_of 11 (Value.slice a6 (setN l ⟨yi, yk, yl, yd, yp, .slice ae yn.length ne, yn⟩).length c6); refine (tab_same mi mb nx (setN l ⟨yi, yk, yl, yd, yp, .slice ae yn.length ne, yn⟩) _ _ _ (nA.below hq) nS).mono ?_; rintro e wz ⟨rfl, bz⟩; have hq := hq.trans (bz.mono hq.size))
          | (go_at_call 19; refine (refDrop_call mi mb nx yi l _ _ (nV.below hq) hrp hl40).mono ?_; rintro e wz ⟨y2, rfl, nD, bz⟩; obtain ⟨ad2, cd2, rfl⟩ := nds_slice nD; have hq := hq.trans (bz.mono hq.size))
          | (go_at_call 11; refine (tab_same mi mb nx (dropN l yi) _ _ _ (nB.below hq) nD).mono ?_; rintro e wz ⟨rfl, bz⟩; have hq := hq.trans (bz.mono hq.size)))
      all_goals go_wp2
      all_goals go_ret
      all_goals exact ⟨rfl, hbW.trans (hq.mono hbW.size)⟩

namespace LTableKeeps
set_option maxRecDepth 100000 in
theorem lifted (os : Os) (started : os.Started) (H : Type) (enc : TypeId × Value → H) :
    ReturnsInHanded {} Try.checked os 8 .any (Rows.tableKeepsSpec.pre6 enc Try.prog Try.f8 Rows.tableKeepsRow.domain false) (Rows.tableKeepsSpec.post enc Try.prog Try.f8 false true false false) := by
  refine returnsInHanded_of_change_sized (C := Try.checked) (by kernel_rfl) started (by kernel_rfl) Try.func8
    (ChangeSpec.witness6 (enc := enc) (C := Try.checked) false ⟨#[], #[.agg #[.int .i64 0, .int .i64 0, .int .i64 0, .slice none 0 0], .agg #[.int .i64 0, .int .i64 0, .int .i64 0, .string ⟨#[]⟩, .int .i64 0, .slice none 0 0]], []⟩ 8 (by kernel_rfl) (by kernel_rfl) (by kernel_rfl) (by kernel_rfl)) ?_
  intro W base args ds gs before hval0 hW hcnd hsz0 _
  have hval : ∀ (j : Nat) t v, Try.f8.params[j]? = some t → args[j]? = some v → Value.okWide Try.prog W .any base t v := hval0
  have hW' := hW
  obtain ⟨p, q, hA0, hV, rfl, hfz, hnd⟩ := hW
  have hA : DataW.TrodAll enc Try.prog W 0 (fun _ => true) true Try.f8.params.toList args.toList ds p := hA0
  have hsz1 : (DataW.weightsEach Try.prog (Try.f8.params.toList ++ Rows.tableKeepsSpec.plain.varTypes Try.prog) (ds ++ gs)).all (· ≤ reachBytes) = true := hsz0
  rw [Try.params8] at hsz1
  rw [Try.params8] at hA hval
  obtain ⟨v0, vs0, d0, ds0, p0, q0, hargs, rfl, rfl, k0, r0⟩ := trodAll_cons hA
  obtain ⟨v1, vs1, d1, ds1, p1, q1, rfl, rfl, rfl, k1, r1⟩ := trodAll_cons r0
  obtain ⟨rfl, rfl, rfl⟩ := trodAll_nil r1
  obtain rfl : args = #[v0, v1] := by cases args; simp_all
  obtain ⟨rfl, rfl⟩ := trodVars_none hV
  have hsz : (DataW.weightsEach Try.prog [25, 35] [d0, d1]).all (· ≤ reachBytes) = true := hsz1
  have ok0 := hval 0 25 v0 rfl rfl
  have ok1 := hval 1 35 v1 rfl rfl
  have lt0 : ∀ x ∈ p0, x.block < W.heap.size := by obtain ⟨m, hm⟩ := k0; exact DataW.trod_lt m _ _ _ hm
  have lt1 : ∀ x ∈ p1, x.block < W.heap.size := by obtain ⟨m, hm⟩ := k1; exact DataW.trod_lt m _ _ _ hm
  have C : Calls Try.prog 8 #[v0, v1] W fun e w' => e = .returned (.bool true) ∧ Below W.heap.size W w' := by
    clear hA0 hval0 hval hW' hcnd hV hfz hnd
    obtain ⟨mi, mb, nx, x, l, rfl, hx⟩ := fs_of_trod k0 ok0
    obtain ⟨y, rfl, hy, _, hyw⟩ := nd_of_trod k1 ⟨_, ok1⟩
    refine lawKeeps mi mb nx l y x W hx hy ?_
    have hm := DataW.weights_mem_each (P := Try.prog) (ts := [25, 35]) (ds := [d0, d1]) (j := 1) rfl rfl _ hyw
    have := List.all_eq_true.1 hsz _ hm
    simp only [decide_eq_true_eq] at this
    exact Nat.le_trans this (by decide)
  refine C.mono fun e W' ⟨he, bel⟩ => ?_
  subst he
  exact ⟨_, rfl, _, _, _, [], _, [], hW', trodAll_mk1 (shut_bool Try.underlying4 _), (trodAll_cons_mk (Below.trod laidOut (by kernel_rfl) (of_decide_eq_true (by kernel_rfl)) k0 bel lt0) (trodAll_cons_mk (Below.trod laidOut (by kernel_rfl) (of_decide_eq_true (by kernel_rfl)) k1 bel lt1) trodAll_mk0)), rfl, bel.frame _, fun h => by cases h⟩
theorem proved : Rows.TableKeepsSaid :=
  OpenClaim.holds_of_wide 8 Try.f8 rfl rfl rfl rfl rfl rfl rfl ⟨rfl, rfl, rfl, rfl, rfl⟩ rfl rfl rfl rfl rfl (by kernel_rfl) Try.func8 (by kernel_rfl)
    (of_decide_eq_true (by kernel_rfl)) (by unfold Func.isWrapper; first | (rw [if_pos (by decide +kernel)]; kernel_rfl) | (rw [if_neg (by decide +kernel)]; exact ⟨rfl, rfl⟩))
    (fun os started H enc _ => lifted os started H enc)
#print axioms proved
end LTableKeeps
end Go.Proofs.Ytjdpkienljenhaa
