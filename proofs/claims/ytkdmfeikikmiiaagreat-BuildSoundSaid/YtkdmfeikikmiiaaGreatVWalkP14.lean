/- Walks: the program's Inside, refusal and Rename (printed by tools/rename14p.py). -/
import Derived.Test.YtkdmfeikikmiiaaGreatVWalkO14
import Derived.Test.YtkdmfeikikmiiaaGreatVWalkP12
import Derived.Test.YtkdmfeikikmiiaaGreatVMSure14
import Derived.BigQuiet
import Derived.Deep.RegionHeld3
import Derived.Deep.Cut
set_option linter.unusedVariables false
set_option linter.unusedSimpArgs false
namespace Go.Proofs.YtkdmfeikikmiiaaGreat
open Go.RowKit
theorem dir_level {mi mb nx : Int} {l : List Nd} (h : SoundP mi mb nx l) {d : Int} (hd : isDir l d = true) : ∃ m, m < l.length ∧ parN l m d = 1 := by
  have t := h.tree
  obtain ⟨m, _, hlv⟩ := on_level t (dir_parts hd).1
  refine ⟨m, ?_, par_level h m hd hlv⟩
  have h1 := vis_dirs t [1] m (List.ne_nil_of_mem hlv)
  have h2 := len_sub _ _ (nodup_count _ (vis_once t (m + 1))) (fun x hx => dir_ino (List.mem_filter.1 hx).2)
  rw [List.length_map, vis_lv, List.filter_append, List.length_append] at h2
  have h3 : 0 < ((lvN l m [1]).filter (isDir l)).length := List.length_pos_of_mem (List.mem_filter.2 ⟨hlv, hd⟩)
  omega
theorem inside_root {mi mb nx : Int} {l : List Nd} (h : SoundP mi mb nx l) {d o : Int} {k : Nat} (h1 : parN l k d = 1) (hn : ∀ j, j < k + 1 → parN l j d ≠ o) : insideN l d o = false := by
  refine inside_none fun j _ => ?_
  rcases Nat.lt_or_ge j (k + 1) with hj | hj
  · exact hn j hj
  · have := par_add l k (j - k) d
    rw [show k + (j - k) = j from by omega, h1, par_one h] at this
    rw [this, ← h1]
    exact hn k (by omega)
set_option maxHeartbeats 8000000 in
set_option maxRecDepth 100000 in
theorem Inside_any (mi mb nx d o : Int) (l : List Nd) (v : Value) (w : World) (hv : Nds w v l) (hok : OkS mi mb nx l) (hd : isDir l d = true) :
    Calls Tryz.prog 109 #[.agg (fsC mi mb nx v), .int .i64 d, .int .i64 o] w fun e w' => e = .returned (.bool (insideN l d o)) ∧ Below w.heap.size w w' := by
  obtain ⟨a, ca, rfl⟩ := nds_slice hv
  have hso := sound_of hok.check
  have hr := hok.calm.rise
  have hle := hok.calm.len
  have hda := calm_data hok.calm
  have HSO := Lib.hid hso
  have HD := Lib.hid hd
  have bF := Blk.new w 28 (fsC mi mb nx (.slice a l.length ca))
  have hB := alloc_below w (.cells (fsC mi mb nx (.slice a l.length ca)) 28)
  have HG := Lib.hid (fun i W (h : Nds W (.slice a l.length ca) l) => GetN_any mi mb nx i l _ W h hr (by omega) hda)
  have HV := Lib.hid hv
  have hG := HG.out d _ (hv.below hB)
  obtain ⟨ax, nxx, cx, hxs⟩ := get_slice hv d
  clear hv hok hso hr hda hd
  generalize hX : getN l d = X at *
  generalize hasN l d = hs0 at *
  obtain ⟨xi, xk, xl, xd, xp, xe, xn⟩ := X
  dsimp only at hxs
  subst hxs
  have HX := Lib.hid hX
  clear hX
  obtain ⟨⟨p0, p1, p2, p3⟩, _⟩ := bF.four
  go_enter Tryz.func109, Tryz.ntmps109
  go_wp2
  go_step3
  go_wp2_with fail
  refine hG.mono ?_
  rintro e w1 ⟨rfl, b1⟩
  clear hG p0 p1 p2 p3
  have k1 := b1.trans ((alloc_below w1 (.cells (ndC ⟨xi, xk, xl, xd, xp, .slice ax nxx cx, xn⟩) 49)).mono b1.size)
  have bX := Blk.new w1 49 (ndC ⟨xi, xk, xl, xd, xp, .slice ax nxx cx, xn⟩)
  have hXl : w.heap.size < w1.heap.size := (bF.next b1).lt
  replace bF := bF.next k1
  replace hB := hB.trans (k1.mono hB.size)
  clear b1 k1
  obtain ⟨⟨p0, p1, p2, p3⟩, _⟩ := bF.four
  go_wp2
  go_step3
  go_wp2
  go_loopw [7, 19] (fun s7 s19 wr => ∃ k : Nat, k ≤ l.length ∧ s7 = .bool false ∧ s19 = .int .i64 k ∧ Below w.heap.size w wr ∧ Aside (∀ j, j < k → parN l j d ≠ o ∧ parN l j d ≠ 1) ∧ Aside (Blk wr w.heap.size 28 (fsC mi mb nx (.slice a l.length ca))) ∧ Aside (∃ X, getN l (parN l k d) = X ∧ Blk wr w1.heap.size 49 (ndC X))) (fun _ s19 _ => l.length - (intOf s19).toNat)
  case atStart => exact ⟨0, Nat.zero_le _, rfl, rfl, hB, fun j h => absurd h (by omega), bF, ⟨_, HX.out, bX⟩⟩
  case round =>
    obtain ⟨k, hk, rfl, rfl, hBr, HT, HBF, HXX⟩ := hrel
    clear bF hB bX p0 p1 p2 p3 HX
    generalize w1.heap.size = BX at *
    have bF := HBF.out
    obtain ⟨⟨p0, p1, p2, p3⟩, _⟩ := bF.four
    by_cases hlt : k < l.length
    · obtain ⟨X, hXe, bX⟩ := HXX.out
      have hz := par_dirs HSO.out HD.out k
      have hi : (getN l (parN l k d)).ino = parN l k d := (get_mem (dir_parts hz).1).2
      have hp2 := par_succ l k d
      obtain ⟨ay, nyy, cy, hys⟩ := get_slice HV.out (parN l k d)
      rw [hXe] at hi hp2 hys
      obtain ⟨yi, yk, yl, yd, yp, ye, yn⟩ := X
      dsimp only at hi hp2 hys
      subst hys hi
      clear hz hXe HXX
      obtain ⟨⟨x0, x1, x2, x3, x4, x5⟩, _⟩ := bX.six
      dsimp only at x0 x1 x2 x3 x4 x5
      by_cases he : parN l k d = o
      · have HN := Lib.hid (inside_hit (by omega) he)
        rw [he] at x0
        clear he HT hp2
        go_wp2
        rw [Exit.noGoto_ret]
        go_ret
        exact ⟨by rw [HN.out]; rfl, hBr⟩
      have hT2 : ∀ j, j < k + 1 → parN l j d ≠ o := fun j h => by
        rcases Nat.lt_or_ge j k with h' | h'
        · exact (HT.out j h').1
        · obtain rfl : j = k := by omega
          exact he
      by_cases h1 : parN l k d = 1
      · have HN := Lib.hid (inside_root HSO.out h1 hT2)
        rw [h1] at x0 he
        clear h1 HT hp2 hT2
        go_wp2
        rw [Exit.noGoto_ret]
        go_ret
        exact ⟨by rw [HN.out]; rfl, hBr⟩
      have HT2 : Hid (∀ j, j < k + 1 → parN l j d ≠ o ∧ parN l j d ≠ 1) := fun j h => by
        rcases Nat.lt_or_ge j k with h' | h'
        · exact HT.out j h'
        · obtain rfl : j = k := by omega
          exact ⟨he, h1⟩
      have hG := HG.out (parN l (k + 1) d) _ (HV.out.below hBr)
      obtain ⟨az, nzz, cz, hzs⟩ := get_slice HV.out (parN l (k + 1) d)
      generalize hZe : getN l (parN l (k + 1) d) = Z at *
      have HZ := Lib.hid hZe
      clear hZe hT2 HT
      generalize hasN l (parN l (k + 1) d) = hs1 at *
      rw [hp2] at hG
      clear hp2
      generalize parN l k d = z at *
      obtain ⟨zi, zk, zl, zd, zp, ze, zn⟩ := Z
      dsimp only at hzs
      subst hzs
      go_wp2_with fail
      refine hG.mono ?_
      rintro e w2 ⟨rfl, b1⟩
      clear hG p0 p1 p2 p3 x0 x1 x2 x3 x4 x5
      replace bX := bX.next b1
      replace bF := bF.next b1
      replace hBr := hBr.trans (b1.mono hBr.size)
      obtain ⟨⟨x0, x1, x2, x3, x4, x5⟩, f0, f1, f2, f3, f4, f5⟩ := bX.six
      dsimp only at x0 x1 x2 x3 x4 x5
      obtain ⟨W', hW', hbW, hgW⟩ := bX.put6 ⟨zi, zk, zl, zd, zp, .slice az nzz cz, zn⟩
      dsimp only at hW'
      have bF2 := bF.kept hgW (by simp; omega)
      have hB2 := below_grown hBr hgW (Nat.le_refl _) (by omega)
      go_wp2
      go_roundw
      case rel => exact ⟨k + 1, by omega, rfl, by go_num, hB2, HT2.out, bF2, ⟨_, HZ.out, hbW⟩⟩
      case measure => simp [intOf]; omega
    · obtain rfl : k = l.length := by omega
      obtain ⟨m, hm, h1⟩ := dir_level HSO.out HD.out
      exact absurd h1 (HT.out m hm).2
def refuseF (l : List Nd) (A B : Sp) (s : Bool) : Int :=
  if (getN l A.ino).kind = 2 ∧ insideN l B.dir A.ino = true then 9
  else if B.ino = 0 then (if s = true ∧ (getN l A.ino).kind ≠ 2 then 3 else if mayB B.name = false then 9 else 0)
  else if (getN l A.ino).kind = 2 ∧ (getN l B.ino).kind ≠ 2 then 3
  else if (getN l B.ino).kind = 2 ∧ (getN l A.ino).kind ≠ 2 then 4
  else if (getN l B.ino).ents.length > 0 then 5
  else 0
theorem ren_refuse (l M : List Nd) (A B : Sp) (dst : List UInt8) :
    (if (getN l A.ino).kind = 2 ∧ insideN l B.dir A.ino = true then (l, (9 : Int))
     else if B.ino = 0 then
       (if slashB dst = true ∧ (getN l A.ino).kind ≠ 2 then (l, 3)
        else if mayB B.name = false then (l, 9)
        else (M, 0))
     else if (getN l A.ino).kind = 2 ∧ (getN l B.ino).kind ≠ 2 then (l, 3)
     else if (getN l B.ino).kind = 2 ∧ (getN l A.ino).kind ≠ 2 then (l, 4)
     else if (getN l B.ino).ents.length > 0 then (l, 5)
     else (M, 0)) = if refuseF l A B (slashB dst) ≠ 0 then (l, refuseF l A B (slashB dst)) else (M, 0) := by
  unfold refuseF
  by_cases c1 : (getN l A.ino).kind = 2 ∧ insideN l B.dir A.ino = true
  · simp only [if_pos c1]; rfl
  simp only [if_neg c1]
  by_cases c2 : B.ino = 0
  · simp only [if_pos c2]
    by_cases c3 : slashB dst = true ∧ (getN l A.ino).kind ≠ 2
    · simp only [if_pos c3]; rfl
    simp only [if_neg c3]
    by_cases c4 : mayB B.name = false
    · simp only [if_pos c4]; rfl
    · simp only [if_neg c4]; rfl
  simp only [if_neg c2]
  by_cases c3 : (getN l A.ino).kind = 2 ∧ (getN l B.ino).kind ≠ 2
  · simp only [if_pos c3]; rfl
  simp only [if_neg c3]
  by_cases c4 : (getN l B.ino).kind = 2 ∧ (getN l A.ino).kind ≠ 2
  · simp only [if_pos c4]; rfl
  simp only [if_neg c4]
  by_cases c5 : (getN l B.ino).ents.length > 0
  · simp only [if_pos c5]; rfl
  · simp only [if_neg c5]; rfl
theorem spot_here {mi mb nx : Int} {l : List Nd} (h : OkS mi mb nx l) {s : Sp} (hs : Spot l s) : hasN l s.ino = decide (s.ino ≠ 0) := by
  by_cases h0 : s.ino = 0
  · rw [h0, no_zero h]; rfl
  · rw [decide_eq_true h0]; exact spot_has (sound_of h.check) hs h0
theorem ren_ready {mi mb nx : Int} {l : List Nd} (h : SoundP mi mb nx l) {base src dst : List UInt8} (h0 : ∀ ev e1 e2, (renameF l base src dst ev e1 e2).2 = 0) (hne : (seekP l base src false).1.ino ≠ (seekP l base dst false).1.ino) :
    ((seekP l base dst false).1.ino ≠ 0 → Gone l (seekP l base dst false).1.dir (seekP l base dst false).1.name (seekP l base dst false).1.ino) ∧ ∀ ev, Mv (tL l (seekP l base dst false).1 ev) (seekP l base src false).1.dir (seekP l base src false).1.name (seekP l base src false).1.ino (seekP l base dst false).1.dir (seekP l base dst false).1.name := by
  obtain ⟨h1, h2, t, _⟩ := ren_ok (h0 (.slice none 0 0) (.slice none 0 0) (.slice none 0 0)) hne
  exact ⟨ren_gone (src := src) h h2 t, fun ev => ren_mv h ((seek_spot h base src false).1 h1) ((seek_spot h base dst false).1 h2) t ev⟩
set_option maxHeartbeats 16000000 in
set_option maxRecDepth 100000 in
theorem refusal_any (mi mb nx : Int) (l : List Nd) (A B : Sp) (s : Bool) (v : Value) (w : World) (hv : Nds w v l) (hok : OkS mi mb nx l) (hd : isDir l B.dir = true) (hh : hasN l B.ino = decide (B.ino ≠ 0)) (hn : B.name.length ≤ 255) :
    Calls Tryz.prog 81 #[.agg (fsC mi mb nx v), .agg (spC A), .agg (spC B), .bool s] w fun e w' => e = .returned (.int .i64 (refuseF l A B s)) ∧ Below w.heap.size w w' := by
  obtain ⟨a, ca, rfl⟩ := nds_slice hv
  obtain ⟨qa, qb, qc⟩ := A
  obtain ⟨pa, pb, pc⟩ := B
  dsimp only at hd hh hn ⊢
  have bF := ((Blk.new w 28 (fsC mi mb nx (.slice a l.length ca))).alloc (.cells (spC ⟨qa, qb, qc⟩) 81)).alloc (.cells (spC ⟨pa, pb, pc⟩) 81)
  have bA := (Blk.new (w.alloc (.cells (fsC mi mb nx (.slice a l.length ca)) 28)) 81 (spC ⟨qa, qb, qc⟩)).alloc (.cells (spC ⟨pa, pb, pc⟩) 81)
  have bB := Blk.new ((w.alloc (.cells (fsC mi mb nx (.slice a l.length ca)) 28)).alloc (.cells (spC ⟨qa, qb, qc⟩) 81)) 81 (spC ⟨pa, pb, pc⟩)
  have hB : Below w.heap.size w (((w.alloc (.cells (fsC mi mb nx (.slice a l.length ca)) 28)).alloc (.cells (spC ⟨qa, qb, qc⟩) 81)).alloc (.cells (spC ⟨pa, pb, pc⟩) 81)) := (((Below.refl _ w).alloc (Nat.le_refl _) _).alloc (by simp) _).alloc (by simp; omega) _
  simp only [World.size_alloc] at bA bB
  have HV := Lib.hid hv
  have hG1 := fun W (h : Nds W (.slice a l.length ca) l) => GetN_any mi mb nx qc l _ W h hok.calm.rise (by have := hok.calm.len; omega) (calm_data hok.calm)
  have hG2 := fun W (h : Nds W (.slice a l.length ca) l) => GetN_any mi mb nx pc l _ W h hok.calm.rise (by have := hok.calm.len; omega) (calm_data hok.calm)
  have hIn := fun W (h : Nds W (.slice a l.length ca) l) => Inside_any mi mb nx pa qc l _ W h hok hd
  have hMy := fun W => May_any pb W (by omega)
  have hF : refuseF l ⟨qa, qb, qc⟩ ⟨pa, pb, pc⟩ s = refuseF l ⟨qa, qb, qc⟩ ⟨pa, pb, pc⟩ s := rfl
  conv at hF => rhs; unfold refuseF
  obtain ⟨ax, nxx, cx, hxs⟩ := get_slice hv qc
  obtain ⟨ay, nyy, cy, hys⟩ := get_slice hv pc
  have hyl := get_ents hv.all pc
  generalize refuseF l ⟨qa, qb, qc⟩ ⟨pa, pb, pc⟩ s = F at *
  generalize insideN l pa qc = I at *
  generalize mayB pb = M at *
  clear hv hok hd hn
  generalize hr : hasN l pc = r at *
  generalize hasN l qc = hs1 at *
  generalize getN l qc = X at *
  generalize getN l pc = Y at *
  obtain ⟨xi, xk, xl, xd, xp, xe, xn⟩ := X
  obtain ⟨yi, yk, yl, yd, yp, ye, yn⟩ := Y
  dsimp only at hF hxs hys hyl
  subst hxs hys
  have hyn : nyy = yn.length := by
    obtain ⟨a2, c2, e2, _⟩ := hyl
    simp only [Value.slice.injEq] at e2
    exact e2.2.1
  subst hyn
  have HF := Lib.hid hF
  clear hF hyl hr
  have hr : r = decide (pc ≠ 0) := hh
  clear hh
  have HR := Lib.hid hr
  clear hr
  obtain ⟨⟨p0, p1, p2, p3⟩, _⟩ := bF.four
  obtain ⟨⟨s0, s1, s2⟩, _⟩ := bA.three
  obtain ⟨⟨t0, t1, t2⟩, _⟩ := bB.three
  dsimp only at s0 s1 s2 t0 t1 t2
  go_enter Tryz.func81, Tryz.ntmps81
  go_wp2_with fail
  refine (hG1 _ (HV.out.below hB)).mono ?_
  rintro e v1w ⟨rfl, b1⟩
  clear p0 p1 p2 p3 s0 s1 s2 t0 t1 t2
  have k1 := b1.trans ((alloc_below v1w (.cells (ndC ⟨xi, xk, xl, xd, xp, .slice ax nxx cx, xn⟩) 49)).mono b1.size)
  have bX := Blk.new v1w 49 (ndC ⟨xi, xk, xl, xd, xp, .slice ax nxx cx, xn⟩)
  replace bF := bF.next k1
  replace bA := bA.next k1
  replace bB := bB.next k1
  replace hB := hB.trans (k1.mono hB.size)
  clear b1 k1
  obtain ⟨⟨p0, p1, p2, p3⟩, _⟩ := bF.four
  obtain ⟨⟨s0, s1, s2⟩, _⟩ := bA.three
  dsimp only at s0 s1 s2
  obtain ⟨⟨t0, t1, t2⟩, _⟩ := bB.three
  dsimp only at t0 t1 t2
  obtain ⟨⟨x0, x1, x2, x3, x4, x5⟩, _⟩ := bX.six
  dsimp only at x0 x1 x2 x3 x4 x5
  clear hG1
  go_wp2_with fail
  refine (hG2 _ (HV.out.below hB)).mono ?_
  rintro e v2w ⟨rfl, b1⟩
  clear p0 p1 p2 p3 s0 s1 s2 t0 t1 t2 x0 x1 x2 x3 x4 x5
  have k1 := b1.trans ((alloc_below v2w (.cells (ndC ⟨yi, yk, yl, yd, yp, .slice ay yn.length cy, yn⟩) 49)).mono b1.size)
  have bY := Blk.new v2w 49 (ndC ⟨yi, yk, yl, yd, yp, .slice ay yn.length cy, yn⟩)
  replace bF := bF.next k1
  replace bA := bA.next k1
  replace bB := bB.next k1
  replace bX := bX.next k1
  replace hB := hB.trans (k1.mono hB.size)
  clear b1 k1
  obtain ⟨⟨p0, p1, p2, p3⟩, _⟩ := bF.four
  obtain ⟨⟨s0, s1, s2⟩, _⟩ := bA.three
  dsimp only at s0 s1 s2
  obtain ⟨⟨t0, t1, t2⟩, _⟩ := bB.three
  dsimp only at t0 t1 t2
  obtain ⟨⟨x0, x1, x2, x3, x4, x5⟩, _⟩ := bX.six
  dsimp only at x0 x1 x2 x3 x4 x5
  obtain ⟨⟨y0, y1, y2, y3, y4, y5⟩, _⟩ := bY.six
  dsimp only at y0 y1 y2 y3 y4 y5
  clear hG2
  go_upto_region 3 with fail
  generalize hW0 : v2w.alloc (.cells (ndC ⟨yi, yk, yl, yd, yp, .slice ay yn.length cy, yn⟩) 49) = W0 at *
  clear hW0
  go_region
  have hdr := (Below.refl W0.heap.size W0).drew
  replace bF := bF.next hdr
  replace bA := bA.next hdr
  replace bB := bB.next hdr
  replace bX := bX.next hdr
  replace bY := bY.next hdr
  replace hB := hB.drew
  clear hdr p0 p1 p2 p3 s0 s1 s2 t0 t1 t2 x0 x1 x2 x3 x4 x5 y0 y1 y2 y3 y4 y5
  generalize W0.drew = W1 at *
  obtain ⟨⟨p0, p1, p2, p3⟩, _⟩ := bF.four
  obtain ⟨⟨s0, s1, s2⟩, _⟩ := bA.three
  dsimp only at s0 s1 s2
  obtain ⟨⟨t0, t1, t2⟩, _⟩ := bB.three
  dsimp only at t0 t1 t2
  obtain ⟨⟨x0, x1, x2, x3, x4, x5⟩, _⟩ := bX.six
  dsimp only at x0 x1 x2 x3 x4 x5
  obtain ⟨⟨y0, y1, y2, y3, y4, y5⟩, _⟩ := bY.six
  dsimp only at y0 y1 y2 y3 y4 y5
  by_cases hxk : xk = 2
  · have hxb : (xk == 2) = true := by simpa using hxk
    cases I
    · go_wp2_with fail
      refine (hIn _ (HV.out.below hB)).mono ?_
      rintro e v3w ⟨rfl, b1⟩
      clear p0 p1 p2 p3 s0 s1 s2 t0 t1 t2 x0 x1 x2 x3 x4 x5 y0 y1 y2 y3 y4 y5
      have k1 := b1
      replace bF := bF.next k1
      replace bA := bA.next k1
      replace bB := bB.next k1
      replace bX := bX.next k1
      replace bY := bY.next k1
      replace hB := hB.trans (k1.mono hB.size)
      clear b1 k1
      obtain ⟨⟨p0, p1, p2, p3⟩, _⟩ := bF.four
      obtain ⟨⟨s0, s1, s2⟩, _⟩ := bA.three
      dsimp only at s0 s1 s2
      obtain ⟨⟨t0, t1, t2⟩, _⟩ := bB.three
      dsimp only at t0 t1 t2
      obtain ⟨⟨x0, x1, x2, x3, x4, x5⟩, _⟩ := bX.six
      dsimp only at x0 x1 x2 x3 x4 x5
      obtain ⟨⟨y0, y1, y2, y3, y4, y5⟩, _⟩ := bY.six
      dsimp only at y0 y1 y2 y3 y4 y5
      clear hIn
      by_cases hpc : pc = 0
      · subst hpc
        have hrb : r = false := by rw [HR.out]; rfl
        subst hrb
        cases s
        · cases M
          · have HN : Hid (F = 9) := by show _ = _; rw [HF.out]; simp [hxk]
            clear HF
            go_wp2_with fail
            refine (hMy _).mono ?_
            rintro e v4w ⟨rfl, b1⟩
            go_wp2
            go_ret
            exact ⟨by rw [HN.out]; rfl, hB.trans (b1.mono hB.size)⟩
          · have HN : Hid (F = 0) := by show _ = _; rw [HF.out]; simp [hxk]
            clear HF
            go_wp2_with fail
            refine (hMy _).mono ?_
            rintro e v5w ⟨rfl, b1⟩
            go_wp2
            go_ret
            exact ⟨by rw [HN.out]; rfl, hB.trans (b1.mono hB.size)⟩
        · cases M
          · have HN : Hid (F = 9) := by show _ = _; rw [HF.out]; simp [hxk]
            clear HF
            go_wp2_with fail
            refine (hMy _).mono ?_
            rintro e v6w ⟨rfl, b1⟩
            go_wp2
            go_ret
            exact ⟨by rw [HN.out]; rfl, hB.trans (b1.mono hB.size)⟩
          · have HN : Hid (F = 0) := by show _ = _; rw [HF.out]; simp [hxk]
            clear HF
            go_wp2_with fail
            refine (hMy _).mono ?_
            rintro e v7w ⟨rfl, b1⟩
            go_wp2
            go_ret
            exact ⟨by rw [HN.out]; rfl, hB.trans (b1.mono hB.size)⟩
      · have hrb : r = true := by rw [HR.out]; exact decide_eq_true hpc
        subst hrb
        by_cases hyk : yk = 2
        · have hyb : (yk == 2) = true := by simpa using hyk
          by_cases hen : yn.length > 0
          · have HN : Hid (F = 5) := by show _ = _; rw [HF.out]; simp [hxk, hpc, hyk, hen]
            clear HF
            go_wp2
            go_ret
            exact ⟨by rw [HN.out]; rfl, hB⟩
          · have hen2 : yn = [] := List.length_eq_zero_iff.1 (by omega)
            have HN : Hid (F = 0) := by show _ = _; rw [HF.out]; simp [hxk, hpc, hyk, hen2]
            clear HF
            go_wp2
            go_ret
            exact ⟨by rw [HN.out]; rfl, hB⟩
        · have hyb : (yk == 2) = false := by simpa using hyk
          have HN : Hid (F = 3) := by show _ = _; rw [HF.out]; simp [hxk, hpc, hyk]
          clear HF
          go_wp2
          go_ret
          exact ⟨by rw [HN.out]; rfl, hB⟩
    · go_wp2_with fail
      refine (hIn _ (HV.out.below hB)).mono ?_
      rintro e v8w ⟨rfl, b1⟩
      clear p0 p1 p2 p3 s0 s1 s2 t0 t1 t2 x0 x1 x2 x3 x4 x5 y0 y1 y2 y3 y4 y5
      have k1 := b1
      replace bF := bF.next k1
      replace bA := bA.next k1
      replace bB := bB.next k1
      replace bX := bX.next k1
      replace bY := bY.next k1
      replace hB := hB.trans (k1.mono hB.size)
      clear b1 k1
      obtain ⟨⟨p0, p1, p2, p3⟩, _⟩ := bF.four
      obtain ⟨⟨s0, s1, s2⟩, _⟩ := bA.three
      dsimp only at s0 s1 s2
      obtain ⟨⟨t0, t1, t2⟩, _⟩ := bB.three
      dsimp only at t0 t1 t2
      obtain ⟨⟨x0, x1, x2, x3, x4, x5⟩, _⟩ := bX.six
      dsimp only at x0 x1 x2 x3 x4 x5
      obtain ⟨⟨y0, y1, y2, y3, y4, y5⟩, _⟩ := bY.six
      dsimp only at y0 y1 y2 y3 y4 y5
      clear hIn
      have HN : Hid (F = 9) := by show _ = _; rw [HF.out]; simp [hxk]
      clear HF
      go_wp2
      go_ret
      exact ⟨by rw [HN.out]; rfl, hB⟩
  · have hxb : (xk == 2) = false := by simpa using hxk
    clear hIn
    by_cases hpc : pc = 0
    · subst hpc
      have hrb : r = false := by rw [HR.out]; rfl
      subst hrb
      cases s
      · cases M
        · have HN : Hid (F = 9) := by show _ = _; rw [HF.out]; simp [hxk]
          clear HF
          go_wp2_with fail
          refine (hMy _).mono ?_
          rintro e v9w ⟨rfl, b1⟩
          go_wp2
          go_ret
          exact ⟨by rw [HN.out]; rfl, hB.trans (b1.mono hB.size)⟩
        · have HN : Hid (F = 0) := by show _ = _; rw [HF.out]; simp [hxk]
          clear HF
          go_wp2_with fail
          refine (hMy _).mono ?_
          rintro e v10w ⟨rfl, b1⟩
          go_wp2
          go_ret
          exact ⟨by rw [HN.out]; rfl, hB.trans (b1.mono hB.size)⟩
      · have HN : Hid (F = 3) := by show _ = _; rw [HF.out]; simp [hxk]
        clear HF
        go_wp2
        go_ret
        exact ⟨by rw [HN.out]; rfl, hB⟩
    · have hrb : r = true := by rw [HR.out]; exact decide_eq_true hpc
      subst hrb
      by_cases hyk : yk = 2
      · have hyb : (yk == 2) = true := by simpa using hyk
        have HN : Hid (F = 4) := by show _ = _; rw [HF.out]; simp [hxk, hpc, hyk]
        clear HF
        go_wp2
        go_ret
        exact ⟨by rw [HN.out]; rfl, hB⟩
      · have hyb : (yk == 2) = false := by simpa using hyk
        by_cases hen : yn.length > 0
        · have HN : Hid (F = 5) := by show _ = _; rw [HF.out]; simp [hxk, hpc, hyk, hen]
          clear HF
          go_wp2
          go_ret
          exact ⟨by rw [HN.out]; rfl, hB⟩
        · have hen2 : yn = [] := List.length_eq_zero_iff.1 (by omega)
          have HN : Hid (F = 0) := by show _ = _; rw [HF.out]; simp [hxk, hpc, hyk, hen2]
          clear HF
          go_wp2
          go_ret
          exact ⟨by rw [HN.out]; rfl, hB⟩
set_option maxHeartbeats 16000000 in
set_option maxRecDepth 100000 in
theorem Rename_any (mi mb nx : Int) (l : List Nd) (base src dst : List UInt8) (v : Value) (w : World) (hv : Nds w v l) (hok : OkS mi mb nx l) (hb : base.length ≤ 20000) (hp : src.length ≤ 20000) (hp2 : dst.length ≤ 20000) :
    Calls Tryz.prog 46 #[.agg (fsC mi mb nx v), .string ⟨base.toArray⟩, .string ⟨src.toArray⟩, .string ⟨dst.toArray⟩] w fun e w' => ∃ y ev e1 e2, e = .returned (.tuple #[.agg (fsC mi mb nx y), .int .i64 (renameF l base src dst ev e1 e2).2]) ∧ MadeFs w v l w' y (renameF l base src dst ev e1 e2).1 ∧ Below w.heap.size w w' := by
  obtain ⟨a, ca, rfl⟩ := nds_slice hv
  have hso := sound_of hok.check
  have bF := (Blk.new w 28 (fsC mi mb nx (.slice a l.length ca))).alloc (.cells (fsC 0 0 0 (.slice none 0 0)) 28)
  have bR := Blk.new (w.alloc (.cells (fsC mi mb nx (.slice a l.length ca)) 28)) 28 (fsC 0 0 0 (.slice none 0 0))
  have hB := ((Below.refl w.heap.size w).alloc (Nat.le_refl _) (.cells (fsC mi mb nx (.slice a l.length ca)) 28)).alloc (by simp) (.cells (fsC 0 0 0 (.slice none 0 0)) 28)
  simp only [World.size_alloc] at bR
  have HV := Lib.hid hv
  have hSk := Seek_any mi mb nx l base src false _ _ (hv.below hB) hok hb hp
  have hSk2 := fun w' (h : Nds w' (.slice a l.length ca) l) => Seek_any mi mb nx l base dst false _ w' h hok hb hp2
  have hF : ∀ ev e1 e2, renameF l base src dst ev e1 e2 = renameF l base src dst ev e1 e2 := fun _ _ _ => rfl
  conv at hF => enter [ev, e1, e2]; rhs; unfold renameF
  have hT := fun h0 hne => ren_ready (base := base) (src := src) (dst := dst) hso h0 hne
  have hMv := fun w' (h : Nds w' (.slice a l.length ca) l) (hT : ((seekP l base dst false).1.ino ≠ 0 → Gone l (seekP l base dst false).1.dir (seekP l base dst false).1.name (seekP l base dst false).1.ino) ∧ ∀ ev, Mv (tL l (seekP l base dst false).1 ev) (seekP l base src false).1.dir (seekP l base src false).1.name (seekP l base src false).1.ino (seekP l base dst false).1.dir (seekP l base dst false).1.name) => Move_any mi mb nx l (seekP l base src false).1 (seekP l base dst false).1 _ w' h hok hT.1 hT.2
  have hRf := fun (h0 : (seekP l base dst false).2 = 0) (hne : (seekP l base dst false).1.name ≠ []) w' (h : Nds w' (.slice a l.length ca) l) => refusal_any mi mb nx l (seekP l base src false).1 (seekP l base dst false).1 (slashB dst) _ w' h hok (((seek_spot hso base dst false).1 h0).entry hne).1 (spot_here hok ((seek_spot hso base dst false).1 h0)) (seek_short l base dst false)
  have hRd := fun w' => Read_any dst (by omega) w'
  generalize seekP l base src false = Q at *
  generalize seekP l base dst false = P at *
  obtain ⟨⟨qa, qb, qc⟩, qe⟩ := Q
  obtain ⟨⟨pa, pb, pc⟩, pe⟩ := P
  dsimp only at hF hSk hSk2 hMv hRf hT
  generalize hR0 : refuseF l ⟨qa, qb, qc⟩ ⟨pa, pb, pc⟩ (slashB dst) = R at *
  have HR := Lib.hid hR0.symm
  have HF := Lib.hid hF
  have HT := Lib.hid hT
  clear hF hv hT hR0 hso hok
  obtain ⟨⟨p0, p1, p2, p3⟩, _⟩ := bF.four
  go_enter Tryz.func46, Tryz.ntmps46
  go_wp2_with fail
  refine (hSk).mono ?_
  rintro e v11w ⟨rfl, b1⟩
  clear p0 p1 p2 p3
  have k1 := b1.trans ((alloc_below v11w (.cells (spC ⟨qa, qb, qc⟩) 81)).mono b1.size)
  have bA := Blk.new v11w 81 (spC ⟨qa, qb, qc⟩)
  replace bF := bF.next k1
  replace bR := bR.next k1
  replace hB := hB.trans (k1.mono hB.size)
  clear b1 k1
  obtain ⟨⟨p0, p1, p2, p3⟩, _⟩ := bF.four
  obtain ⟨⟨s0, s1, s2⟩, _⟩ := bA.three
  dsimp only at s0 s1 s2
  clear hSk
  by_cases he : qe = 0
  rotate_left
  · have HN : Hid (∀ ev e1 e2, renameF l base src dst ev e1 e2 = (l, qe)) := fun ev e1 e2 => by have := HF.out ev e1 e2; rw [if_pos he] at this; exact this
    clear HF HT hMv hRd hRf hSk2
    obtain ⟨⟨r0, r1, r2, r3⟩, e0, e1, e2, e3⟩ := bR.four
    obtain ⟨W', hW', hb4, hg4⟩ := bR.put4 (.int .i64 mi) (.int .i64 mb) (.int .i64 nx) (.slice a l.length ca)
    have hbl := below_grown hB hg4 (Nat.le_refl _) (by omega)
    go_wp2
    obtain ⟨⟨z0, z1, z2, z3⟩, _⟩ := hb4.four
    refine bodyPost_ret (v := .tuple #[.agg (fsC mi mb nx (.slice a l.length ca)), .int .i64 qe]) (by simp [results, Tryz.f46, go_sem, z0, z1, z2, z3]) rfl ?_
    exact ⟨_, .slice none 0 0, .slice none 0 0, .slice none 0 0, by rw [HN.out], by rw [HN.out]; exact MadeFs.same _ _ _ _, hbl⟩
  subst he
  replace HF : Hid _ := fun ev e1 e2 => by have := HF.out ev e1 e2; rw [if_neg (by simp)] at this; exact this
  by_cases hc : qc = 0
  · have HN : Hid (∀ ev e1 e2, renameF l base src dst ev e1 e2 = (l, 1)) := fun ev e1 e2 => by have := HF.out ev e1 e2; rw [if_pos hc] at this; exact this
    subst hc
    clear HF HT hMv hRd hRf hSk2
    obtain ⟨⟨r0, r1, r2, r3⟩, e0, e1, e2, e3⟩ := bR.four
    obtain ⟨W', hW', hb4, hg4⟩ := bR.put4 (.int .i64 mi) (.int .i64 mb) (.int .i64 nx) (.slice a l.length ca)
    have hbl := below_grown hB hg4 (Nat.le_refl _) (by omega)
    go_wp2
    obtain ⟨⟨z0, z1, z2, z3⟩, _⟩ := hb4.four
    refine bodyPost_ret (v := .tuple #[.agg (fsC mi mb nx (.slice a l.length ca)), .int .i64 1]) (by simp [results, Tryz.f46, go_sem, z0, z1, z2, z3]) rfl ?_
    exact ⟨_, .slice none 0 0, .slice none 0 0, .slice none 0 0, by rw [HN.out], by rw [HN.out]; exact MadeFs.same _ _ _ _, hbl⟩
  replace HF : Hid _ := fun ev e1 e2 => by have := HF.out ev e1 e2; rw [if_neg hc] at this; exact this
  by_cases hq0 : qb = []
  · have HN : Hid (∀ ev e1 e2, renameF l base src dst ev e1 e2 = (l, 10)) := fun ev e1 e2 => by have := HF.out ev e1 e2; rw [if_pos hq0] at this; exact this
    subst hq0
    clear HF HT hMv hRd hRf hSk2
    obtain ⟨⟨r0, r1, r2, r3⟩, e0, e1, e2, e3⟩ := bR.four
    obtain ⟨W', hW', hb4, hg4⟩ := bR.put4 (.int .i64 mi) (.int .i64 mb) (.int .i64 nx) (.slice a l.length ca)
    have hbl := below_grown hB hg4 (Nat.le_refl _) (by omega)
    go_wp2
    obtain ⟨⟨z0, z1, z2, z3⟩, _⟩ := hb4.four
    refine bodyPost_ret (v := .tuple #[.agg (fsC mi mb nx (.slice a l.length ca)), .int .i64 10]) (by simp [results, Tryz.f46, go_sem, z0, z1, z2, z3]) rfl ?_
    exact ⟨_, .slice none 0 0, .slice none 0 0, .slice none 0 0, by rw [HN.out], by rw [HN.out]; exact MadeFs.same _ _ _ _, hbl⟩
  replace HF : Hid _ := fun ev e1 e2 => by have := HF.out ev e1 e2; rw [if_neg hq0] at this; exact this
  have hqb : (qb == []) = false := by simpa using hq0
  clear hq0
  go_wp2_with fail
  refine (hSk2 _ (HV.out.below hB)).mono ?_
  rintro e v12w ⟨rfl, b1⟩
  clear p0 p1 p2 p3 s0 s1 s2
  have k1 := b1.trans ((alloc_below v12w (.cells (spC ⟨pa, pb, pc⟩) 81)).mono b1.size)
  have bB := Blk.new v12w 81 (spC ⟨pa, pb, pc⟩)
  replace bF := bF.next k1
  replace bA := bA.next k1
  replace bR := bR.next k1
  replace hB := hB.trans (k1.mono hB.size)
  clear b1 k1
  obtain ⟨⟨p0, p1, p2, p3⟩, _⟩ := bF.four
  obtain ⟨⟨s0, s1, s2⟩, _⟩ := bA.three
  dsimp only at s0 s1 s2
  obtain ⟨⟨t0, t1, t2⟩, _⟩ := bB.three
  dsimp only at t0 t1 t2
  clear hSk2
  by_cases he : pe = 0
  rotate_left
  · have HN : Hid (∀ ev e1 e2, renameF l base src dst ev e1 e2 = (l, pe)) := fun ev e1 e2 => by have := HF.out ev e1 e2; rw [if_pos he] at this; exact this
    clear HF HT hMv hRd hRf
    obtain ⟨⟨r0, r1, r2, r3⟩, e0, e1, e2, e3⟩ := bR.four
    obtain ⟨W', hW', hb4, hg4⟩ := bR.put4 (.int .i64 mi) (.int .i64 mb) (.int .i64 nx) (.slice a l.length ca)
    have hbl := below_grown hB hg4 (Nat.le_refl _) (by omega)
    go_wp2
    obtain ⟨⟨z0, z1, z2, z3⟩, _⟩ := hb4.four
    refine bodyPost_ret (v := .tuple #[.agg (fsC mi mb nx (.slice a l.length ca)), .int .i64 pe]) (by simp [results, Tryz.f46, go_sem, z0, z1, z2, z3]) rfl ?_
    exact ⟨_, .slice none 0 0, .slice none 0 0, .slice none 0 0, by rw [HN.out], by rw [HN.out]; exact MadeFs.same _ _ _ _, hbl⟩
  subst he
  replace HF : Hid _ := fun ev e1 e2 => by have := HF.out ev e1 e2; rw [if_neg (by simp)] at this; exact this
  by_cases hp0 : pb = []
  · have HN : Hid (∀ ev e1 e2, renameF l base src dst ev e1 e2 = (l, 10)) := fun ev e1 e2 => by have := HF.out ev e1 e2; rw [if_pos hp0] at this; exact this
    subst hp0
    clear HF HT hMv hRd hRf
    obtain ⟨⟨r0, r1, r2, r3⟩, e0, e1, e2, e3⟩ := bR.four
    obtain ⟨W', hW', hb4, hg4⟩ := bR.put4 (.int .i64 mi) (.int .i64 mb) (.int .i64 nx) (.slice a l.length ca)
    have hbl := below_grown hB hg4 (Nat.le_refl _) (by omega)
    go_wp2
    obtain ⟨⟨z0, z1, z2, z3⟩, _⟩ := hb4.four
    refine bodyPost_ret (v := .tuple #[.agg (fsC mi mb nx (.slice a l.length ca)), .int .i64 10]) (by simp [results, Tryz.f46, go_sem, z0, z1, z2, z3]) rfl ?_
    exact ⟨_, .slice none 0 0, .slice none 0 0, .slice none 0 0, by rw [HN.out], by rw [HN.out]; exact MadeFs.same _ _ _ _, hbl⟩
  replace HF : Hid _ := fun ev e1 e2 => by have := HF.out ev e1 e2; rw [if_neg hp0] at this; exact this
  have hpb : (pb == []) = false := by simpa using hp0
  by_cases hqp : qc = pc
  · have HN : Hid (∀ ev e1 e2, renameF l base src dst ev e1 e2 = (l, 0)) := fun ev e1 e2 => by have := HF.out ev e1 e2; rw [if_pos hqp] at this; exact this
    subst hqp
    clear HF HT hMv hRd hRf
    obtain ⟨⟨r0, r1, r2, r3⟩, e0, e1, e2, e3⟩ := bR.four
    obtain ⟨W', hW', hb4, hg4⟩ := bR.put4 (.int .i64 mi) (.int .i64 mb) (.int .i64 nx) (.slice a l.length ca)
    have hbl := below_grown hB hg4 (Nat.le_refl _) (by omega)
    go_wp2
    obtain ⟨⟨z0, z1, z2, z3⟩, _⟩ := hb4.four
    refine bodyPost_ret (v := .tuple #[.agg (fsC mi mb nx (.slice a l.length ca)), .int .i64 0]) (by simp [results, Tryz.f46, go_sem, z0, z1, z2, z3]) rfl ?_
    exact ⟨_, .slice none 0 0, .slice none 0 0, .slice none 0 0, by rw [HN.out], by rw [HN.out]; exact MadeFs.same _ _ _ _, hbl⟩
  replace HF : Hid _ := fun ev e1 e2 => by have := HF.out ev e1 e2; rw [if_neg hqp] at this; exact this
  have hqp2 : ¬ pc = qc := fun e => hqp e.symm
  replace HF : Hid (∀ ev e1 e2, renameF l base src dst ev e1 e2 = if R ≠ 0 then (l, R) else (mvL (tL l ⟨pa, pb, pc⟩ ev) qa qb qc pa pb e1 e2, 0)) := fun ev e1 e2 => by
    have := HF.out ev e1 e2
    rw [this, HR.out]
    exact ren_refuse l _ ⟨qa, qb, qc⟩ ⟨pa, pb, pc⟩ dst
  replace hRf := hRf rfl hp0
  clear hp0
  go_upto_region 15 with fail
  generalize hW0 : v12w.alloc (.cells (spC ⟨pa, pb, pc⟩) 81) = W0 at *
  generalize v11w.heap.size = BA at *
  generalize v12w.heap.size = BB at *
  clear hW0 p0 p1 p2 p3 s0 s1 s2 t0 t1 t2
  have HMK : ∀ W, Below W0.heap.size W0 W → (W.cell? ⟨w.heap.size, 0, none⟩ = some (.int .i64 mi) ∧ W.cell? ⟨w.heap.size, 1, none⟩ = some (.int .i64 mb) ∧ W.cell? ⟨w.heap.size, 2, none⟩ = some (.int .i64 nx) ∧ W.cell? ⟨w.heap.size, 3, none⟩ = some (.slice a l.length ca) ∧ W.cell? ⟨BA, 0, none⟩ = some (.int .i64 qa) ∧ W.cell? ⟨BA, 1, none⟩ = some (.string ⟨qb.toArray⟩) ∧ W.cell? ⟨BA, 2, none⟩ = some (.int .i64 qc) ∧ W.cell? ⟨BB, 0, none⟩ = some (.int .i64 pa) ∧ W.cell? ⟨BB, 1, none⟩ = some (.string ⟨pb.toArray⟩) ∧ W.cell? ⟨BB, 2, none⟩ = some (.int .i64 pc)) := by
    intro W h
    obtain ⟨⟨p0, p1, p2, p3⟩, _⟩ := (bF.next h).four
    obtain ⟨⟨s0, s1, s2⟩, _⟩ := (bA.next h).three
    obtain ⟨⟨t0, t1, t2⟩, _⟩ := (bB.next h).three
    exact ⟨p0, p1, p2, p3, s0, s1, s2, t0, t1, t2⟩
  have hq : Below W0.heap.size W0 W0.drew := (Below.refl _ _).drew
  go_cut [13] from 14 (fun s13 wc => s13 = .int .i64 R ∧ Below W0.heap.size W0 wc)
  case first =>
    go_region_held3 (fun W => W.cell? ⟨w.heap.size, 0, none⟩ = some (.int .i64 mi) ∧ W.cell? ⟨w.heap.size, 1, none⟩ = some (.int .i64 mb) ∧ W.cell? ⟨w.heap.size, 2, none⟩ = some (.int .i64 nx) ∧ W.cell? ⟨w.heap.size, 3, none⟩ = some (.slice a l.length ca) ∧ W.cell? ⟨BA, 0, none⟩ = some (.int .i64 qa) ∧ W.cell? ⟨BA, 1, none⟩ = some (.string ⟨qb.toArray⟩) ∧ W.cell? ⟨BA, 2, none⟩ = some (.int .i64 qc) ∧ W.cell? ⟨BB, 0, none⟩ = some (.int .i64 pa) ∧ W.cell? ⟨BB, 1, none⟩ = some (.string ⟨pb.toArray⟩) ∧ W.cell? ⟨BB, 2, none⟩ = some (.int .i64 pc))
      (first | with_reducible exact HMK _ hq)
      (first
        | (go_at_call 70; (with_reducible refine (hRd _).mono ?_); rintro e w6 ⟨vp, rfl, _, b6⟩; have hq := hq.trans (b6.mono hq.size); have hfi := fieldV2 (absB dst) (slashB dst) vp)
        | (go_at_call 81; (with_reducible refine (hRf _ (HV.out.below (hB.trans (hq.mono hB.size)))).mono ?_); rintro e w7 ⟨rfl, b7⟩; have hq := hq.trans (b7.mono hq.size)))
    all_goals go_wp2_with fail
    all_goals go_meet
    all_goals exact ⟨rfl, hq⟩
  case rest =>
    obtain ⟨rfl, hbc⟩ := hcut
    replace bF := bF.next hbc
    replace bA := bA.next hbc
    replace bB := bB.next hbc
    replace bR := bR.next hbc
    replace hB := hB.trans (hbc.mono hB.size)
    clear hbc HMK hq hRf hRd
    obtain ⟨⟨p0, p1, p2, p3⟩, _⟩ := bF.four
    obtain ⟨⟨s0, s1, s2⟩, _⟩ := bA.three
    dsimp only at s0 s1 s2
    obtain ⟨⟨t0, t1, t2⟩, _⟩ := bB.three
    dsimp only at t0 t1 t2
    by_cases hR : R = 0
    rotate_left
    · have hRb : (R != 0) = true := by simpa using hR
      have HN : Hid (∀ ev e1 e2, renameF l base src dst ev e1 e2 = (l, R)) := fun ev e1 e2 => by have := HF.out ev e1 e2; rw [if_pos hR] at this; exact this
      clear HF HT hMv
      obtain ⟨⟨r0, r1, r2, r3⟩, e0, e1, e2, e3⟩ := bR.four
      obtain ⟨W', hW', hb4, hg4⟩ := bR.put4 (.int .i64 mi) (.int .i64 mb) (.int .i64 nx) (.slice a l.length ca)
      have hbl := below_grown hB hg4 (Nat.le_refl _) (by omega)
      go_wp2
      obtain ⟨⟨z0, z1, z2, z3⟩, _⟩ := hb4.four
      refine bodyPost_ret (v := .tuple #[.agg (fsC mi mb nx (.slice a l.length ca)), .int .i64 R]) (by simp [results, Tryz.f46, go_sem, z0, z1, z2, z3]) rfl ?_
      exact ⟨_, .slice none 0 0, .slice none 0 0, .slice none 0 0, by rw [HN.out], by rw [HN.out]; exact MadeFs.same _ _ _ _, hbl⟩
    subst hR
    replace HF : Hid _ := fun ev e1 e2 => by have := HF.out ev e1 e2; rw [if_neg (by simp)] at this; exact this
    have hTT := HT.out (fun ev e1 e2 => by rw [HF.out ev e1 e2]) hqp
    go_wp2_with fail
    refine (hMv _ (HV.out.below hB) hTT).mono ?_
    rintro e v13w ⟨y, ev, e1, e2, rfl, hN, b3⟩
    clear hTT
    obtain ⟨ay, cy, rfl⟩ := nds_slice (hN.now (HV.out.below hB) b3)
    have HN := Lib.hid (HF.out ev e1 e2)
    (try dsimp only at hN)
    generalize mvL (tL l _ ev) qa qb qc pa pb e1 e2 = Z at *
    have hRl := bR.lt
    have hsz := hB.size
    clear hMv HF HT p0 p1 p2 p3 s0 s1 s2 t0 t1 t2
    have bR3 := bR.next b3
    have hB3 := hB.trans (b3.mono hB.size)
    obtain ⟨⟨r0, r1, r2, r3⟩, g0, g1, g2, g3⟩ := bR3.four
    obtain ⟨W', hW', hb4, hg4⟩ := bR3.put4 (.int .i64 mi) (.int .i64 mb) (.int .i64 nx) (.slice ay Z.length cy)
    have hbl := below_grown hB3 hg4 (Nat.le_refl _) (by omega)
    have hM := hN.up (w := w) (w' := W') hsz (Kept.grown hg4 hRl)
    go_wp2
    obtain ⟨⟨z0, z1, z2, z3⟩, _⟩ := hb4.four
    refine bodyPost_ret (v := .tuple #[.agg (fsC mi mb nx (.slice ay Z.length cy)), .int .i64 0]) (by simp [results, Tryz.f46, go_sem, z0, z1, z2, z3]) rfl ?_
    exact ⟨_, ev, e1, e2, by rw [HN.out], by rw [HN.out]; exact hM, hbl⟩
end Go.Proofs.YtkdmfeikikmiiaaGreat
