import Derived.Test.YtdgedcfenpmaoaaGreatQMLawBase12
import Derived.Test.YtdgedcfenpmaoaaGreatQMWalkH04
import Derived.Deep.Cut
import Derived.Deep.RegionHeld3
set_option linter.unusedVariables false
set_option linter.unusedSimpArgs false
/- For every sound file system, a base and a path that are short, and a number: package drop takes the entry away, and gives it, as the document does; what was given and is taken away again leaves the file system as it was (no condition). -/
set_option linter.unusedVariables false
set_option linter.unusedSimpArgs false
namespace Go.Proofs.YtdgedcfenpmaoaaGreat
open Go.ChangeShapes Go.WideShapes Go.ChangeAt Go.RowKit
open Go.ChangeMaps (open_string shut_string)
set_option linter.unusedVariables false

theorem names_gone {mi mb nx : Int} {l : List Nd} (h : okB mi mb nx l = true) {base p : List UInt8} {s : Sp} (hq : seekP l base p false = (s, 0)) (hn : s.name ≠ []) (hh : hasN l s.ino = true) (hb : (getN l s.ino).ents = []) : Gone l s.dir s.name s.ino := by
  have hs := ok_sound h
  have s1 := seek_spot hs base p false
  rw [hq] at s1
  exact spot_gone hs (s1.1 rfl) (has_ne0 hs hh) hn hb
theorem names_given {mi mb nx : Int} {l : List Nd} (h : okB mi mb nx l = true) {base p : List UInt8} {s : Sp} (hq : seekP l base p false = (s, 0)) (hn : s.name ≠ []) (hh : hasN l s.ino = false) {i : Int} (hi : hasN l i = true) (hk : (getN l i).kind ≠ 2) (hm : mayB s.name = true) : Given l s.dir s.name i := by
  have hs := ok_sound h
  have s1 := seek_spot hs base p false
  rw [hq] at s1
  have p1 := s1.1 rfl
  have h0 : s.ino = 0 := by
    refine Decidable.byContradiction fun h0 => ?_
    have := spot_has hs p1 h0
    dsimp only at this
    rw [hh] at this
    cases this
  obtain ⟨g1, g2, g3⟩ := p1.entry hn
  dsimp only at g3
  rw [h0] at g3
  exact ⟨g1, by rw [g3]; rfl, hm, hi, hk⟩

set_option maxHeartbeats 8000000 in
set_option maxRecDepth 100000 in
theorem lawNames12 (mi mb nx : Int) (l : List Nd) (base p : List UInt8) (i : Int) (v : Value) (w : World) (hv : Nds w v l) :
    Calls Tryz.prog 5 #[.agg (fsC mi mb nx v), .string ⟨base.toArray⟩, .string ⟨p.toArray⟩, .int .i64 i] w fun e w' => e = .returned (.bool true) ∧ Below w.heap.size w w' := by
  obtain ⟨a, ca, rfl⟩ := nds_slice hv
  have bF := Blk.new w 24 (fsC mi mb nx (.slice a l.length ca))
  have hB := alloc_below w (.cells (fsC mi mb nx (.slice a l.length ca)) 24)
  have nV := hv.below hB
  have HV := Lib.hid hv
  clear hv
  cases hf : fit12B mi mb nx l base p p
  · go_enter Tryz.func5, Tryz.ntmps5
    go_wp2_with fail; refine (awake12 _).mono ?_; rintro e w1 ⟨rfl, b⟩
    (replace bF := bF.next b; replace nV := nV.below b; replace hB := hB.trans (b.mono hB.size))
    obtain ⟨⟨p0, p1, p2, p3⟩, _⟩ := bF.four
    go_wp2_with fail; refine (fits12_any mi mb nx l base p p _ _ nV).mono ?_; rintro e w2 ⟨rfl, b2⟩
    (replace bF := bF.next b2; replace nV := nV.below b2; replace hB := hB.trans (b2.mono hB.size))
    rw [hf]
    go_wp2_with fail; refine (awake12 _).mono ?_; rintro e w3 ⟨rfl, b3⟩
    go_wp2
    go_ret
    exact ⟨rfl, hB.trans (b3.mono hB.size)⟩
  obtain ⟨hok, hsh, hsh2⟩ := fit12_parts hf
  obtain ⟨hbl, hpl⟩ := short12 hsh
  have hql := (short12 hsh2).2
  have hs := ok_sound hok
  have hc := calm_of hok
  have HSk := Lib.hid (fun W hW => refSeek_any mi mb nx l base p false (.slice a l.length ca) W hW (fun i => (calm_get hc i).2.2.1) (by omega) (by omega))
  have hsn := seek_short l base p false
  generalize hQ : seekP l base p false = Q at *
  obtain ⟨⟨sd, sn, si⟩, er⟩ := Q
  dsimp only at hsn
  have HQ := Lib.hid hQ
  clear hQ
  go_enter Tryz.func5, Tryz.ntmps5
  go_wp2_with fail; refine (awake12 _).mono ?_; rintro e w1 ⟨rfl, b⟩
  (replace bF := bF.next b; replace nV := nV.below b; replace hB := hB.trans (b.mono hB.size))
  obtain ⟨⟨p0, p1, p2, p3⟩, _⟩ := bF.four
  go_wp2_with fail; refine (fits12_any mi mb nx l base p p _ _ nV).mono ?_; rintro e w2 ⟨rfl, b2⟩
  (replace bF := bF.next b2; replace nV := nV.below b2; replace hB := hB.trans (b2.mono hB.size))
  rw [hf]
  clear b b2 p0 p1 p2 p3
  obtain ⟨⟨p0, p1, p2, p3⟩, _⟩ := bF.four
  go_wp2_with fail; refine (HSk.out _ nV).mono ?_; rintro e w3 ⟨rfl, b3⟩
  have hB3 : w.heap.size < w3.heap.size := Nat.lt_of_lt_of_le bF.lt b3.size
  have s3 := alloc_below w3 (.cells (spC ⟨sd, sn, si⟩) 37)
  have bS := Blk.new w3 37 (spC ⟨sd, sn, si⟩)
  have b5 := b3.trans (s3.mono b3.size)
  (replace bF := bF.next b5; replace nV := nV.below b5; replace hB := hB.trans (b5.mono hB.size))
  clear b3 s3 b5 p0 p1 p2 p3 HSk
  obtain ⟨⟨s0, s1, s2⟩, _⟩ := bS.three
  dsimp only at s0 s1 s2
  by_cases her : er = 0
  case neg =>
    have her2 : (er != 0) = true := by simpa using her
    go_wp2
    go_ret
    exact ⟨rfl, hB⟩
  subst her
  by_cases hsn0 : sn = []
  case pos =>
    subst hsn0
    go_wp2
    go_ret
    exact ⟨rfl, hB⟩
  have hsnb : (sn == []) = false := by simpa using hsn0
  have HN0 := Lib.hid hsn0
  clear hsn0
  have hGt := refGetT_any mi mb nx si l _ _ nV
  obtain ⟨ag, ng, cg, hgs⟩ := get_slice HV.out si
  have HGo := Lib.hid (fun (hh : hasN l si = true) (hb : (getN l si).ents = []) => names_gone hok HQ.out HN0.out hh hb)
  have HGi := Lib.hid (fun (hh : hasN l si = false) {i : Int} (hi : hasN l i = true) (hk : (getN l i).kind ≠ 2) (hm : mayB sn = true) => names_given hok HQ.out HN0.out hh hi hk hm)
  have hlen := (get_ents HV.out.all si)
  cases hh : hasN l si
  · rw [hh, getN_none hh, show zeroN = ⟨0, 0, 0, [], 0, .slice none 0 0, []⟩ from rfl] at hGt
    obtain ⟨⟨p0, p1, p2, p3⟩, _⟩ := bF.four
    go_wp2_with fail
    refine hGt.mono ?_
    rintro e w4 ⟨rfl, b3⟩
    have s3 := alloc_below w4 (.cells (ndC ⟨0, 0, 0, [], 0, .slice none 0 0, []⟩) 42)
    have b5 := b3.trans (s3.mono b3.size)
    replace bS := bS.next b5
    (replace bF := bF.next b5; replace nV := nV.below b5; replace hB := hB.trans (b5.mono hB.size))
    clear b3 s3 b5 p0 p1 p2 p3 s0 s1 s2 hGt hgs hlen HGo
    have hGt := refGetT_any mi mb nx i l _ _ nV
    obtain ⟨⟨p0, p1, p2, p3⟩, _⟩ := bF.four
    cases hh2 : hasN l i
    · rw [hh2, getN_none hh2, show zeroN = ⟨0, 0, 0, [], 0, .slice none 0 0, []⟩ from rfl] at hGt
      go_wp2_with fail
      refine hGt.mono ?_
      rintro e w5 ⟨rfl, b3⟩
      go_wp2
      go_ret
      exact ⟨rfl, hB.trans ((b3.trans ((alloc_below w5 _).mono b3.size)).mono hB.size)⟩
    rw [hh2] at hGt
    have HGi2 := Lib.hid (fun hk hm => HGi.out hh hh2 hk hm)
    obtain ⟨ag, ng, cg, hgs⟩ := get_slice HV.out i
    have hkd : (getN l i).kind = (getN l i).kind := rfl
    generalize hX : getN l i = X at *
    obtain ⟨xi, xk, xl, xd, xp, xv, xn⟩ := X
    dsimp only at hgs HGi2
    subst hgs
    clear hX hkd HGi
    go_wp2_with fail
    refine hGt.mono ?_
    rintro e w5 ⟨rfl, b3⟩
    have s3 := alloc_below w5 (.cells (ndC ⟨xi, xk, xl, xd, xp, .slice ag ng cg, xn⟩) 42)
    have bX := Blk.new w5 42 (ndC ⟨xi, xk, xl, xd, xp, .slice ag ng cg, xn⟩)
    have b5 := b3.trans (s3.mono b3.size)
    replace bS := bS.next b5
    (replace bF := bF.next b5; replace nV := nV.below b5; replace hB := hB.trans (b5.mono hB.size))
    clear b3 s3 b5 p0 p1 p2 p3 hGt
    obtain ⟨⟨s0, s1, s2⟩, _⟩ := bS.three
    obtain ⟨⟨x0, x1, x2, x3, x4, x5⟩, _⟩ := bX.six
    dsimp only at s0 s1 s2 x0 x1 x2 x3 x4 x5
    by_cases hk2 : xk = 2
    · subst hk2
      go_wp2
      go_ret
      exact ⟨rfl, hB⟩
    have hk3 : (xk == 2) = false := by simpa using hk2
    have hMy := fun W => refMay_any sn W (by omega)
    cases hm : mayB sn
    · rw [hm] at hMy
      go_wp2_with fail
      refine (hMy _).mono ?_
      rintro e wz ⟨rfl, hwz⟩
      subst hwz
      go_wp2
      go_ret
      exact ⟨rfl, hB⟩
    rw [hm] at hMy
    have hg := HGi2.out hk2 hm
    clear HGi2 hk2
    go_wp2_with fail
    refine (hMy _).mono ?_
    rintro e wz ⟨rfl, hwz⟩
    subst hwz
    clear hMy x0 x1 x2 x3 x4 x5 bX
    have hNm := Name_any mi mb nx l ⟨sd, sn, si⟩ i _ _ nV (ok_s hok) hg
    have hRN := fun W hW => refName_any mi mb nx l ⟨sd, sn, i⟩ i (.slice a l.length ca) W hW hc.rise ((rightB_iff _).1 (calm_get hc sd).1).2 (calm_get hc sd).2.1 hc.len (by have := links_fit hok i; omega)
    have hUn := fun ev y W hW => Unname_any mi mb nx (naL l sd sn i ev) ⟨sd, sn, i⟩ y W hW (slim_ok (na_sound hs hg) (na_slim hs (ok_parts hok).1 hg)) (na_back (ev := ev) hs hg (.slice none 0 0)).1 (by dsimp only; omega)
    have hT1 : ∀ e1 e2 y1 y2 W, Nds W y1 (naL l sd sn i e1) → Nds W y2 (naL l sd sn i e2) → Calls Tryz.prog 13 #[.agg (fsC mi mb nx y1), .agg (fsC mi mb nx y2)] W fun e w' => e = .returned (.bool true) ∧ Below W.heap.size W w' := fun e1 e2 y1 y2 W h1 h2 => by
      have := refTab_any mi mb nx mi mb nx _ _ _ _ _ h1 h2
      rwa [tab_same (decide_eq_true (naL_key l sd sn i e1 e2))] at this
    have hT2 : ∀ e1 e2 y1 W, Nds W y1 (unL (naL l sd sn i e1) sd sn i e2) → Nds W (.slice a l.length ca) l → Calls Tryz.prog 13 #[.agg (fsC mi mb nx y1), .agg (fsC mi mb nx (.slice a l.length ca))] W fun e w' => e = .returned (.bool true) ∧ Below W.heap.size W w' := fun e1 e2 y1 W h1 h2 => by
      have := refTab_any mi mb nx mi mb nx _ _ _ _ _ h1 h2
      rwa [tab_same (decide_eq_true (na_back (ev := e1) hs hg e2).2)] at this
    dsimp only at hNm hRN hUn
    generalize naL l sd sn i = R at *
    have hSl := bS.lt
    obtain ⟨⟨p0, p1, p2, p3⟩, _⟩ := bF.four
    go_wp2_with fail
    refine hNm.mono ?_
    rintro e w6 ⟨y1, e1, rfl, hM1, b3⟩
    have n1 := hM1.now nV b3
    have hUn1 := fun W hW => hUn e1 y1 W hW
    have hT11 := fun e2 y2 W => hT1 e1 e2 y1 y2 W
    have hT21 := fun e2 y2 W => hT2 e1 e2 y2 W
    clear hT1 hT2 hUn hNm p0 p1 p2 p3 s0 s1 s2
    generalize R e1 = L1 at *
    obtain ⟨a1, c1, rfl⟩ := nds_slice n1
    have s3 := alloc_below w6 (.cells (fsC mi mb nx (.slice a1 L1.length c1)) 24)
    have bG := Blk.new w6 24 (fsC mi mb nx (.slice a1 L1.length c1))
    replace n1 := n1.below s3
    have b5 := b3.trans (s3.mono b3.size)
    replace bS := bS.next b5
    have hSG : w3.heap.size < w6.heap.size := Nat.lt_of_lt_of_le hSl b3.size
    (replace bF := bF.next b5; replace nV := nV.below b5; replace hB := hB.trans (b5.mono hB.size))
    clear b3 s3 b5
    obtain ⟨⟨s0, s1, s2⟩, e0, e1, e2⟩ := bS.three
    dsimp only at s0 s1 s2
    have bS2 := bS.set 2 (.int .i64 i)
    rw [show (spC ⟨sd, sn, si⟩).setIfInBounds 2 (.int .i64 i) = spC ⟨sd, sn, i⟩ from rfl] at bS2
    have hFl : w.heap.size ≤ w3.heap.size := by have := hB3; omega
    have bG2 := bG.other (B2 := w3.heap.size) (i := 2) (by omega) (.int .i64 i)
    have bF2 := bF.other (B2 := w3.heap.size) (i := 2) (by omega) (.int .i64 i)
    have hB2 := hB.setCell (p := ⟨w3.heap.size, 2, none⟩) hFl (.int .i64 i)
    have hkp := (Kept.of_below (n := _) (alloc_below w6 (.cells (fsC mi mb nx (.slice a1 L1.length c1)) 24))).trans (Kept.grown (grownBy_set (w6.alloc (.cells (fsC mi mb nx (.slice a1 L1.length c1)) 24)) w3.heap.size 2 (.int .i64 i)) hSl)
    have nV2 := HV.out.below hB2
    have n2 := hM1 _ hkp nV2
    clear hkp hM1 n1 nV bS bG bF hB
    generalize hwA : World.setCell (w6.alloc (.cells (fsC mi mb nx (.slice a1 L1.length c1)) 24)) ⟨w3.heap.size, 2, none⟩ (.int .i64 i) = wA at *
    go_upto_region 14 with fail
    clear hwA s0 s1 s2 e0 e1 e2
    have hdr : Below wA.heap.size wA wA.drew := (Below.refl _ _).drew
    have hq := hdr
    have hN : ∀ W, Below wA.heap.size wA W → Nds W (.slice a l.length ca) l := fun W h => nV2.below h
    have hN1 : ∀ W, Below wA.heap.size wA W → Nds W (.slice a1 L1.length c1) L1 := fun W h => n2.below h
    have HMK : ∀ W, Below wA.heap.size wA W → (W.cell? ⟨w6.heap.size, 0, none⟩ = some (.int .i64 mi) ∧ W.cell? ⟨w6.heap.size, 1, none⟩ = some (.int .i64 mb) ∧ W.cell? ⟨w6.heap.size, 2, none⟩ = some (.int .i64 nx) ∧ W.cell? ⟨w6.heap.size, 3, none⟩ = some (.slice a1 L1.length c1) ∧ W.cell? ⟨w.heap.size, 0, none⟩ = some (.int .i64 mi) ∧ W.cell? ⟨w.heap.size, 1, none⟩ = some (.int .i64 mb) ∧ W.cell? ⟨w.heap.size, 2, none⟩ = some (.int .i64 nx) ∧ W.cell? ⟨w.heap.size, 3, none⟩ = some (.slice a l.length ca) ∧ W.cell? ⟨w3.heap.size, 0, none⟩ = some (.int .i64 sd) ∧ W.cell? ⟨w3.heap.size, 1, none⟩ = some (.string ⟨sn.toArray⟩) ∧ W.cell? ⟨w3.heap.size, 2, none⟩ = some (.int .i64 i)) := by
      intro W h
      obtain ⟨⟨x0, x1, x2, x3⟩, _⟩ := (bG2.next h).four
      obtain ⟨⟨y0, y1, y2, y3⟩, _⟩ := (bF2.next h).four
      obtain ⟨⟨z0, z1, z2⟩, _⟩ := (bS2.next h).three
      exact ⟨x0, x1, x2, x3, y0, y1, y2, y3, z0, z1, z2⟩
    clear nV2 n2 bG2 bF2 bS2
    go_region_held3 (fun W => W.cell? ⟨w6.heap.size, 0, none⟩ = some (.int .i64 mi) ∧ W.cell? ⟨w6.heap.size, 1, none⟩ = some (.int .i64 mb) ∧ W.cell? ⟨w6.heap.size, 2, none⟩ = some (.int .i64 nx) ∧ W.cell? ⟨w6.heap.size, 3, none⟩ = some (.slice a1 L1.length c1) ∧ W.cell? ⟨w.heap.size, 0, none⟩ = some (.int .i64 mi) ∧ W.cell? ⟨w.heap.size, 1, none⟩ = some (.int .i64 mb) ∧ W.cell? ⟨w.heap.size, 2, none⟩ = some (.int .i64 nx) ∧ W.cell? ⟨w.heap.size, 3, none⟩ = some (.slice a l.length ca) ∧ W.cell? ⟨w3.heap.size, 0, none⟩ = some (.int .i64 sd) ∧ W.cell? ⟨w3.heap.size, 1, none⟩ = some (.string ⟨sn.toArray⟩) ∧ W.cell? ⟨w3.heap.size, 2, none⟩ = some (.int .i64 i))
      (first | with_reducible exact HMK _ hq)
      (first
        | (go_at_call 24; with_reducible refine (hRN _ (hN _ hq)).mono ?_; rintro e w7 ⟨y2, e2, rfl, hM2, b7⟩; have m2 := hM2.now (hN _ hq) b7; have hq := hq.trans (b7.mono hq.size))
        | (go_at_call 20; with_reducible refine (hUn1 _ (hN1 _ hq)).mono ?_; rintro e w7 ⟨y3, e3, rfl, hM3, b7⟩; have m3 := hM3.now (hN1 _ hq) b7; have hq := hq.trans (b7.mono hq.size))
        | (go_at_call 13; with_reducible refine (hT21 e3 y3 _ m3 (hN _ hq)).mono ?_; rintro e w7 ⟨rfl, b7⟩; have hq := hq.trans (b7.mono hq.size))
        | (go_at_call 13; with_reducible refine (hT11 e2 y2 _ (hN1 _ hq) m2).mono ?_; rintro e w7 ⟨rfl, b7⟩; have hq := hq.trans (b7.mono hq.size)))
    all_goals (go_wp2; go_ret; exact ⟨rfl, hB2.trans (hq.mono hB2.size)⟩)
  · rw [hh] at hGt
    have HGo2 := Lib.hid (fun hb => HGo.out hh hb)
    have hlk := links_fit hok si
    generalize getN l si = X at *
    obtain ⟨xi, xk, xl, xd, xp, xv, xn⟩ := X
    dsimp only at hgs hlen HGo2 hlk
    subst hgs
    obtain ⟨ag', cg', eg, _⟩ := hlen
    simp only [Value.slice.injEq] at eg
    obtain ⟨rfl, rfl, rfl⟩ := eg
    clear HGo HGi
    obtain ⟨⟨p0, p1, p2, p3⟩, _⟩ := bF.four
    go_wp2_with fail
    refine hGt.mono ?_
    rintro e w4 ⟨rfl, b3⟩
    have s3 := alloc_below w4 (.cells (ndC ⟨xi, xk, xl, xd, xp, .slice ag xn.length cg, xn⟩) 42)
    have bX := Blk.new w4 42 (ndC ⟨xi, xk, xl, xd, xp, .slice ag xn.length cg, xn⟩)
    have b5 := b3.trans (s3.mono b3.size)
    replace bS := bS.next b5
    (replace bF := bF.next b5; replace nV := nV.below b5; replace hB := hB.trans (b5.mono hB.size))
    clear b3 s3 b5 p0 p1 p2 p3 s0 s1 s2 hGt
    obtain ⟨⟨s0, s1, s2⟩, _⟩ := bS.three
    obtain ⟨⟨x0, x1, x2, x3, x4, x5⟩, _⟩ := bX.six
    dsimp only at s0 s1 s2 x0 x1 x2 x3 x4 x5
    obtain ⟨⟨p0, p1, p2, p3⟩, _⟩ := bF.four
    by_cases hb : 0 < xn.length
    · have hb2 : (0 : Int) < (xn.length : Int) := by omega
      go_upto_region 8 with fail
      go_quiet (fail)
      go_wp2
      go_ret
      exact ⟨rfl, below_drewN hB _⟩
    have hx0 : xn = [] := List.length_eq_zero_iff.1 (by omega)
    subst hx0
    have hg := HGo2.out rfl
    simp only [List.length_nil] at *
    have hUn := fun W hW => Unname_any mi mb nx l ⟨sd, sn, si⟩ (.slice a l.length ca) W hW (ok_s hok) hg (by dsimp only; omega)
    have hRU := fun W hW => refUnname_any mi mb nx l ⟨sd, sn, si⟩ (.slice a l.length ca) W hW hc.rise ((rightB_iff _).1 (calm_get hc sd).1).2 (calm_get hc sd).2.1 hc.len (by have := links_fit hok si; exact ⟨by show _ ≤ (getN l si).links; omega, by show (getN l si).links ≤ _; omega⟩)
    have hT : ∀ e1 e2 y1 y2 W, Nds W y1 (unL l sd sn si e1) → Nds W y2 (unL l sd sn si e2) → Calls Tryz.prog 13 #[.agg (fsC mi mb nx y1), .agg (fsC mi mb nx y2)] W fun e w' => e = .returned (.bool true) ∧ Below W.heap.size W w' := fun e1 e2 y1 y2 W h1 h2 => by
      have := refTab_any mi mb nx mi mb nx _ _ _ _ _ h1 h2
      rwa [tab_same (decide_eq_true (unL_key l sd sn si e1 e2))] at this
    dsimp only at hUn hRU
    generalize unL l sd sn si = R at *
    go_upto_region 8 with fail
    clear s0 s1 s2 x0 x1 x2 x3 x4 x5 p0 p1 p2 p3 hb
    generalize w4.alloc (.cells (ndC ⟨xi, xk, xl, xd, xp, .slice ag 0 cg, []⟩) 42) = wA at *
    have hdr : Below wA.heap.size wA wA.drew := (Below.refl _ _).drew
    have hq := hdr
    have hN : ∀ W, Below wA.heap.size wA W → Nds W (.slice a l.length ca) l := fun W h => nV.below h
    have HMK : ∀ W, Below wA.heap.size wA W → (W.cell? ⟨w4.heap.size, 5, none⟩ = some (.slice ag 0 cg) ∧ W.cell? ⟨w.heap.size, 0, none⟩ = some (.int .i64 mi) ∧ W.cell? ⟨w.heap.size, 1, none⟩ = some (.int .i64 mb) ∧ W.cell? ⟨w.heap.size, 2, none⟩ = some (.int .i64 nx) ∧ W.cell? ⟨w.heap.size, 3, none⟩ = some (.slice a l.length ca) ∧ W.cell? ⟨w3.heap.size, 0, none⟩ = some (.int .i64 sd) ∧ W.cell? ⟨w3.heap.size, 1, none⟩ = some (.string ⟨sn.toArray⟩) ∧ W.cell? ⟨w3.heap.size, 2, none⟩ = some (.int .i64 si)) := by
      intro W h
      obtain ⟨⟨x0, x1, x2, x3, x4, x5⟩, _⟩ := (bX.next h).six
      obtain ⟨⟨y0, y1, y2, y3⟩, _⟩ := (bF.next h).four
      obtain ⟨⟨z0, z1, z2⟩, _⟩ := (bS.next h).three
      exact ⟨x5, y0, y1, y2, y3, z0, z1, z2⟩
    go_region_held3 (fun W => W.cell? ⟨w4.heap.size, 5, none⟩ = some (.slice ag 0 cg) ∧ W.cell? ⟨w.heap.size, 0, none⟩ = some (.int .i64 mi) ∧ W.cell? ⟨w.heap.size, 1, none⟩ = some (.int .i64 mb) ∧ W.cell? ⟨w.heap.size, 2, none⟩ = some (.int .i64 nx) ∧ W.cell? ⟨w.heap.size, 3, none⟩ = some (.slice a l.length ca) ∧ W.cell? ⟨w3.heap.size, 0, none⟩ = some (.int .i64 sd) ∧ W.cell? ⟨w3.heap.size, 1, none⟩ = some (.string ⟨sn.toArray⟩) ∧ W.cell? ⟨w3.heap.size, 2, none⟩ = some (.int .i64 si))
      (first | with_reducible exact HMK _ hq)
      (first
        | (go_at_call 20; with_reducible refine (hUn _ (hN _ hq)).mono ?_; rintro e w7 ⟨y1, e1, rfl, hM1, b7⟩; have m1 := hM1.now (hN _ hq) b7; (try replace m2 := m2.below b7); have hq := hq.trans (b7.mono hq.size))
        | (go_at_call 21; with_reducible refine (hRU _ (hN _ hq)).mono ?_; rintro e w7 ⟨y2, e2, rfl, hM2, b7⟩; have m2 := hM2.now (hN _ hq) b7; (try replace m1 := m1.below b7); have hq := hq.trans (b7.mono hq.size))
        | (go_at_call 13; with_reducible refine (hT e1 e2 y1 y2 _ m1 m2).mono ?_; rintro e w7 ⟨rfl, b7⟩; have hq := hq.trans (b7.mono hq.size)))
    all_goals (go_wp2; go_ret; exact ⟨rfl, hB.trans (hq.mono hB.size)⟩)

namespace LDropNames
set_option maxRecDepth 100000 in
theorem lifted (os : Os) (started : os.Started) (H : Type) (enc : TypeId × Value → H) :
    ReturnsInHanded {} Tryz.checked os 5 .any (Rows.dropNamesSpec.pre6 enc Tryz.prog Tryz.f5 Rows.dropNamesRow.domain false) (Rows.dropNamesSpec.post enc Tryz.prog Tryz.f5 false true false false) := by
  refine returnsInHanded_of_change (C := Tryz.checked) (by kernel_rfl) started (by kernel_rfl) Tryz.func5
    (ChangeSpec.witness6 (enc := enc) (C := Tryz.checked) false ⟨#[], #[.agg #[.int .i64 0, .int .i64 0, .int .i64 0, .slice none 0 0], .string ByteArray.empty, .string ByteArray.empty, .int .i64 0], []⟩ 8 (by kernel_rfl) (by kernel_rfl) (by kernel_rfl) (by kernel_rfl)) ?_
  intro W base args ds gs before hval0 hW hcnd _
  have hval : ∀ (j : Nat) t v, Tryz.f5.params[j]? = some t → args[j]? = some v → Value.okWide Tryz.prog W .any base t v := hval0
  have hW' := hW
  obtain ⟨p, q, hA0, hV, rfl, hfz, hnd⟩ := hW
  have hA : DataW.TrodAll enc Tryz.prog W 0 (fun _ => true) true Tryz.f5.params.toList args.toList ds p := hA0
  rw [Tryz.params5] at hA hval
  obtain ⟨v0, vs0, d0, ds0, p0, q0, hargs, rfl, rfl, k0, r0⟩ := trodAll_cons hA
  obtain ⟨v1, vs1, d1, ds1, p1, q1, rfl, rfl, rfl, k1, r1⟩ := trodAll_cons r0
  obtain ⟨v2, vs2, d2, ds2, p2, q2, rfl, rfl, rfl, k2, r2⟩ := trodAll_cons r1
  obtain ⟨v3, vs3, d3, ds3, p3, q3, rfl, rfl, rfl, k3, r3⟩ := trodAll_cons r2
  obtain ⟨rfl, rfl, rfl⟩ := trodAll_nil r3
  obtain rfl : args = #[v0, v1, v2, v3] := by cases args; simp_all
  obtain ⟨rfl, rfl⟩ := trodVars_none hV
  have ok0 := hval 0 24 v0 rfl rfl
  have ok1 := hval 1 9 v1 rfl rfl
  have ok2 := hval 2 9 v2 rfl rfl
  have ok3 := hval 3 3 v3 rfl rfl
  have lt0 : ∀ x ∈ p0, x.block < W.heap.size := by obtain ⟨m, hm⟩ := k0; exact DataW.trod_lt m _ _ _ hm
  have lt1 : ∀ x ∈ p1, x.block < W.heap.size := by obtain ⟨m, hm⟩ := k1; exact DataW.trod_lt m _ _ _ hm
  have lt2 : ∀ x ∈ p2, x.block < W.heap.size := by obtain ⟨m, hm⟩ := k2; exact DataW.trod_lt m _ _ _ hm
  have lt3 : ∀ x ∈ p3, x.block < W.heap.size := by obtain ⟨m, hm⟩ := k3; exact DataW.trod_lt m _ _ _ hm
  have C : Calls Tryz.prog 5 #[v0, v1, v2, v3] W fun e w' => e = .returned (.bool true) ∧ Below W.heap.size W w' := by
    clear hA0 hval0 hval hW' hcnd hV hfz hnd
    obtain ⟨mi, mb, nx, x, l, rfl, hx⟩ := fs_of_trod k0 ok0
    obtain ⟨s1, rfl, rfl, rfl, hs1⟩ := open_string Tryz.underlying9 ok1 k1
    obtain ⟨s2, rfl, rfl, rfl, hs2⟩ := open_string Tryz.underlying9 ok2 k2
    obtain ⟨t, rfl, rfl, rfl, ht⟩ := open_int Tryz.underlying3 ok3 k3
    rw [str_eta s1, str_eta s2]
    exact lawNames12 mi mb nx l _ _ t x W hx
  refine C.mono fun e W' ⟨he, bel⟩ => ?_
  subst he
  exact ⟨_, rfl, _, _, _, [], _, [], hW', trodAll_mk1 (shut_bool Tryz.underlying4 _), (trodAll_cons_mk (Below.trod laidOut (by kernel_rfl) (of_decide_eq_true (by kernel_rfl)) k0 bel lt0) (trodAll_cons_mk (Below.trod laidOut (by kernel_rfl) (of_decide_eq_true (by kernel_rfl)) k1 bel lt1) (trodAll_cons_mk (Below.trod laidOut (by kernel_rfl) (of_decide_eq_true (by kernel_rfl)) k2 bel lt2) (trodAll_cons_mk (Below.trod laidOut (by kernel_rfl) (of_decide_eq_true (by kernel_rfl)) k3 bel lt3) trodAll_mk0)))), rfl, bel.frame _, fun h => by cases h⟩
theorem proved : Rows.DropNamesSaid :=
  OpenClaim.holds_of_wide 5 Tryz.f5 rfl rfl rfl rfl rfl rfl rfl ⟨rfl, rfl, rfl, rfl, rfl⟩ rfl rfl rfl rfl rfl (by kernel_rfl) Tryz.func5 (by kernel_rfl)
    (of_decide_eq_true (by kernel_rfl)) (by unfold Func.isWrapper; first | (rw [if_pos (by decide +kernel)]; kernel_rfl) | (rw [if_neg (by decide +kernel)]; exact ⟨rfl, rfl⟩))
    (fun os started H enc _ => lifted os started H enc)
#print axioms proved
end LDropNames
end Go.Proofs.YtdgedcfenpmaoaaGreat
