import Derived.Test.YtoejjdebfjepaaaGreatQLawBase14
import Derived.Test.YtoejjdebfjepaaaGreatQMWalkD07
import Derived.Test.YtoejjdebfjepaaaGreatQSure14
import Derived.Deep.RegionHeld3
set_option linter.unusedVariables false
set_option linter.unusedSimpArgs false
/- For every sound file system and two plain paths that are short: what package move moves is what the document moves (no condition). -/
set_option linter.unusedVariables false
set_option linter.unusedSimpArgs false
namespace Go.Proofs.YtoejjdebfjepaaaGreat
open Go.ChangeShapes Go.WideShapes Go.ChangeAt Go.RowKit
open Go.ChangeMaps (open_string shut_string)
set_option linter.unusedVariables false

set_option maxHeartbeats 8000000 in
set_option maxRecDepth 100000 in
theorem lawMoves14 (mi mb nx : Int) (l : List Nd) (p q : List UInt8) (v : Value) (w : World) (hv : Nds w v l) :
    Calls Tryz.prog 5 #[.agg (fsC mi mb nx v), .string ⟨p.toArray⟩, .string ⟨q.toArray⟩] w fun e w' => e = .returned (.bool true) ∧ Below w.heap.size w w' := by
  obtain ⟨a, ca, rfl⟩ := nds_slice hv
  have bF := Blk.new w 24 (fsC mi mb nx (.slice a l.length ca))
  have hB := alloc_below w (.cells (fsC mi mb nx (.slice a l.length ca)) 24)
  have nV := hv.below hB
  have HV := Lib.hid hv
  clear hv
  cases hf : fit14B mi mb nx l [47] p q
  · go_enter Tryz.func5, Tryz.ntmps5
    go_wp2_with fail; refine (awake14 _).mono ?_; rintro e w1 ⟨rfl, b⟩
    (replace bF := bF.next b; replace nV := nV.below b; replace hB := hB.trans (b.mono hB.size))
    obtain ⟨⟨p0, p1, p2, p3⟩, _⟩ := bF.four
    go_wp2_with fail; refine (fits14_any mi mb nx l [47] p q _ _ nV).mono ?_; rintro e w2 ⟨rfl, b2⟩
    (replace bF := bF.next b2; replace nV := nV.below b2; replace hB := hB.trans (b2.mono hB.size))
    rw [hf]
    go_wp2_with fail; refine (awake14 _).mono ?_; rintro e w3 ⟨rfl, b3⟩
    go_wp2
    go_ret
    exact ⟨rfl, hB.trans (b3.mono hB.size)⟩
  obtain ⟨hok, hsh, hsh2⟩ := fit14_parts hf
  obtain ⟨hbl, hpl⟩ := short14 hsh
  have hql := (short14 hsh2).2
  have hs := ok_sound hok
  have hc := calm_of hok
  have HA := Lib.hid (fun W hW => refAt_any mi mb nx l p (.slice a l.length ca) W hW (by omega))
  have HBt := Lib.hid (fun W hW => refAt_any mi mb nx l q (.slice a l.length ca) W hW (by omega))
  generalize hQ : atP l p = Q at *
  generalize hP : atP l q = P at *
  obtain ⟨⟨ad, an, ai⟩, ea⟩ := Q
  obtain ⟨⟨bd, bn, bi⟩, eb⟩ := P
  have HQ := Lib.hid hQ
  have HP := Lib.hid hP
  clear hQ hP
  go_enter Tryz.func5, Tryz.ntmps5
  go_wp2_with fail; refine (awake14 _).mono ?_; rintro e w1 ⟨rfl, b⟩
  (replace bF := bF.next b; replace nV := nV.below b; replace hB := hB.trans (b.mono hB.size))
  obtain ⟨⟨p0, p1, p2, p3⟩, _⟩ := bF.four
  go_wp2_with fail; refine (fits14_any mi mb nx l [47] p q _ _ nV).mono ?_; rintro e w2 ⟨rfl, b2⟩
  (replace bF := bF.next b2; replace nV := nV.below b2; replace hB := hB.trans (b2.mono hB.size))
  rw [hf]
  clear b b2 p0 p1 p2 p3
  obtain ⟨⟨p0, p1, p2, p3⟩, _⟩ := bF.four
  go_wp2_with fail; refine (HA.out _ nV).mono ?_; rintro e w3 ⟨rfl, b3⟩
  have hB3 : w.heap.size < w3.heap.size := Nat.lt_of_lt_of_le bF.lt b3.size
  have s3 := alloc_below w3 (.cells (spC ⟨ad, an, ai⟩) 41)
  have bS := Blk.new w3 41 (spC ⟨ad, an, ai⟩)
  have b5 := b3.trans (s3.mono b3.size)
  (replace bF := bF.next b5; replace nV := nV.below b5; replace hB := hB.trans (b5.mono hB.size))
  clear b3 s3 b5 p0 p1 p2 p3 HA
  obtain ⟨⟨p0, p1, p2, p3⟩, _⟩ := bF.four
  go_wp2_with fail; refine (HBt.out _ nV).mono ?_; rintro e w4 ⟨rfl, b3⟩
  have s3 := alloc_below w4 (.cells (spC ⟨bd, bn, bi⟩) 41)
  have bT := Blk.new w4 41 (spC ⟨bd, bn, bi⟩)
  have b5 := b3.trans (s3.mono b3.size)
  replace bS := bS.next b5
  (replace bF := bF.next b5; replace nV := nV.below b5; replace hB := hB.trans (b5.mono hB.size))
  clear b3 s3 b5 p0 p1 p2 p3 HBt
  obtain ⟨⟨s0, s1, s2⟩, _⟩ := bS.three
  obtain ⟨⟨t0, t1, t2⟩, _⟩ := bT.three
  dsimp only at s0 s1 s2 t0 t1 t2
  by_cases he : ea = 0
  case neg =>
    have he2 : (ea != 0) = true := by simpa using he
    go_wp2
    go_ret
    exact ⟨rfl, hB⟩
  subst he
  by_cases he : eb = 0
  case neg =>
    have he2 : (eb != 0) = true := by simpa using he
    go_wp2
    go_ret
    exact ⟨rfl, hB⟩
  subst he
  by_cases ha0 : ai = 0
  case pos =>
    subst ha0
    go_wp2
    go_ret
    exact ⟨rfl, hB⟩
  have ha2 : (ai == 0) = false := by simpa using ha0
  by_cases han : an = []
  case pos =>
    subst han
    go_wp2
    go_ret
    exact ⟨rfl, hB⟩
  have han2 : (an == []) = false := by simpa using han
  by_cases hbn : bn = []
  case pos =>
    subst hbn
    go_wp2
    go_ret
    exact ⟨rfl, hB⟩
  have hbn2 : (bn == []) = false := by simpa using hbn
  by_cases hab : ai = bi
  case pos =>
    have hab2 : (ai == bi) = true := by simpa using hab
    go_wp2
    go_ret
    exact ⟨rfl, hB⟩
  have hab2 : (ai == bi) = false := by simpa using hab
  have HRD := Lib.hid (fun h1 h2 => move_ready hok HQ.out HP.out ha0 han hbn hab h1 h2)
  clear ha0 han hbn hab
  dsimp only at HRD
  have hGX := refGetT_any mi mb nx ai l (.slice a l.length ca)
  have hGY := refGetT_any mi mb nx bi l (.slice a l.length ca)
  have hIn := fun W hW => refInside_any mi mb nx bd ai l (.slice a l.length ca) W hW (by have := hc.len; omega)
  obtain ⟨ag, ng, cg, hgs⟩ := get_slice HV.out ai
  have hlen := get_ents HV.out.all bi
  have HM := Lib.hid (fun (h1 : (getN l bi).ents = []) h2 W hW => Move_any mi mb nx l ⟨ad, an, ai⟩ ⟨bd, bn, bi⟩ (.slice a l.length ca) W hW (ok_s hok) (HRD.out h1 h2).1 (HRD.out h1 h2).2.1)
  have HR := Lib.hid (fun (h1 : (getN l bi).ents = []) h2 W hW => refMove_any mi mb nx l ⟨ad, an, ai⟩ ⟨bd, bn, bi⟩ (.slice a l.length ca) W hW hc.rise (by have := hc.len; omega) (calm_ents hc bd).1 (calm_ents hc bd).2.1 (by have := links_fit14 hok bi; exact ⟨by show _ ≤ (getN l bi).links; omega, by show (getN l bi).links ≤ _; omega⟩) (HRD.out h1 h2).2.2)
  have HT : Hid (∀ a1 a2 a3 b1 b2 b3 y1 y2 W, Nds W y1 (mvL (tL l ⟨bd, bn, bi⟩ a1) ad an ai bd bn a2 a3) → Nds W y2 (mvL (tL l ⟨bd, bn, bi⟩ b1) ad an ai bd bn b2 b3) → Calls Tryz.prog 12 #[.agg (fsC mi mb nx y1), .agg (fsC mi mb nx y2)] W fun e w' => e = .returned (.bool true) ∧ Below W.heap.size W w') := fun a1 a2 a3 b1 b2 b3 y1 y2 W h1 h2 => by
    have := refTab_any mi mb nx mi mb nx _ _ _ _ _ h1 h2
    rwa [tab_eq14 (decide_eq_true (move_key l ⟨ad, an, ai⟩ ⟨bd, bn, bi⟩ a1 a2 a3 b1 b2 b3))] at this
  dsimp only at HM HR
  clear HRD
  generalize insideN l bd ai = ins at *
  generalize hGXe : getN l ai = X at *
  obtain ⟨xi, xk, xl, xd, xp, xv, xn⟩ := X
  generalize hGYe : getN l bi = Y at *
  obtain ⟨yi, yk, yl, yd, yp, yv, yn⟩ := Y
  generalize hasN l ai = r1 at *
  generalize hasN l bi = r2 at *
  dsimp only at hgs hlen HM HR
  subst hgs
  obtain ⟨ag', cg', rfl, _⟩ := hlen
  clear hGXe hGYe
  obtain ⟨⟨p0, p1, p2, p3⟩, _⟩ := bF.four
  go_wp2_with fail
  refine (hGX _ nV).mono ?_
  rintro e w5 ⟨rfl, b3⟩
  have s3 := alloc_below w5 (.cells (ndC ⟨xi, xk, xl, xd, xp, .slice ag ng cg, xn⟩) 36)
  have bX := Blk.new w5 36 (ndC ⟨xi, xk, xl, xd, xp, .slice ag ng cg, xn⟩)
  have b5 := b3.trans (s3.mono b3.size)
  replace bS := bS.next b5
  replace bT := bT.next b5
  (replace bF := bF.next b5; replace nV := nV.below b5; replace hB := hB.trans (b5.mono hB.size))
  clear b3 s3 b5 p0 p1 p2 p3 s0 s1 s2 t0 t1 t2 hGX
  obtain ⟨⟨t0, t1, t2⟩, _⟩ := bT.three
  dsimp only at t0 t1 t2
  obtain ⟨⟨p0, p1, p2, p3⟩, _⟩ := bF.four
  go_wp2_with fail
  refine (hGY _ nV).mono ?_
  rintro e w6 ⟨rfl, b3⟩
  have s3 := alloc_below w6 (.cells (ndC ⟨yi, yk, yl, yd, yp, .slice ag' yn.length cg', yn⟩) 36)
  have bY := Blk.new w6 36 (ndC ⟨yi, yk, yl, yd, yp, .slice ag' yn.length cg', yn⟩)
  have b5 := b3.trans (s3.mono b3.size)
  replace bS := bS.next b5
  replace bT := bT.next b5
  replace bX := bX.next b5
  (replace bF := bF.next b5; replace nV := nV.below b5; replace hB := hB.trans (b5.mono hB.size))
  clear b3 s3 b5 p0 p1 p2 p3 t0 t1 t2 hGY
  obtain ⟨⟨x0, x1, x2, x3, x4, x5⟩, _⟩ := bX.six
  obtain ⟨⟨y0, y1, y2, y3, y4, y5⟩, _⟩ := bY.six
  obtain ⟨⟨s0, s1, s2⟩, _⟩ := bS.three
  obtain ⟨⟨t0, t1, t2⟩, _⟩ := bT.three
  dsimp only at x0 x1 x2 x3 x4 x5 y0 y1 y2 y3 y4 y5 s0 s1 s2 t0 t1 t2
  by_cases hb : 0 < yn.length
  · have hb2 : (0 : Int) < (yn.length : Int) := by omega
    go_wp2
    go_ret
    exact ⟨rfl, hB⟩
  have hy0 : yn = [] := List.length_eq_zero_iff.1 (by omega)
  subst hy0
  simp only [List.length_nil] at *
  obtain ⟨⟨p0, p1, p2, p3⟩, _⟩ := bF.four
  by_cases hk2 : xk = 2
  · subst hk2
    go_wp2_with fail
    refine (hIn _ nV).mono ?_
    rintro e w7 ⟨rfl, b3⟩
    replace bS := bS.next b3
    replace bT := bT.next b3
    (replace bF := bF.next b3; replace nV := nV.below b3; replace hB := hB.trans (b3.mono hB.size))
    cases ins
    · clear p0 p1 p2 p3
      obtain ⟨⟨p0, p1, p2, p3⟩, _⟩ := bF.four
      have hMv := HM.out (by trivial) (fun h => by cases h.2)
      have hRM := HR.out (by trivial) (fun h => by cases h.2)
      have hT := HT.out
      go_upto_region 11 with fail
      clear x0 x1 x2 x3 x4 x5 y0 y1 y2 y3 y4 y5 s0 s1 s2 t0 t1 t2 p0 p1 p2 p3 hb HM HR HT bX bY
      generalize w7 = wA at *
      have hdr : Below wA.heap.size wA wA.drew := (Below.refl _ _).drew
      have hq := hdr
      have hN : ∀ W, Below wA.heap.size wA W → Nds W (.slice a l.length ca) l := fun W h => nV.below h
      have HMK : ∀ W, Below wA.heap.size wA W → (W.cell? ⟨w.heap.size, 0, none⟩ = some (.int .i64 mi) ∧ W.cell? ⟨w.heap.size, 1, none⟩ = some (.int .i64 mb) ∧ W.cell? ⟨w.heap.size, 2, none⟩ = some (.int .i64 nx) ∧ W.cell? ⟨w.heap.size, 3, none⟩ = some (.slice a l.length ca) ∧ W.cell? ⟨w3.heap.size, 0, none⟩ = some (.int .i64 ad) ∧ W.cell? ⟨w3.heap.size, 1, none⟩ = some (.string ⟨an.toArray⟩) ∧ W.cell? ⟨w3.heap.size, 2, none⟩ = some (.int .i64 ai) ∧ W.cell? ⟨w4.heap.size, 0, none⟩ = some (.int .i64 bd) ∧ W.cell? ⟨w4.heap.size, 1, none⟩ = some (.string ⟨bn.toArray⟩) ∧ W.cell? ⟨w4.heap.size, 2, none⟩ = some (.int .i64 bi)) := by
        intro W h
        obtain ⟨⟨y0, y1, y2, y3⟩, _⟩ := (bF.next h).four
        obtain ⟨⟨z0, z1, z2⟩, _⟩ := (bS.next h).three
        obtain ⟨⟨u0, u1, u2⟩, _⟩ := (bT.next h).three
        exact ⟨y0, y1, y2, y3, z0, z1, z2, u0, u1, u2⟩
      go_region_held3 (fun W => W.cell? ⟨w.heap.size, 0, none⟩ = some (.int .i64 mi) ∧ W.cell? ⟨w.heap.size, 1, none⟩ = some (.int .i64 mb) ∧ W.cell? ⟨w.heap.size, 2, none⟩ = some (.int .i64 nx) ∧ W.cell? ⟨w.heap.size, 3, none⟩ = some (.slice a l.length ca) ∧ W.cell? ⟨w3.heap.size, 0, none⟩ = some (.int .i64 ad) ∧ W.cell? ⟨w3.heap.size, 1, none⟩ = some (.string ⟨an.toArray⟩) ∧ W.cell? ⟨w3.heap.size, 2, none⟩ = some (.int .i64 ai) ∧ W.cell? ⟨w4.heap.size, 0, none⟩ = some (.int .i64 bd) ∧ W.cell? ⟨w4.heap.size, 1, none⟩ = some (.string ⟨bn.toArray⟩) ∧ W.cell? ⟨w4.heap.size, 2, none⟩ = some (.int .i64 bi))
        (first | with_reducible exact HMK _ hq)
        (first
          | (go_at_call 18; with_reducible refine (hMv _ (hN _ hq)).mono ?_; rintro e w7 ⟨y1, e1, i1, j1, rfl, hM1, b7⟩; have m1 := hM1.now (hN _ hq) b7; (try replace m2 := m2.below b7); have hq := hq.trans (b7.mono hq.size))
          | (go_at_call 19; with_reducible refine (hRM _ (hN _ hq)).mono ?_; rintro e w7 ⟨y2, e2, i2, j2, rfl, hM2, b7⟩; have m2 := hM2.now (hN _ hq) b7; (try replace m1 := m1.below b7); have hq := hq.trans (b7.mono hq.size))
          | (go_at_call 12; with_reducible refine (hT e1 i1 j1 e2 i2 j2 y1 y2 _ m1 m2).mono ?_; rintro e w7 ⟨rfl, b7⟩; have hq := hq.trans (b7.mono hq.size)))
      all_goals (go_wp2; go_ret; exact ⟨rfl, hB.trans (hq.mono hB.size)⟩)
    · go_wp2
      go_ret
      exact ⟨rfl, hB⟩
  · have hk3 : (xk == 2) = false := by simpa using hk2
    have hMv := HM.out (by trivial) (fun h => hk2 h.1)
    have hRM := HR.out (by trivial) (fun h => hk2 h.1)
    have hT := HT.out
    go_upto_region 11 with fail
    clear x0 x1 x2 x3 x4 x5 y0 y1 y2 y3 y4 y5 s0 s1 s2 t0 t1 t2 p0 p1 p2 p3 hb HM HR HT bX bY
    generalize w6.alloc (.cells (ndC ⟨yi, yk, yl, yd, yp, .slice ag' 0 cg', []⟩) 36) = wA at *
    have hdr : Below wA.heap.size wA wA.drew := (Below.refl _ _).drew
    have hq := hdr
    have hN : ∀ W, Below wA.heap.size wA W → Nds W (.slice a l.length ca) l := fun W h => nV.below h
    have HMK : ∀ W, Below wA.heap.size wA W → (W.cell? ⟨w.heap.size, 0, none⟩ = some (.int .i64 mi) ∧ W.cell? ⟨w.heap.size, 1, none⟩ = some (.int .i64 mb) ∧ W.cell? ⟨w.heap.size, 2, none⟩ = some (.int .i64 nx) ∧ W.cell? ⟨w.heap.size, 3, none⟩ = some (.slice a l.length ca) ∧ W.cell? ⟨w3.heap.size, 0, none⟩ = some (.int .i64 ad) ∧ W.cell? ⟨w3.heap.size, 1, none⟩ = some (.string ⟨an.toArray⟩) ∧ W.cell? ⟨w3.heap.size, 2, none⟩ = some (.int .i64 ai) ∧ W.cell? ⟨w4.heap.size, 0, none⟩ = some (.int .i64 bd) ∧ W.cell? ⟨w4.heap.size, 1, none⟩ = some (.string ⟨bn.toArray⟩) ∧ W.cell? ⟨w4.heap.size, 2, none⟩ = some (.int .i64 bi)) := by
      intro W h
      obtain ⟨⟨y0, y1, y2, y3⟩, _⟩ := (bF.next h).four
      obtain ⟨⟨z0, z1, z2⟩, _⟩ := (bS.next h).three
      obtain ⟨⟨u0, u1, u2⟩, _⟩ := (bT.next h).three
      exact ⟨y0, y1, y2, y3, z0, z1, z2, u0, u1, u2⟩
    go_region_held3 (fun W => W.cell? ⟨w.heap.size, 0, none⟩ = some (.int .i64 mi) ∧ W.cell? ⟨w.heap.size, 1, none⟩ = some (.int .i64 mb) ∧ W.cell? ⟨w.heap.size, 2, none⟩ = some (.int .i64 nx) ∧ W.cell? ⟨w.heap.size, 3, none⟩ = some (.slice a l.length ca) ∧ W.cell? ⟨w3.heap.size, 0, none⟩ = some (.int .i64 ad) ∧ W.cell? ⟨w3.heap.size, 1, none⟩ = some (.string ⟨an.toArray⟩) ∧ W.cell? ⟨w3.heap.size, 2, none⟩ = some (.int .i64 ai) ∧ W.cell? ⟨w4.heap.size, 0, none⟩ = some (.int .i64 bd) ∧ W.cell? ⟨w4.heap.size, 1, none⟩ = some (.string ⟨bn.toArray⟩) ∧ W.cell? ⟨w4.heap.size, 2, none⟩ = some (.int .i64 bi))
      (first | with_reducible exact HMK _ hq)
      (first
        | (go_at_call 18; with_reducible refine (hMv _ (hN _ hq)).mono ?_; rintro e w7 ⟨y1, e1, i1, j1, rfl, hM1, b7⟩; have m1 := hM1.now (hN _ hq) b7; (try replace m2 := m2.below b7); have hq := hq.trans (b7.mono hq.size))
        | (go_at_call 19; with_reducible refine (hRM _ (hN _ hq)).mono ?_; rintro e w7 ⟨y2, e2, i2, j2, rfl, hM2, b7⟩; have m2 := hM2.now (hN _ hq) b7; (try replace m1 := m1.below b7); have hq := hq.trans (b7.mono hq.size))
        | (go_at_call 12; with_reducible refine (hT e1 i1 j1 e2 i2 j2 y1 y2 _ m1 m2).mono ?_; rintro e w7 ⟨rfl, b7⟩; have hq := hq.trans (b7.mono hq.size)))
    all_goals (go_wp2; go_ret; exact ⟨rfl, hB.trans (hq.mono hB.size)⟩)

namespace LMoveMoves
set_option maxRecDepth 100000 in
theorem lifted (os : Os) (started : os.Started) (H : Type) (enc : TypeId × Value → H) :
    ReturnsInHanded {} Tryz.checked os 5 .any (Rows.moveMovesSpec.pre6 enc Tryz.prog Tryz.f5 Rows.moveMovesRow.domain false) (Rows.moveMovesSpec.post enc Tryz.prog Tryz.f5 false true false false) := by
  refine returnsInHanded_of_change (C := Tryz.checked) (by kernel_rfl) started (by kernel_rfl) Tryz.func5
    (ChangeSpec.witness6 (enc := enc) (C := Tryz.checked) false ⟨#[], #[.agg #[.int .i64 0, .int .i64 0, .int .i64 0, .slice none 0 0], .string ByteArray.empty, .string ByteArray.empty], []⟩ 8 (by kernel_rfl) (by kernel_rfl) (by kernel_rfl) (by kernel_rfl)) ?_
  intro W base args ds gs before hval0 hW hcnd _
  have hval : ∀ (j : Nat) t v, Tryz.f5.params[j]? = some t → args[j]? = some v → Value.okWide Tryz.prog W .any base t v := hval0
  have hW' := hW
  obtain ⟨p, q, hA0, hV, rfl, hfz, hnd⟩ := hW
  have hA : DataW.TrodAll enc Tryz.prog W 0 (fun _ => true) true Tryz.f5.params.toList args.toList ds p := hA0
  rw [Tryz.params5] at hA hval
  obtain ⟨v0, vs0, d0, ds0, p0, q0, hargs, rfl, rfl, k0, r0⟩ := trodAll_cons hA
  obtain ⟨v1, vs1, d1, ds1, p1, q1, rfl, rfl, rfl, k1, r1⟩ := trodAll_cons r0
  obtain ⟨v2, vs2, d2, ds2, p2, q2, rfl, rfl, rfl, k2, r2⟩ := trodAll_cons r1
  obtain ⟨rfl, rfl, rfl⟩ := trodAll_nil r2
  obtain rfl : args = #[v0, v1, v2] := by cases args; simp_all
  obtain ⟨rfl, rfl⟩ := trodVars_none hV
  have ok0 := hval 0 24 v0 rfl rfl
  have ok1 := hval 1 9 v1 rfl rfl
  have ok2 := hval 2 9 v2 rfl rfl
  have lt0 : ∀ x ∈ p0, x.block < W.heap.size := by obtain ⟨m, hm⟩ := k0; exact DataW.trod_lt m _ _ _ hm
  have lt1 : ∀ x ∈ p1, x.block < W.heap.size := by obtain ⟨m, hm⟩ := k1; exact DataW.trod_lt m _ _ _ hm
  have lt2 : ∀ x ∈ p2, x.block < W.heap.size := by obtain ⟨m, hm⟩ := k2; exact DataW.trod_lt m _ _ _ hm
  have C : Calls Tryz.prog 5 #[v0, v1, v2] W fun e w' => e = .returned (.bool true) ∧ Below W.heap.size W w' := by
    clear hA0 hval0 hval hW' hcnd hV hfz hnd
    obtain ⟨mi, mb, nx, x, l, rfl, hx⟩ := fs_of_trod k0 ok0
    obtain ⟨s0, rfl, rfl, rfl, hs0⟩ := open_string Tryz.underlying9 ok1 k1
    obtain ⟨s1, rfl, rfl, rfl, hs1⟩ := open_string Tryz.underlying9 ok2 k2
    rw [str_eta s0, str_eta s1]
    exact lawMoves14 mi mb nx l _ _ x W hx
  refine C.mono fun e W' ⟨he, bel⟩ => ?_
  subst he
  exact ⟨_, rfl, _, _, _, [], _, [], hW', trodAll_mk1 (shut_bool Tryz.underlying4 _), (trodAll_cons_mk (Below.trod laidOut (by kernel_rfl) (of_decide_eq_true (by kernel_rfl)) k0 bel lt0) (trodAll_cons_mk (Below.trod laidOut (by kernel_rfl) (of_decide_eq_true (by kernel_rfl)) k1 bel lt1) (trodAll_cons_mk (Below.trod laidOut (by kernel_rfl) (of_decide_eq_true (by kernel_rfl)) k2 bel lt2) trodAll_mk0))), rfl, bel.frame _, fun h => by cases h⟩
theorem proved : Rows.MoveMovesSaid :=
  OpenClaim.holds_of_wide 5 Tryz.f5 rfl rfl rfl rfl rfl rfl rfl ⟨rfl, rfl, rfl, rfl, rfl⟩ rfl rfl rfl rfl rfl (by kernel_rfl) Tryz.func5 (by kernel_rfl)
    (of_decide_eq_true (by kernel_rfl)) (by unfold Func.isWrapper; first | (rw [if_pos (by decide +kernel)]; kernel_rfl) | (rw [if_neg (by decide +kernel)]; exact ⟨rfl, rfl⟩))
    (fun os started H enc _ => lifted os started H enc)
#print axioms proved
end LMoveMoves
end Go.Proofs.YtoejjdebfjepaaaGreat
