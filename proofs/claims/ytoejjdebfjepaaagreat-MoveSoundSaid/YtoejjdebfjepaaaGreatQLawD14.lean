import Derived.Test.YtoejjdebfjepaaaGreatQLawBase14
import Derived.Test.YtoejjdebfjepaaaGreatQMWalkD07
import Derived.Test.YtoejjdebfjepaaaGreatQMWalkB08
import Derived.Test.YtoejjdebfjepaaaGreatQMWalkF03
import Derived.Test.YtoejjdebfjepaaaGreatQSure14
set_option linter.unusedVariables false
set_option linter.unusedSimpArgs false
/- For every sound file system and two plain paths that are short: what package move renames stays sound; what lay below the old path lies below the new one; what is refused changes nothing (no condition). -/
set_option linter.unusedVariables false
set_option linter.unusedSimpArgs false
namespace Go.Proofs.YtoejjdebfjepaaaGreat
open Go.ChangeShapes Go.WideShapes Go.ChangeAt Go.RowKit
open Go.ChangeMaps (open_string shut_string)
set_option linter.unusedVariables false

set_option maxHeartbeats 8000000 in
set_option maxRecDepth 100000 in
theorem lawSound14 (mi mb nx : Int) (l : List Nd) (p q : List UInt8) (v : Value) (w : World) (hv : Nds w v l) :
    Calls Tryz.prog 6 #[.agg (fsC mi mb nx v), .string ⟨p.toArray⟩, .string ⟨q.toArray⟩] w fun e w' => e = .returned (.bool true) ∧ Below w.heap.size w w' := by
  obtain ⟨a, ca, rfl⟩ := nds_slice hv
  have bF := Blk.new w 24 (fsC mi mb nx (.slice a l.length ca))
  have hB := alloc_below w (.cells (fsC mi mb nx (.slice a l.length ca)) 24)
  have nV := hv.below hB
  have HV := Lib.hid hv
  clear hv
  cases hf : fit14B mi mb nx l [47] p q
  · go_enter Tryz.func6, Tryz.ntmps6
    go_wp2_with fail; refine (awake14 _).mono ?_; rintro e w1 ⟨rfl, b⟩
    (replace bF := bF.next b; replace nV := nV.below b; replace hB := hB.trans (b.mono hB.size))
    obtain ⟨⟨p0, p1, p2, p3⟩, _⟩ := bF.four
    go_wp2_with fail; refine (fits14_any mi mb nx l [47] p q _ _ nV).mono ?_; rintro e w2 ⟨rfl, b2⟩
    (replace bF := bF.next b2; replace nV := nV.below b2; replace hB := hB.trans (b2.mono hB.size))
    rw [hf]
    go_wp2_with fail; refine (awake14 _).mono ?_; rintro e w3 ⟨rfl, b3⟩
    go_wp2
    go_ret
    exact ⟨rfl, hB.trans (b3.mono hB.size)⟩
  obtain ⟨hok, hsh, hsh2⟩ := fit14_parts hf
  obtain ⟨hbl, hpl⟩ := short14 hsh
  have hql := (short14 hsh2).2
  have hs := ok_sound hok
  have hfe := few_ents (ok_parts hok).1
  have HPp := Lib.hid (fun W => refPlain_any p W (by omega))
  have HPq := Lib.hid (fun W => refPlain_any q W (by omega))
  have HA := Lib.hid (fun L y W hW => refAt_any mi mb nx L p y W hW (by omega))
  have HQ := Lib.hid (fun L y W hW => refAt_any mi mb nx L q y W hW (by omega))
  have HG := Lib.hid (fun L y W hW => refGetP_any mi mb nx L p y W hW (by omega))
  have HRn := Lib.hid (fun W hW => Rename_any mi mb nx l [47] p q (.slice a l.length ca) W hW (ok_s hok) (by decide) (by omega) (by omega))
  have HBd := Lib.hid (fun ev e1 e2 => ren_bad (l := l) (base := [47]) (src := p) (dst := q) (ev := ev) (e1 := e1) (e2 := e2))
  have HSu := Lib.hid (fun ps qs (h1 : plainB p = some ps) (h2 : plainB q = some qs) ev e1 e2 => move_sure hok h1 h2 (ev := ev) (e1 := e1) (e2 := e2))
  generalize renameF l [47] p q = R at *
  go_enter Tryz.func6, Tryz.ntmps6
  go_wp2_with fail; refine (awake14 _).mono ?_; rintro e w1 ⟨rfl, b⟩
  (replace bF := bF.next b; replace nV := nV.below b; replace hB := hB.trans (b.mono hB.size))
  obtain ⟨⟨p0, p1, p2, p3⟩, _⟩ := bF.four
  go_wp2_with fail; refine (fits14_any mi mb nx l [47] p q _ _ nV).mono ?_; rintro e w2 ⟨rfl, b2⟩
  (replace bF := bF.next b2; replace nV := nV.below b2; replace hB := hB.trans (b2.mono hB.size))
  rw [hf]
  clear b b2 p0 p1 p2 p3
  go_wp2_with fail; refine (HPp.out _).mono ?_; rintro e w3 ⟨u1, rfl, _, b⟩
  (replace bF := bF.next b; replace nV := nV.below b; replace hB := hB.trans (b.mono hB.size))
  clear b
  go_wp2_with fail; refine (HPq.out _).mono ?_; rintro e w4 ⟨u2, rfl, _, b⟩
  (replace bF := bF.next b; replace nV := nV.below b; replace hB := hB.trans (b.mono hB.size))
  clear b HPp HPq
  cases hp : plainB p
  · go_wp2
    go_ret
    exact ⟨rfl, hB⟩
  cases hq : plainB q
  · go_wp2
    go_ret
    exact ⟨rfl, hB⟩
  rename_i ps qs
  simp only [Option.isSome_some]
  have HST := Lib.hid (fun ev e1 e2 => HSu.out ps qs hp hq ev e1 e2)
  clear hp hq HSu
  have hA := HA.out l _ _ nV
  obtain ⟨⟨p0, p1, p2, p3⟩, _⟩ := bF.four
  go_wp2_with fail
  refine hA.mono ?_
  rintro e w5 ⟨rfl, b3⟩
  clear hA
  generalize hAe : atP l p = QA at *
  obtain ⟨⟨ad, an, ai⟩, ea⟩ := QA
  have HAe := Lib.hid hAe
  clear hAe
  dsimp only
  have s3 := alloc_below w5 (.cells (spC ⟨ad, an, ai⟩) 41)
  have bS := Blk.new w5 41 (spC ⟨ad, an, ai⟩)
  have b5 := b3.trans (s3.mono b3.size)
  (replace bF := bF.next b5; replace nV := nV.below b5; replace hB := hB.trans (b5.mono hB.size))
  clear b3 s3 b5 p0 p1 p2 p3
  obtain ⟨⟨p0, p1, p2, p3⟩, _⟩ := bF.four
  go_wp2_with fail
  refine (HRn.out _ nV).mono ?_
  rintro e w6 ⟨y, ev, e1, e2, rfl, hM, b3⟩
  have nG := hM.now nV b3
  have hBd := HBd.out ev e1 e2
  have hST := HST.out ev e1 e2
  generalize R ev e1 e2 = Z at *
  obtain ⟨L, qe⟩ := Z
  dsimp only at nG hBd hST
  obtain ⟨ay, cy, rfl⟩ := nds_slice nG
  have s3 := alloc_below w6 (.cells (fsC mi mb nx (.slice ay L.length cy)) 24)
  have bG := Blk.new w6 24 (fsC mi mb nx (.slice ay L.length cy))
  have b5 := b3.trans (s3.mono b3.size)
  replace nG := nG.below s3
  replace bS := bS.next b5
  (replace bF := bF.next b5; replace nV := nV.below b5; replace hB := hB.trans (b5.mono hB.size))
  clear b3 s3 b5 p0 p1 p2 p3 hM HRn HBd HST
  by_cases hqe : qe = 0
  case neg =>
    have hbad := hBd hqe
    subst hbad
    have hq2 : (qe != 0) = true := by simpa using hqe
    have hSm := refTab_any mi mb nx mi mb nx L L _ _ _ nG nV
    rw [tab_eq14 (onesB_refl L)] at hSm
    clear hST hBd
    obtain ⟨⟨p0, p1, p2, p3⟩, _⟩ := bF.four
    obtain ⟨⟨r0, r1, r2, r3⟩, _⟩ := bG.four
    go_wp2_with fail
    refine hSm.mono ?_
    rintro e w7 ⟨rfl, b5⟩
    go_wp2
    go_ret
    exact ⟨rfl, hB.trans (b5.mono hB.size)⟩
  subst hqe
  have st := hST rfl
  clear hST hBd
  have g2 := st.slim
  have hCk := fun W hW => refCheck_any mi mb nx L (.slice ay L.length cy) W hW (by have := g2.len; omega) (fun x hx => ⟨fun e he => Nat.le_trans ((g2.each x hx).2.2 e he) (by decide), Nat.le_trans (g2.each x hx).2.1 (by decide)⟩) (by have := g2.pairs; omega) (by have := g2.bytes; omega)
  rw [sound_check st.sound] at hCk
  obtain ⟨⟨r0, r1, r2, r3⟩, _⟩ := bG.four
  go_wp2_with fail
  refine (hCk _ nG).mono ?_
  rintro e w7 ⟨rfl, b3⟩
  replace nG := nG.below b3
  replace bG := bG.next b3
  replace bS := bS.next b3
  (replace bF := bF.next b3; replace nV := nV.below b3; replace hB := hB.trans (b3.mono hB.size))
  clear b3 r0 r1 r2 r3
  by_cases he : ea = 0
  case neg =>
    have he2 : (ea != 0) = true := by simpa using he
    obtain ⟨⟨r0, r1, r2, r3⟩, _⟩ := bG.four
    go_wp2_with fail
    refine (hCk _ nG).mono ?_
    rintro e w8 ⟨rfl, b5⟩
    go_wp2
    go_ret
    exact ⟨rfl, hB.trans (b5.mono hB.size)⟩
  subst he
  have hC2 := HQ.out l _ _ nV
  generalize hPe : atP l q = QP at *
  obtain ⟨⟨bd, bn, bi⟩, eb⟩ := QP
  have HPe := Lib.hid hPe
  clear hPe hCk
  dsimp only at hC2
  obtain ⟨⟨p0, p1, p2, p3⟩, _⟩ := bF.four
  go_wp2_with fail
  refine hC2.mono ?_
  rintro e w8 ⟨rfl, b3⟩
  have s3 := alloc_below w8 (.cells (spC ⟨bd, bn, bi⟩) 41)
  have bT := Blk.new w8 41 (spC ⟨bd, bn, bi⟩)
  have b5 := b3.trans (s3.mono b3.size)
  replace bS := bS.next b5
  replace bG := bG.next b5
  replace nG := nG.below b5
  (replace bF := bF.next b5; replace nV := nV.below b5; replace hB := hB.trans (b5.mono hB.size))
  clear b3 s3 b5 p0 p1 p2 p3 hC2
  obtain ⟨⟨s0, s1, s2⟩, _⟩ := bS.three
  obtain ⟨⟨t0, t1, t2⟩, _⟩ := bT.three
  dsimp only at s0 s1 s2 t0 t1 t2
  by_cases he : eb = 0
  case neg =>
    have he2 : (eb != 0) = true := by simpa using he
    go_wp2
    go_ret
    exact ⟨rfl, hB⟩
  subst he
  have HSt := Lib.hid st
  have st1 : ai = bi → L = l := fun h => HSt.out.same (by rw [HAe.out]) (by rw [HPe.out]) (by rw [HAe.out, HPe.out]; exact h)
  have st2 : ai ≠ bi → (atP L q).2 = 0 ∧ (atP L q).1.ino = ai ∧ getP L p = (zeroN, 1) ∧ belowN L (L.length + 1) ai q = belowN l (l.length + 1) ai q := fun h => by
    have := HSt.out.at_ (by rw [HAe.out]) (by rw [HPe.out]) (by rw [HAe.out, HPe.out]; exact h)
    rw [HAe.out] at this
    exact this
  clear st
  by_cases hab : ai = bi
  case pos =>
    have hLl := st1 hab
    have hab2 : (ai == bi) = true := by simpa using hab
    subst hLl
    have hSm := refTab_any mi mb nx mi mb nx L L _ _ _ nG nV
    rw [tab_eq14 (onesB_refl L)] at hSm
    clear st1 st2 hab
    obtain ⟨⟨p0, p1, p2, p3⟩, _⟩ := bF.four
    obtain ⟨⟨r0, r1, r2, r3⟩, _⟩ := bG.four
    go_wp2_with fail
    refine hSm.mono ?_
    rintro e w9 ⟨rfl, b5⟩
    go_wp2
    go_ret
    exact ⟨rfl, hB.trans (b5.mono hB.size)⟩
  have hab2 : (ai == bi) = false := by simpa using hab
  obtain ⟨z1, z2, z3, z4⟩ := st2 hab
  clear st1 st2 hab
  have hC3 := HQ.out L _ _ nG
  have HGP := Lib.hid (fun W hW => HG.out L (.slice ay L.length cy) W hW)
  rw [z3] at HGP
  have hb1 := below_len hs.tree (l.length + 1) ai q
  have hb2 : (belowN L (L.length + 1) ai q).length ≤ 1 + entsN l := by rw [z4]; exact hb1
  have HBF := Lib.hid (fun W hW => refBelow_any mi mb nx l (.slice a l.length ca) hfe.2.2 (by omega) (l.length + 1) ai q (l.length : Int) W hW (by omega) (by omega) (by omega))
  have HBG := Lib.hid (fun W hW => refBelow_any mi mb nx L (.slice ay L.length cy) (sound_short HSt.out.sound) (by have := g2.len; omega) (L.length + 1) ai q (L.length : Int) W hW (by omega) (by have := g2.len; omega) (by omega))
  rw [z4] at HBG
  generalize belowN l (l.length + 1) ai q = BL at *
  clear hb2 HSt
  generalize hCe : atP L q = QC at *
  obtain ⟨⟨cd, cn, ci⟩, ec⟩ := QC
  dsimp only at z1 z2 hC3
  subst z1 z2
  clear hCe z3 z4
  obtain ⟨⟨r0, r1, r2, r3⟩, _⟩ := bG.four
  go_wp2_with fail
  refine hC3.mono ?_
  rintro e w9 ⟨rfl, b3⟩
  have s3 := alloc_below w9 (.cells (spC ⟨cd, cn, ci⟩) 41)
  have bC := Blk.new w9 41 (spC ⟨cd, cn, ci⟩)
  have b5 := b3.trans (s3.mono b3.size)
  replace bS := bS.next b5
  replace bT := bT.next b5
  replace bG := bG.next b5
  replace nG := nG.below b5
  (replace bF := bF.next b5; replace nV := nV.below b5; replace hB := hB.trans (b5.mono hB.size))
  clear b3 s3 b5 s0 s1 s2 t0 t1 t2 r0 r1 r2 r3 hC3
  have hGP := HGP.out _ nG
  rw [show zeroN = ⟨0, 0, 0, [], 0, .slice none 0 0, []⟩ from rfl] at hGP
  obtain ⟨⟨r0, r1, r2, r3⟩, _⟩ := bG.four
  go_wp2_with fail
  refine hGP.mono ?_
  rintro e wa ⟨rfl, b3⟩
  have s3 := alloc_below wa (.cells (ndC ⟨0, 0, 0, [], 0, .slice none 0 0, []⟩) 36)
  have b5 := b3.trans (s3.mono b3.size)
  replace bS := bS.next b5
  replace bC := bC.next b5
  replace bG := bG.next b5
  replace nG := nG.below b5
  (replace bF := bF.next b5; replace nV := nV.below b5; replace hB := hB.trans (b5.mono hB.size))
  clear b3 s3 b5 r0 r1 r2 r3 hGP HGP
  obtain ⟨⟨p0, p1, p2, p3⟩, _⟩ := bF.four
  obtain ⟨⟨s0, s1, s2⟩, _⟩ := bS.three
  dsimp only at s0 s1 s2
  go_wp2_with fail
  refine (HBF.out _ nV).mono ?_
  rintro e wb ⟨vb, rfl, hOb, b3⟩
  obtain ⟨ab, cb, rfl⟩ := own_slice hOb
  replace bS := bS.next b3
  replace bC := bC.next b3
  replace bG := bG.next b3
  replace nG := nG.below b3
  (replace bF := bF.next b3; replace nV := nV.below b3; replace hB := hB.trans (b3.mono hB.size))
  clear b3 p0 p1 p2 p3 s0 s1 s2
  obtain ⟨⟨s0, s1, s2⟩, _⟩ := bC.three
  obtain ⟨⟨r0, r1, r2, r3⟩, _⟩ := bG.four
  dsimp only at s0 s1 s2
  go_wp2_with fail
  refine (HBG.out _ nG).mono ?_
  rintro e wc ⟨vc, rfl, hOc, b3⟩
  obtain ⟨ac, cc, rfl⟩ := own_slice hOc
  have hEb := own_ents (own_keep hOb b3)
  have hEc := own_ents hOc
  replace bS := bS.next b3
  replace bC := bC.next b3
  (replace bF := bF.next b3; replace nV := nV.below b3; replace hB := hB.trans (b3.mono hB.size))
  have hSm := refSameS_any BL BL _ _ _ hEb hEc
  rw [decide_eq_true (rfl : BL = BL)] at hSm
  clear b3 s0 s1 s2 r0 r1 r2 r3 hOb hOc hEb hEc
  obtain ⟨⟨s0, s1, s2⟩, _⟩ := bS.three
  obtain ⟨⟨t0, t1, t2⟩, _⟩ := bC.three
  dsimp only at s0 s1 s2 t0 t1 t2
  go_wp2_with fail
  refine hSm.mono ?_
  rintro e wd ⟨rfl, b5⟩
  go_wp2
  go_ret
  exact ⟨rfl, hB.trans (b5.mono hB.size)⟩

namespace LMoveSound
set_option maxRecDepth 100000 in
theorem lifted (os : Os) (started : os.Started) (H : Type) (enc : TypeId × Value → H) :
    ReturnsInHanded {} Tryz.checked os 6 .any (Rows.moveSoundSpec.pre6 enc Tryz.prog Tryz.f6 Rows.moveSoundRow.domain false) (Rows.moveSoundSpec.post enc Tryz.prog Tryz.f6 false true false false) := by
  refine returnsInHanded_of_change (C := Tryz.checked) (by kernel_rfl) started (by kernel_rfl) Tryz.func6
    (ChangeSpec.witness6 (enc := enc) (C := Tryz.checked) false ⟨#[], #[.agg #[.int .i64 0, .int .i64 0, .int .i64 0, .slice none 0 0], .string ByteArray.empty, .string ByteArray.empty], []⟩ 8 (by kernel_rfl) (by kernel_rfl) (by kernel_rfl) (by kernel_rfl)) ?_
  intro W base args ds gs before hval0 hW hcnd _
  have hval : ∀ (j : Nat) t v, Tryz.f6.params[j]? = some t → args[j]? = some v → Value.okWide Tryz.prog W .any base t v := hval0
  have hW' := hW
  obtain ⟨p, q, hA0, hV, rfl, hfz, hnd⟩ := hW
  have hA : DataW.TrodAll enc Tryz.prog W 0 (fun _ => true) true Tryz.f6.params.toList args.toList ds p := hA0
  rw [Tryz.params6] at hA hval
  obtain ⟨v0, vs0, d0, ds0, p0, q0, hargs, rfl, rfl, k0, r0⟩ := trodAll_cons hA
  obtain ⟨v1, vs1, d1, ds1, p1, q1, rfl, rfl, rfl, k1, r1⟩ := trodAll_cons r0
  obtain ⟨v2, vs2, d2, ds2, p2, q2, rfl, rfl, rfl, k2, r2⟩ := trodAll_cons r1
  obtain ⟨rfl, rfl, rfl⟩ := trodAll_nil r2
  obtain rfl : args = #[v0, v1, v2] := by cases args; simp_all
  obtain ⟨rfl, rfl⟩ := trodVars_none hV
  have ok0 := hval 0 24 v0 rfl rfl
  have ok1 := hval 1 9 v1 rfl rfl
  have ok2 := hval 2 9 v2 rfl rfl
  have lt0 : ∀ x ∈ p0, x.block < W.heap.size := by obtain ⟨m, hm⟩ := k0; exact DataW.trod_lt m _ _ _ hm
  have lt1 : ∀ x ∈ p1, x.block < W.heap.size := by obtain ⟨m, hm⟩ := k1; exact DataW.trod_lt m _ _ _ hm
  have lt2 : ∀ x ∈ p2, x.block < W.heap.size := by obtain ⟨m, hm⟩ := k2; exact DataW.trod_lt m _ _ _ hm
  have C : Calls Tryz.prog 6 #[v0, v1, v2] W fun e w' => e = .returned (.bool true) ∧ Below W.heap.size W w' := by
    clear hA0 hval0 hval hW' hcnd hV hfz hnd
    obtain ⟨mi, mb, nx, x, l, rfl, hx⟩ := fs_of_trod k0 ok0
    obtain ⟨s0, rfl, rfl, rfl, hs0⟩ := open_string Tryz.underlying9 ok1 k1
    obtain ⟨s1, rfl, rfl, rfl, hs1⟩ := open_string Tryz.underlying9 ok2 k2
    rw [str_eta s0, str_eta s1]
    exact lawSound14 mi mb nx l _ _ x W hx
  refine C.mono fun e W' ⟨he, bel⟩ => ?_
  subst he
  exact ⟨_, rfl, _, _, _, [], _, [], hW', trodAll_mk1 (shut_bool Tryz.underlying4 _), (trodAll_cons_mk (Below.trod laidOut (by kernel_rfl) (of_decide_eq_true (by kernel_rfl)) k0 bel lt0) (trodAll_cons_mk (Below.trod laidOut (by kernel_rfl) (of_decide_eq_true (by kernel_rfl)) k1 bel lt1) (trodAll_cons_mk (Below.trod laidOut (by kernel_rfl) (of_decide_eq_true (by kernel_rfl)) k2 bel lt2) trodAll_mk0))), rfl, bel.frame _, fun h => by cases h⟩
theorem proved : Rows.MoveSoundSaid :=
  OpenClaim.holds_of_wide 6 Tryz.f6 rfl rfl rfl rfl rfl rfl rfl ⟨rfl, rfl, rfl, rfl, rfl⟩ rfl rfl rfl rfl rfl (by kernel_rfl) Tryz.func6 (by kernel_rfl)
    (of_decide_eq_true (by kernel_rfl)) (by unfold Func.isWrapper; first | (rw [if_pos (by decide +kernel)]; kernel_rfl) | (rw [if_neg (by decide +kernel)]; exact ⟨rfl, rfl⟩))
    (fun os started H enc _ => lifted os started H enc)
#print axioms proved
end LMoveSound
end Go.Proofs.YtoejjdebfjepaaaGreat
