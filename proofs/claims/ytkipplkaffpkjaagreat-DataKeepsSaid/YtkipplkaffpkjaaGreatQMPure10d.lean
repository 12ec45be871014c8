/- Texts put together: WalkP09, WalkQ09, WalkF10, WalkG10, Pure10d. -/
import Derived.Test.YtkipplkaffpkjaaGreatQMWalkH04
import Derived.Test.YtkipplkaffpkjaaGreatQMWalkB08
import Derived.Test.YtkipplkaffpkjaaGreatQWalkF03
import Derived.Test.YtkipplkaffpkjaaGreatQMWalkH05
import Derived.Test.YtkipplkaffpkjaaGreatQMWalkD04
import Derived.RegionTactic
import Derived.ChangeAlike
set_option linter.unusedVariables false
set_option linter.unusedSimpArgs false
/- Walks: the program's At and Get of plain paths. -/
set_option linter.unusedVariables false
set_option linter.unusedSimpArgs false
namespace Go.Proofs.YtkipplkaffpkjaaGreat
open Go.RowKit

theorem calm_data {l : List Nd} (h : Calm l) : ∀ x ∈ l, x.data.length ≤ 281474976710656 := fun x hx => Nat.le_trans (h.size x hx).2.1 (by decide)

set_option maxHeartbeats 8000000 in
set_option maxRecDepth 100000 in
theorem At_any (mi mb nx : Int) (l : List Nd) (p : List UInt8) (v : Value) (w : World) (hv : Nds w v l) (hp : p.length ≤ 50000) (hc : Calm l) :
    Calls Tryz.prog 88 #[.agg (fsC mi mb nx v), .string ⟨p.toArray⟩] w fun e w' => e = .returned (.tuple #[.agg (spC (atP l p).1), .int .i64 (atP l p).2]) ∧ Below w.heap.size w w' := by
  obtain ⟨a, ca, rfl⟩ := nds_slice hv
  have HV := Lib.hid hv
  have HC := Lib.hid hc
  have bF := (Blk.new w 24 (fsC mi mb nx (.slice a l.length ca))).alloc (.cells (spC zeroS) 61)
  have bR := Blk.new (w.alloc (.cells (fsC mi mb nx (.slice a l.length ca)) 24)) 61 (spC zeroS)
  have hB0 : Below w.heap.size w ((w.alloc (.cells (fsC mi mb nx (.slice a l.length ca)) 24)).alloc (.cells (spC zeroS) 61)) := ((Below.refl _ w).alloc (Nat.le_refl _) _).alloc (by simp) _
  simp only [World.size_alloc] at bR
  have hct := namesB_count p
  clear hv hc
  go_enter Tryz.func88, Tryz.ntmps88
  go_wp2_with fail
  refine (Plain_any p _ (by omega)).mono ?_
  rintro e w1 ⟨vn, rfl, hst, b1⟩
  replace bF := bF.next b1
  replace bR := bR.next b1
  have hB1 := hB0.trans (b1.mono hB0.size)
  have hl1 : w.heap.size + 2 ≤ w1.heap.size := by have := b1.size; simp at this; omega
  clear hB0 b1
  cases hpl : plainB p with
  | none =>
    have HN : Hid (atP l p = (zeroS, 9)) := by (show _ = _); unfold atP; rw [hpl]
    rw [hpl] at hst
    obtain ⟨an, cn, rfl, _⟩ := hst
    obtain ⟨⟨r0, r1, r2⟩, e0, e1, e2⟩ := bR.three
    obtain ⟨W', hW', hb3, hg3⟩ := bR.put3 (.int .i64 0) (.string ⟨#[]⟩) (.int .i64 0)
    have hbl := below_grown hB1 hg3 (Nat.le_refl _) (by omega)
    go_wp2
    obtain ⟨⟨x0, x1, x2⟩, _⟩ := hb3.three
    refine bodyPost_ret (v := .tuple #[.agg #[.int .i64 0, .string ⟨#[]⟩, .int .i64 0], .int .i64 9]) (by simp [results, Tryz.f88, go_sem, x0, x1, x2]) rfl ?_
    exact ⟨by rw [HN.out], hbl⟩
  | some ns =>
    have HN : Hid (atP l p = atN l rootS ns) := by (show _ = _); unfold atP; rw [hpl]
    have hnl : ns.length ≤ 100000 := by have := (plainB_yes hpl).2.2; rw [← this]; omega
    rw [hpl] at hst
    obtain ⟨an, cn, rfl, _, HA0⟩ := hst
    simp only [Option.getD_some] at HA0
    have HA := Lib.hid HA0
    clear HA0 hpl hct
    have hS := alloc_below w1 (.cells (spC rootS) 61)
    have bS := Blk.new w1 61 (spC rootS)
    have hB2 := hB1.trans (hS.mono hB1.size)
    have bF2 := bF.next hS
    have bR2 := bR.next hS
    have HAL : Hid (Below w1.heap.size w1 (w1.alloc (.cells (spC rootS) 61))) := hS
    clear bF bR
    go_wp2
    go_loopw [9, 25] (fun s9 s25 wr => ∃ (k : Nat) (s : Sp) (th : Bool), k ≤ ns.length ∧ s25 = .int .i64 k ∧ s9 = .bool th ∧ Aside (th = decide (s.ino ≠ 0)) ∧ Aside (atN l s (ns.drop k) = atN l rootS ns) ∧ Below w.heap.size w wr ∧ Below w1.heap.size w1 wr ∧ Aside (Blk wr w.heap.size 24 (fsC mi mb nx (.slice a l.length ca))) ∧ Aside (Blk wr (w.heap.size + 1) 61 (spC zeroS)) ∧ Aside (Blk wr w1.heap.size 61 (spC s))) (fun _ s25 _ => ns.length - (intOf s25).toNat)
    case atStart => exact ⟨0, rootS, true, Nat.zero_le _, rfl, rfl, rfl, rfl, hB2, hS, bF2, bR2, bS⟩
    case round =>
      clear hB2 hS bF2 bR2 bS hB1
      obtain ⟨k, s, th, hk, rfl, rfl, HTH, HT, hbw, hbw1, HF, HR, HS⟩ := hrel
      obtain ⟨⟨p0, p1, p2, p3⟩, _⟩ := HF.out.four
      obtain ⟨⟨r0, r1, r2⟩, e0, e1, e2⟩ := HR.out.three
      obtain ⟨⟨s0, s1, s2⟩, _⟩ := HS.out.three
      by_cases hlt : k < ns.length
      · obtain ⟨b, o, rfl, hb, hcl⟩ := HA.out (by omega)
        have c0 := (hbw1.cell (p := ⟨b, o + k, none⟩) hb).trans (hcl k hlt)
        clear hcl
        have hdrop : ns.drop k = ns[k] :: ns.drop (k + 1) := List.drop_eq_getElem_cons hlt
        have hT := HT.out
        rw [hdrop] at hT
        clear HT hdrop
        obtain ⟨sd, sn, si⟩ := s
        dsimp only at s0 s1 s2
        have hth := HTH.out
        dsimp only at hth
        have hgone : si = 0 → atP l p = (zeroS, 1) := fun h => by rw [HN.out, ← hT]; exact at_gone h
        have hon : si ≠ 0 → (getN l si).kind = 2 → atN l (stepS l si ns[k]) (ns.drop (k + 1)) = atN l rootS ns := fun h0 h => by rw [← hT, at_on h0 h]
        have hfile : si ≠ 0 → (getN l si).kind ≠ 2 → atP l p = (zeroS, 3) := fun h0 h => by rw [HN.out, ← hT, at_file h0 h]
        unfold stepS at hon
        have hG := GetN_any mi mb nx si l _ wr (HV.out.below hbw) HC.out.rise (by have := HC.out.len; omega) (calm_data HC.out)
        have hEG := get_ents HV.out.all si
        obtain ⟨ag, ng, cg, hgs⟩ := get_slice HV.out si
        have hgr := (calm_get HC.out si).1
        have hgl := (calm_get HC.out si).2.1
        clear hT HTH
        generalize ns[k] = n at *
        generalize getN l si = G at *
        generalize hasN l si = r at *
        obtain ⟨gi, gk, gl, gd, gp, ge, gn⟩ := G
        dsimp only at hgs hEG hon hfile hgr hgl
        subst hgs
        have HON := Lib.hid hon
        have HFI := Lib.hid hfile
        have HGO := Lib.hid hgone
        have HTH := Lib.hid hth
        clear hon hfile hgone hth
        go_wp2_with fail
        refine hG.mono ?_
        rintro e w2 ⟨rfl, b2⟩
        clear hG p0 p1 p2 p3 r0 r1 r2 e0 e1 e2 s0 s1 s2
        have b3 := alloc_below w2 (.cells (ndC ⟨gi, gk, gl, gd, gp, .slice ag ng cg, gn⟩) 29)
        have b4 := b2.trans (b3.mono b2.size)
        have hb4 := hbw.trans (b4.mono hbw.size)
        have hb41 := hbw1.trans (b4.mono hbw1.size)
        have HF4 := Lib.hid (HF.out.next b4)
        have HR4 := Lib.hid (HR.out.next b4)
        have HS4 := Lib.hid (HS.out.next b4)
        obtain ⟨⟨r0, r1, r2⟩, e0, e1, e2⟩ := HR4.out.three
        have c1 := (b4.cell (p := ⟨b, o + k, none⟩) (Nat.lt_of_lt_of_le hb hbw1.size)).trans c0
        clear b3 c0
        have X := Blk.new w2 29 (ndC ⟨gi, gk, gl, gd, gp, .slice ag ng cg, gn⟩)
        cases th
        · have h0 : si = 0 := Decidable.byContradiction fun h => by have := HTH.out; rw [decide_eq_true h] at this; cases this
          have HN2 := Lib.hid (HGO.out h0)
          obtain ⟨W', hW', hb3, hg3⟩ := HR4.out.put3 (.int .i64 0) (.string ⟨#[]⟩) (.int .i64 0)
          have hbl := below_grown hb4 hg3 (Nat.le_refl _) (by omega)
          clear HON HFI HGO HTH h0
          go_wp2
          obtain ⟨⟨x0, x1, x2⟩, _⟩ := hb3.three
          refine bodyPost_ret (v := .tuple #[.agg #[.int .i64 0, .string ⟨#[]⟩, .int .i64 0], .int .i64 1]) (by simp [results, Tryz.f88, go_sem, x0, x1, x2]) rfl ?_
          exact ⟨by rw [HN2.out], hbl⟩
        · have h0 : si ≠ 0 := of_decide_eq_true HTH.out.symm
          by_cases hk2 : gk = 2
          · subst hk2
            have HT2 := Lib.hid (HON.out h0 rfl)
            clear HON HFI HGO HTH
            go_upto_region 13 with fail
            generalize w2.alloc (.cells (ndC ⟨gi, 2, gl, gd, gp, .slice ag ng cg, gn⟩) 29) = w3 at *
            have hltS := HS.out.lt
            obtain ⟨⟨s0, s1, s2⟩, f0, f1, f2⟩ := HS4.out.three
            obtain ⟨⟨x0, x1, x2, x3, x4, x5⟩, _⟩ := X.six
            dsimp only at s0 s1 s2 x0 x1 x2 x3 x4 x5
            obtain ⟨W', hW', hb3', hg3'⟩ := HS4.out.put3 (.int .i64 gi) (.string ⟨n.toArray⟩) (.int .i64 0)
            have hblA := below_grown hb4 hg3' (Nat.le_refl _) (by omega)
            have hblB := below_grown hb41 hg3' (Nat.le_refl _) (Nat.le_refl _)
            have HF6 := Lib.hid (HF4.out.kept hg3' (by simp; omega))
            have HR6 := Lib.hid (HR4.out.kept hg3' (by simp; omega))
            have X6 := X.kept hg3' (by have := b2.size; simp; omega)
            clear r0 r1 r2 e0 e1 e2
            go_upto_region 14 with fail
            clear s0 s1 s2 f0 f1 f2 x0 x1 x2 x3 x4 x5
            obtain ⟨⟨s0, s1, s2⟩, f0, f1, f2⟩ := hb3'.three
            obtain ⟨⟨x0, x1, x2, x3, x4, x5⟩, _⟩ := X6.six
            dsimp only at s0 s1 s2 x0 x1 x2 x3 x4 x5
            go_wp2_with fail
            refine (Find_any gn n _ _ (hEG.below hblA) ((rightB_iff _).1 hgr).2 (by omega)).mono ?_
            rintro e w5 ⟨rfl, b5⟩
            have HNH := Lib.hid (num_hasB hgr n)
            clear s0 s1 s2 f0 f1 f2 x0 x1 x2 x3 x4 x5
            have hb5 := hblA.trans (b5.mono hblA.size)
            have hb51 := hblB.trans (b5.mono hblB.size)
            have hS5 := hb3'.next b5
            have hF5 := HF6.out.next b5
            have hR5 := HR6.out.next b5
            have hS6 := hS5.set 2 (.int .i64 (numB gn n))
            obtain ⟨⟨s0, s1, s2⟩, f0, f1, f2⟩ := hS5.three
            have hg6 := grownBy_set w5 w1.heap.size 2 (.int .i64 (numB gn n))
            have hbZ := below_grown hb5 hg6 (Nat.le_refl _) (by omega)
            have hbZ1 := below_grown hb51 hg6 (Nat.le_refl _) (Nat.le_refl _)
            have hF7 := hF5.kept hg6 (by simp; omega)
            have hR7 := hR5.kept hg6 (by simp; omega)
            go_wp2
            go_roundw
            case rel => exact ⟨k + 1, ⟨gi, n, numB gn n⟩, hasB gn n, by omega, by go_num, rfl, HNH.out, HT2.out, hbZ, hbZ1, hF7, hR7, hS6⟩
            case measure => simp [intOf]; omega
          · have HN2 := Lib.hid (HFI.out h0 hk2)
            obtain ⟨W', hW', hb3, hg3⟩ := HR4.out.put3 (.int .i64 0) (.string ⟨#[]⟩) (.int .i64 0)
            have hbl := below_grown hb4 hg3 (Nat.le_refl _) (by omega)
            clear HON HFI HGO HTH h0
            obtain ⟨⟨x0, x1, x2, x3, x4, x5⟩, _⟩ := X.six
            dsimp only at x0 x1 x2 x3 x4 x5
            go_wp2
            obtain ⟨⟨x0, x1, x2⟩, _⟩ := hb3.three
            refine bodyPost_ret (v := .tuple #[.agg #[.int .i64 0, .string ⟨#[]⟩, .int .i64 0], .int .i64 3]) (by simp [results, Tryz.f88, go_sem, x0, x1, x2]) rfl ?_
            exact ⟨by rw [HN2.out], hbl⟩
      · obtain rfl : k = ns.length := by omega
        have HN2 : Hid (atP l p = (s, 0)) := by (show _ = _); rw [HN.out, ← HT.out, List.drop_length]; rfl
        obtain ⟨sd, sn, si⟩ := s
        dsimp only at s0 s1 s2
        obtain ⟨W', hW', hb3, hg3⟩ := HR.out.put3 (.int .i64 sd) (.string ⟨sn.toArray⟩) (.int .i64 si)
        have hbl := below_grown hbw hg3 (Nat.le_refl _) (by omega)
        go_wp2
        obtain ⟨⟨x0, x1, x2⟩, _⟩ := hb3.three
        refine bodyPost_ret (v := .tuple #[.agg #[.int .i64 sd, .string ⟨sn.toArray⟩, .int .i64 si], .int .i64 0]) (by simp [results, Tryz.f88, go_sem, x0, x1, x2]) rfl ?_
        exact ⟨by rw [HN2.out], hbl⟩
end Go.Proofs.YtkipplkaffpkjaaGreat

/- Walks: the program's Get of a plain path. -/
set_option linter.unusedVariables false
set_option linter.unusedSimpArgs false
namespace Go.Proofs.YtkipplkaffpkjaaGreat
open Go.RowKit

set_option maxHeartbeats 4000000 in
theorem GetP_any (mi mb nx : Int) (l : List Nd) (p : List UInt8) (v : Value) (w : World) (hv : Nds w v l) (hp : p.length ≤ 50000) (hc : Calm l) (hin : LeadsIn l p) :
    Calls Tryz.prog 69 #[.agg (fsC mi mb nx v), .string ⟨p.toArray⟩] w fun e w' => e = .returned (.tuple #[.agg (ndC (getP l p).1), .int .i64 (getP l p).2]) ∧ Below w.heap.size w w' := by
  obtain ⟨a, ca, rfl⟩ := nds_slice hv
  have bF := (Blk.new w 24 (fsC mi mb nx (.slice a l.length ca))).alloc (.cells #[.int .i64 0, .int .i64 0, .int .i64 0, .string ⟨#[]⟩, .int .i64 0, .slice none 0 0] 29)
  have bR : Blk ((w.alloc (.cells (fsC mi mb nx (.slice a l.length ca)) 24)).alloc (.cells #[.int .i64 0, .int .i64 0, .int .i64 0, .string ⟨#[]⟩, .int .i64 0, .slice none 0 0] 29)) _ 29 (ndC zeroN) := Blk.new (w.alloc (.cells (fsC mi mb nx (.slice a l.length ca)) 24)) 29 (ndC zeroN)
  have hB0 : Below w.heap.size w ((w.alloc (.cells (fsC mi mb nx (.slice a l.length ca)) 24)).alloc (.cells #[.int .i64 0, .int .i64 0, .int .i64 0, .string ⟨#[]⟩, .int .i64 0, .slice none 0 0] 29)) := ((Below.refl _ w).alloc (Nat.le_refl _) _).alloc (by simp) _
  simp only [World.size_alloc] at bR
  have nV := hv.below hB0
  have hA := At_any mi mb nx l p _ _ nV hp hc
  have h1 := getP_err (l := l) (p := p)
  have h2 := getP_none (l := l) (p := p)
  have h3 := getP_some (l := l) (p := p)
  have HV := Lib.hid hv
  have HC := Lib.hid hc
  unfold LeadsIn at hin
  clear hv hc
  generalize atP l p = q at *
  obtain ⟨⟨sd, sn, si⟩, er⟩ := q
  dsimp only at hA h1 h2 h3 hin
  have H1 := Lib.hid h1
  have H2 := Lib.hid h2
  have H3 := Lib.hid h3
  have HI := Lib.hid hin
  clear h1 h2 h3 hin
  obtain ⟨⟨p0, p1, p2, p3⟩, _⟩ := bF.four
  go_enter Tryz.func69, Tryz.ntmps69
  go_wp2_with fail
  refine hA.mono ?_
  rintro e w1 ⟨rfl, b1⟩
  clear hA p0 p1 p2 p3
  have b2 := alloc_below w1 (.cells (spC ⟨sd, sn, si⟩) 61)
  have b3 := b1.trans (b2.mono b1.size)
  have hB := hB0.trans (b3.mono hB0.size)
  have bF2 := bF.next b3
  have bR2 := bR.next b3
  have bS := Blk.new w1 61 (spC ⟨sd, sn, si⟩)
  clear b1 b2 bF bR nV
  by_cases her : er = 0
  · subst her
    have hG := GetN_any mi mb nx si l _ _ (HV.out.below hB) HC.out.rise (by have := HC.out.len; omega) (calm_data HC.out)
    obtain ⟨ag, ng, cg, hgs⟩ := get_slice HV.out si
    have hhas := HI.out rfl
    have hnone := getN_none (l := l) (n := si)
    generalize getN l si = G at *
    generalize hasN l si = r at *
    obtain ⟨gi, gk, gl, gd, gp, ge, gn⟩ := G
    dsimp only at hgs
    subst hgs
    have HNO := Lib.hid hnone
    have HH := Lib.hid hhas
    clear hnone hhas
    obtain ⟨⟨p0, p1, p2, p3⟩, _⟩ := bF2.four
    obtain ⟨⟨s0, s1, s2⟩, _⟩ := bS.three
    dsimp only at s0 s1 s2
    go_wp2_with fail
    refine hG.mono ?_
    rintro e w4 ⟨rfl, b4⟩
    clear hG p0 p1 p2 p3 s0 s1 s2
    have b5 := alloc_below w4 (.cells (ndC ⟨gi, gk, gl, gd, gp, .slice ag ng cg, gn⟩) 29)
    have b6 := b4.trans (b5.mono b4.size)
    have hB6 := hB.trans (b6.mono hB.size)
    have bR6 := bR2.next b6
    have bX := Blk.new w4 29 (ndC ⟨gi, gk, gl, gd, gp, .slice ag ng cg, gn⟩)
    obtain ⟨⟨x0, x1, x2, x3, x4, x5⟩, _⟩ := bX.six
    dsimp only at x0 x1 x2 x3 x4 x5
    obtain ⟨⟨q0, q1, q2, q3, q4, q5⟩, e0, e1, e2, e3, e4, e5⟩ := bR6.six
    simp only [zeroN] at q0 q1 q2 q3 q4 q5
    by_cases hsi : si = 0
    · subst hsi
      obtain rfl : r = false := HH.out
      have HN := Lib.hid (H2.out (by simp) rfl)
      obtain ⟨W', hW', hb6, hg6⟩ := bR6.put6 zeroN
      have hbl := below_grown hB6 hg6 (Nat.le_refl _) (by omega)
      simp only [zeroN] at hW'
      clear H1 H2 H3 HI HNO HH
      go_wp2
      obtain ⟨⟨r0, r1, r2, r3, r4, r5⟩, _⟩ := hb6.six
      refine bodyPost_ret (v := .tuple #[.agg (ndC zeroN), .int .i64 1]) (by simp [results, Tryz.f69, go_sem, r0, r1, r2, r3, r4, r5, zeroN]) rfl ?_
      exact ⟨by rw [HN.out], hbl⟩
    · have HN := Lib.hid (H3.out (by simp) hsi)
      obtain rfl : r = true := by have := HH.out; rwa [decide_eq_true hsi] at this
      obtain ⟨W', hW', hb6, hg6⟩ := bR6.put6 ⟨gi, gk, gl, gd, gp, .slice ag ng cg, gn⟩
      have hbl := below_grown hB6 hg6 (Nat.le_refl _) (by omega)
      dsimp only at hW'
      clear H1 H2 H3 HI HNO HH
      go_wp2
      obtain ⟨⟨r0, r1, r2, r3, r4, r5⟩, _⟩ := hb6.six
      refine bodyPost_ret (v := .tuple #[.agg (ndC ⟨gi, gk, gl, gd, gp, .slice ag ng cg, gn⟩), .int .i64 0]) (by simp [results, Tryz.f69, go_sem, r0, r1, r2, r3, r4, r5]) rfl ?_
      exact ⟨by rw [HN.out], hbl⟩
  · have HN := Lib.hid (H1.out her)
    obtain ⟨⟨q0, q1, q2, q3, q4, q5⟩, e0, e1, e2, e3, e4, e5⟩ := bR2.six
    simp only [zeroN] at q0 q1 q2 q3 q4 q5
    obtain ⟨W', hW', hb6, hg6⟩ := bR2.put6 zeroN
    have hbl := below_grown hB hg6 (Nat.le_refl _) (by omega)
    simp only [zeroN] at hW'
    clear H1 H2 H3
    go_wp2
    obtain ⟨⟨r0, r1, r2, r3, r4, r5⟩, _⟩ := hb6.six
    refine bodyPost_ret (v := .tuple #[.agg (ndC zeroN), .int .i64 er]) (by simp [results, Tryz.f69, go_sem, r0, r1, r2, r3, r4, r5, zeroN]) rfl ?_
    exact ⟨by rw [HN.out], hbl⟩
end Go.Proofs.YtkipplkaffpkjaaGreat

/- Walks: the program's way, its smaller parts: where one stands, one step, the end. -/
set_option linter.unusedVariables false
set_option linter.unusedSimpArgs false
namespace Go.Proofs.YtkipplkaffpkjaaGreat
open Go.RowKit

set_option maxHeartbeats 4000000 in
theorem stand_any (mi mb nx i : Int) (l : List Nd) (v : Value) (w : World) (hv : Nds w v l) (hc : Calm l) :
    Calls Tryz.prog 70 #[.agg (fsC mi mb nx v), .int .i64 i] w fun e w' => e = .returned (.tuple #[.agg (spC ⟨0, [], i⟩), .agg (ndC (getN l i))]) ∧ Below w.heap.size w w' := by
  obtain ⟨a, ca, rfl⟩ := nds_slice hv
  have bF := ((Blk.new w 24 (fsC mi mb nx (.slice a l.length ca))).alloc (.cells (spC zeroS) 61)).alloc (.cells #[.int .i64 0, .int .i64 0, .int .i64 0, .string ⟨#[]⟩, .int .i64 0, .slice none 0 0] 29)
  have bR := (Blk.new (w.alloc (.cells (fsC mi mb nx (.slice a l.length ca)) 24)) 61 (spC zeroS)).alloc (.cells #[.int .i64 0, .int .i64 0, .int .i64 0, .string ⟨#[]⟩, .int .i64 0, .slice none 0 0] 29)
  have bQ : Blk (((w.alloc (.cells (fsC mi mb nx (.slice a l.length ca)) 24)).alloc (.cells (spC zeroS) 61)).alloc (.cells #[.int .i64 0, .int .i64 0, .int .i64 0, .string ⟨#[]⟩, .int .i64 0, .slice none 0 0] 29)) _ 29 (ndC zeroN) := Blk.new ((w.alloc (.cells (fsC mi mb nx (.slice a l.length ca)) 24)).alloc (.cells (spC zeroS) 61)) 29 (ndC zeroN)
  have hB := (((Below.refl w.heap.size w).alloc (Nat.le_refl _) (.cells (fsC mi mb nx (.slice a l.length ca)) 24)).alloc (by simp) (.cells (spC zeroS) 61)).alloc (by simp; omega) (.cells #[.int .i64 0, .int .i64 0, .int .i64 0, .string ⟨#[]⟩, .int .i64 0, .slice none 0 0] 29)
  simp only [World.size_alloc] at bR bQ
  have nV := hv.below hB
  have hG := GetN_any mi mb nx i l _ _ nV hc.rise (by have := hc.len; omega) (calm_data hc)
  obtain ⟨ag, ng, cg, hgs⟩ := get_slice hv i
  generalize getN l i = G at *
  generalize hasN l i = r at *
  obtain ⟨gi, gk, gl, gd, gp, ge, gn⟩ := G
  dsimp only at hgs
  subst hgs
  clear hv hc nV
  obtain ⟨⟨p0, p1, p2, p3⟩, _⟩ := bF.four
  go_enter Tryz.func70, Tryz.ntmps70
  go_wp2_with fail
  refine hG.mono ?_
  rintro e w1 ⟨rfl, b1⟩
  clear hG p0 p1 p2 p3
  have b2 := alloc_below w1 (.cells (ndC ⟨gi, gk, gl, gd, gp, .slice ag ng cg, gn⟩) 29)
  have b3 := b1.trans (b2.mono b1.size)
  have hB2 := hB.trans (b3.mono hB.size)
  have bR2 := bR.next b3
  have bQ2 := bQ.next b3
  have bX := Blk.new w1 29 (ndC ⟨gi, gk, gl, gd, gp, .slice ag ng cg, gn⟩)
  obtain ⟨⟨r0, r1, r2⟩, e0, e1, e2⟩ := bR2.three
  obtain ⟨⟨q0, q1, q2, q3, q4, q5⟩, f0, f1, f2, f3, f4, f5⟩ := bQ2.six
  obtain ⟨⟨x0, x1, x2, x3, x4, x5⟩, _⟩ := bX.six
  have hl1 : w.heap.size + 3 ≤ w1.heap.size := by have := b1.size; simp at this; omega
  dsimp only at x0 x1 x2 x3 x4 x5
  obtain ⟨W1, hW1, hb3, hg3⟩ := bR2.put3 (.int .i64 0) (.string ⟨#[]⟩) (.int .i64 i)
  have bQ3 := bQ2.kept hg3 (by simp)
  obtain ⟨W2, hW2, hb6, hg6⟩ := bQ3.put6 ⟨gi, gk, gl, gd, gp, .slice ag ng cg, gn⟩
  have hR3 := hb3.kept hg6 (by simp)
  have hbl := below_grown (below_grown hB2 hg3 (Nat.le_refl _) (by omega)) hg6 (Nat.le_refl _) (by omega)
  dsimp only at hW2
  obtain ⟨⟨y0, y1, y2, y3, y4, y5⟩, _⟩ := (bX.kept hg3 (by simp; omega)).six
  obtain ⟨⟨z0, z1, z2, z3, z4, z5⟩, g0, g1, g2, g3, g4, g5⟩ := bQ3.six
  dsimp only at y0 y1 y2 y3 y4 y5
  simp only [zeroN] at q0 q1 q2 q3 q4 q5 z0 z1 z2 z3 z4 z5
  go_upto_region 2 with fail
  go_region
  go_wp2
  have hd := (Below.refl W2.heap.size W2).drew
  obtain ⟨⟨t0, t1, t2⟩, _⟩ := (hR3.next hd).three
  obtain ⟨⟨u0, u1, u2, u3, u4, u5⟩, _⟩ := (hb6.next hd).six
  dsimp only at u0 u1 u2 u3 u4 u5
  refine bodyPost_ret (v := .tuple #[.agg (spC ⟨0, [], i⟩), .agg (ndC ⟨gi, gk, gl, gd, gp, .slice ag ng cg, gn⟩)]) (by simp [results, Tryz.f70, go_sem, t0, t1, t2, u0, u1, u2, u3, u4, u5]) rfl ?_
  exact ⟨rfl, hbl.drew⟩

def stepP (x : Nd) (n : List UInt8) : Sp := if n = [46] then ⟨0, [], x.ino⟩ else if n = [46, 46] then ⟨0, [], x.parent⟩ else ⟨x.ino, n, numB x.ents n⟩

set_option maxHeartbeats 8000000 in
theorem step_any (mi mb nx : Int) (l : List Nd) (x : Nd) (n : List UInt8) (v : Value) (w : World) (hv : Nds w v l) (hc : Calm l) (hE : Ents w x.ev x.ents) (hr : rightB x.ents = true) (hlen : x.ents.length ≤ 1000) (ax : Option Addr) (nn cx : Nat) (hev : x.ev = .slice ax nn cx) :
    Calls Tryz.prog 71 #[.agg (fsC mi mb nx v), .agg (ndC x), .string ⟨n.toArray⟩] w fun e w' => e = .returned (.tuple #[.agg (spC (stepP x n)), .agg (ndC (getN l (stepP x n).ino))]) ∧ Below w.heap.size w w' := by
  obtain ⟨xi, xk, xl, xd, xp, xe, xn⟩ := x
  dsimp only at hE hr hlen hev
  subst hev
  obtain ⟨a, ca, rfl⟩ := nds_slice hv
  have A0 := alloc_below w (.cells (fsC mi mb nx (.slice a l.length ca)) 24)
  have bF0 := Blk.new w 24 (fsC mi mb nx (.slice a l.length ca))
  have A1 := alloc_below (w.alloc (.cells (fsC mi mb nx (.slice a l.length ca)) 24)) (.cells (ndC ⟨xi, xk, xl, xd, xp, .slice ax nn cx, xn⟩) 29)
  have bD0 := Blk.new (w.alloc (.cells (fsC mi mb nx (.slice a l.length ca)) 24)) 29 (ndC ⟨xi, xk, xl, xd, xp, .slice ax nn cx, xn⟩)
  have bF1 := bF0.next A1
  have A2 := alloc_below ((w.alloc (.cells (fsC mi mb nx (.slice a l.length ca)) 24)).alloc (.cells (ndC ⟨xi, xk, xl, xd, xp, .slice ax nn cx, xn⟩) 29)) (.cells (spC zeroS) 61)
  have bR0 := Blk.new ((w.alloc (.cells (fsC mi mb nx (.slice a l.length ca)) 24)).alloc (.cells (ndC ⟨xi, xk, xl, xd, xp, .slice ax nn cx, xn⟩) 29)) 61 (spC zeroS)
  have bF2 := bF1.next A2
  have bD2 := bD0.next A2
  have A3 := alloc_below (((w.alloc (.cells (fsC mi mb nx (.slice a l.length ca)) 24)).alloc (.cells (ndC ⟨xi, xk, xl, xd, xp, .slice ax nn cx, xn⟩) 29)).alloc (.cells (spC zeroS) 61)) (.cells #[.int .i64 0, .int .i64 0, .int .i64 0, .string ⟨#[]⟩, .int .i64 0, .slice none 0 0] 29)
  have bQ : Blk ((((w.alloc (.cells (fsC mi mb nx (.slice a l.length ca)) 24)).alloc (.cells (ndC ⟨xi, xk, xl, xd, xp, .slice ax nn cx, xn⟩) 29)).alloc (.cells (spC zeroS) 61)).alloc (.cells #[.int .i64 0, .int .i64 0, .int .i64 0, .string ⟨#[]⟩, .int .i64 0, .slice none 0 0] 29)) _ 29 (ndC zeroN) := Blk.new (((w.alloc (.cells (fsC mi mb nx (.slice a l.length ca)) 24)).alloc (.cells (ndC ⟨xi, xk, xl, xd, xp, .slice ax nn cx, xn⟩) 29)).alloc (.cells (spC zeroS) 61)) 29 (ndC zeroN)
  have bF := bF2.next A3
  have bD := bD2.next A3
  have bR := bR0.next A3
  have A01 := A0.trans (A1.mono A0.size)
  have A012 := A01.trans (A2.mono A01.size)
  have hB := A012.trans (A3.mono A012.size)
  clear A0 A1 A2 A3 A01 A012 bF0 bF1 bF2 bD0 bD2 bR0
  simp only [World.size_alloc] at bR bQ bD
  have nV := hv.below hB
  have nE := hE.below hB
  have HV := Lib.hid hv
  have HE := Lib.hid hE
  have HC := Lib.hid hc
  clear hv hE hc
  obtain ⟨⟨p0, p1, p2, p3⟩, _⟩ := bF.four
  obtain ⟨⟨d0, d1, d2, d3, d4, d5⟩, _⟩ := bD.six
  dsimp only at d0 d1 d2 d3 d4 d5
  by_cases h1 : n = [46]
  · subst h1
    have hS := stand_any mi mb nx xi l _ _ nV HC.out
    rw [show stepP ⟨xi, xk, xl, xd, xp, .slice ax nn cx, xn⟩ [46] = ⟨0, [], xi⟩ from rfl]
    dsimp only
    obtain ⟨ag, ng, cg, hgs⟩ := get_slice HV.out xi
    generalize getN l xi = G at *
    obtain ⟨gi, gk, gl, gd, gp, ge, gn⟩ := G
    dsimp only at hgs
    subst hgs
    go_enter Tryz.func71, Tryz.ntmps71
    go_wp2_with fail
    refine hS.mono ?_
    rintro e w1 ⟨rfl, b1⟩
    clear hS p0 p1 p2 p3 d0 d1 d2 d3 d4 d5
    (have bR2 := bR.next b1; have bQ2 := bQ.next b1; have hB2 := hB.trans (b1.mono hB.size); obtain ⟨⟨r0, r1, r2⟩, e0, e1, e2⟩ := bR2.three; obtain ⟨W1, hW1, hb3, hg3⟩ := bR2.put3 (.int .i64 0) (.string ⟨#[]⟩) (.int .i64 xi); have bQ3 := bQ2.kept hg3 (by simp); obtain ⟨⟨z0, z1, z2, z3, z4, z5⟩, g0, g1, g2, g3, g4, g5⟩ := bQ3.six; simp only [zeroN] at z0 z1 z2 z3 z4 z5; obtain ⟨W2, hW2, hb6, hg6⟩ := bQ3.put6 ⟨gi, gk, gl, gd, gp, .slice ag ng cg, gn⟩; have hR3 := hb3.kept hg6 (by simp); have hbl := below_grown (below_grown hB2 hg3 (Nat.le_refl _) (by omega)) hg6 (Nat.le_refl _) (by omega); dsimp only at hW2; go_wp2; obtain ⟨⟨t0, t1, t2⟩, _⟩ := hR3.three; obtain ⟨⟨u0, u1, u2, u3, u4, u5⟩, _⟩ := hb6.six; dsimp only at u0 u1 u2 u3 u4 u5; refine bodyPost_ret (v := .tuple #[.agg (spC ⟨0, [], xi⟩), .agg (ndC ⟨gi, gk, gl, gd, gp, .slice ag ng cg, gn⟩)]) (by simp [results, Tryz.f71, go_sem, t0, t1, t2, u0, u1, u2, u3, u4, u5]) rfl ?_; exact ⟨rfl, hbl⟩)
  · by_cases h2 : n = [46, 46]
    · subst h2
      have hS := stand_any mi mb nx xp l _ _ nV HC.out
      rw [show stepP ⟨xi, xk, xl, xd, xp, .slice ax nn cx, xn⟩ [46, 46] = ⟨0, [], xp⟩ from rfl]
      dsimp only
      obtain ⟨ag, ng, cg, hgs⟩ := get_slice HV.out xp
      generalize getN l xp = G at *
      obtain ⟨gi, gk, gl, gd, gp, ge, gn⟩ := G
      dsimp only at hgs
      subst hgs
      go_enter Tryz.func71, Tryz.ntmps71
      go_wp2_with fail
      refine hS.mono ?_
      rintro e w1 ⟨rfl, b1⟩
      clear hS p0 p1 p2 p3 d0 d1 d2 d3 d4 d5
      (have bR2 := bR.next b1; have bQ2 := bQ.next b1; have hB2 := hB.trans (b1.mono hB.size); obtain ⟨⟨r0, r1, r2⟩, e0, e1, e2⟩ := bR2.three; obtain ⟨W1, hW1, hb3, hg3⟩ := bR2.put3 (.int .i64 0) (.string ⟨#[]⟩) (.int .i64 xp); have bQ3 := bQ2.kept hg3 (by simp); obtain ⟨⟨z0, z1, z2, z3, z4, z5⟩, g0, g1, g2, g3, g4, g5⟩ := bQ3.six; simp only [zeroN] at z0 z1 z2 z3 z4 z5; obtain ⟨W2, hW2, hb6, hg6⟩ := bQ3.put6 ⟨gi, gk, gl, gd, gp, .slice ag ng cg, gn⟩; have hR3 := hb3.kept hg6 (by simp); have hbl := below_grown (below_grown hB2 hg3 (Nat.le_refl _) (by omega)) hg6 (Nat.le_refl _) (by omega); dsimp only at hW2; go_wp2; obtain ⟨⟨t0, t1, t2⟩, _⟩ := hR3.three; obtain ⟨⟨u0, u1, u2, u3, u4, u5⟩, _⟩ := hb6.six; dsimp only at u0 u1 u2 u3 u4 u5; refine bodyPost_ret (v := .tuple #[.agg (spC ⟨0, [], xp⟩), .agg (ndC ⟨gi, gk, gl, gd, gp, .slice ag ng cg, gn⟩)]) (by simp [results, Tryz.f71, go_sem, t0, t1, t2, u0, u1, u2, u3, u4, u5]) rfl ?_; exact ⟨rfl, hbl⟩)
    · have H1 : (n == [46]) = false := by simpa using h1
      have H2 : (n == [46, 46]) = false := by simpa using h2
      have HP : Hid (stepP ⟨xi, xk, xl, xd, xp, .slice ax nn cx, xn⟩ n = ⟨xi, n, numB xn n⟩) := by (show _ = _); unfold stepP; rw [if_neg h1, if_neg h2]
      have HP' : Hid (numB xn n = numB xn n) := rfl
      rw [HP.out]
      dsimp only
      have hSo := ((rightB_iff _).1 hr).2
      clear h1 h2 HP HP' hr
      have hFi := Find_any xn n _ _ nE hSo (by omega)
      have HG := Lib.hid (fun W (h : Nds W (.slice a l.length ca) l) => GetN_any mi mb nx (numB xn n) l _ W h HC.out.rise (by have := HC.out.len; omega) (calm_data HC.out))
      obtain ⟨ag, ng, cg, hgs⟩ := get_slice HV.out (numB xn n)
      generalize numB xn n = j at *
      generalize hasB xn n = jb at *
      generalize getN l j = G at *
      generalize hasN l j = r at *
      obtain ⟨gi, gk, gl, gd, gp, ge, gn⟩ := G
      dsimp only at hgs
      subst hgs
      go_enter Tryz.func71, Tryz.ntmps71
      go_wp2_with fail
      refine hFi.mono ?_
      rintro e w1 ⟨rfl, b1⟩
      clear nE hSo hFi p0 p1 p2 p3 d0 d1 d2 d3 d4 d5
      replace bF := bF.next b1
      replace bD := bD.next b1
      replace bR := bR.next b1
      replace bQ := bQ.next b1
      replace hB := hB.trans (b1.mono hB.size)
      have hl1 : w.heap.size + 4 ≤ w1.heap.size := by have := b1.size; simp at this; omega
      clear b1 nV
      have hG := HG.out _ (HV.out.below hB)
      clear HG
      obtain ⟨⟨p0, p1, p2, p3⟩, _⟩ := bF.four
      go_wp2_with fail
      refine hG.mono ?_
      rintro e w2 ⟨rfl, b2⟩
      clear hG p0 p1 p2 p3
      have b3 := alloc_below w2 (.cells (ndC ⟨gi, gk, gl, gd, gp, .slice ag ng cg, gn⟩) 29)
      have b4 := b2.trans (b3.mono b2.size)
      have hB2 := hB.trans (b4.mono hB.size)
      have bD2 := bD.next b4
      have bR2 := bR.next b4
      have bQ2 := bQ.next b4
      have bX := Blk.new w2 29 (ndC ⟨gi, gk, gl, gd, gp, .slice ag ng cg, gn⟩)
      have hl2 : w.heap.size + 4 ≤ w2.heap.size := Nat.le_trans hl1 b2.size
      clear b2 b3 b4 bF bD bR bQ hB
      obtain ⟨⟨d0, d1, d2, d3, d4, d5⟩, _⟩ := bD2.six
      dsimp only at d0 d1 d2 d3 d4 d5
      obtain ⟨⟨r0, r1, r2⟩, e0, e1, e2⟩ := bR2.three
      obtain ⟨⟨q0, q1, q2, q3, q4, q5⟩, f0, f1, f2, f3, f4, f5⟩ := bQ2.six
      obtain ⟨⟨x0, x1, x2, x3, x4, x5⟩, _⟩ := bX.six
      dsimp only at x0 x1 x2 x3 x4 x5
      obtain ⟨W1, hW1, hb3, hg3⟩ := bR2.put3 (.int .i64 xi) (.string ⟨n.toArray⟩) (.int .i64 j)
      have bQ3 := bQ2.kept hg3 (by simp)
      obtain ⟨W2, hW2, hb6, hg6⟩ := bQ3.put6 ⟨gi, gk, gl, gd, gp, .slice ag ng cg, gn⟩
      have hR3 := hb3.kept hg6 (by simp)
      have hbl := below_grown (below_grown hB2 hg3 (Nat.le_refl _) (by omega)) hg6 (Nat.le_refl _) (by omega)
      dsimp only at hW2
      obtain ⟨⟨y0, y1, y2, y3, y4, y5⟩, _⟩ := (bX.kept hg3 (by simp; omega)).six
      obtain ⟨⟨z0, z1, z2, z3, z4, z5⟩, g0, g1, g2, g3, g4, g5⟩ := bQ3.six
      dsimp only at y0 y1 y2 y3 y4 y5
      simp only [zeroN] at q0 q1 q2 q3 q4 q5 z0 z1 z2 z3 z4 z5
      go_upto_region 8 with fail
      go_region
      go_wp2
      have hd := (Below.refl W2.heap.size W2).drew
      obtain ⟨⟨t0, t1, t2⟩, _⟩ := (hR3.next hd).three
      obtain ⟨⟨u0, u1, u2, u3, u4, u5⟩, _⟩ := (hb6.next hd).six
      dsimp only at u0 u1 u2 u3 u4 u5
      refine bodyPost_ret (v := .tuple #[.agg (spC ⟨xi, n, j⟩), .agg (ndC ⟨gi, gk, gl, gd, gp, .slice ag ng cg, gn⟩)]) (by simp [results, Tryz.f71, go_sem, t0, t1, t2, u0, u1, u2, u3, u4, u5]) rfl ?_
      exact ⟨rfl, hbl.drew⟩
end Go.Proofs.YtkipplkaffpkjaaGreat

/- Walks: the program's Home, and the end of the way. -/
set_option linter.unusedVariables false
set_option linter.unusedSimpArgs false
namespace Go.Proofs.YtkipplkaffpkjaaGreat
open Go.RowKit

set_option maxHeartbeats 4000000 in
theorem HomeC_any (mi mb nx : Int) (l : List Nd) (p : List UInt8) (v : Value) (w : World) (hv : Nds w v l) (hp : p.length ≤ 50000) (hc : Calm l) (hin : LeadsIn l p) :
    Calls Tryz.prog 49 #[.agg (fsC mi mb nx v), .string ⟨p.toArray⟩] w fun e w' => e = .returned (.tuple #[.int .i64 (homeP l p).1, .int .i64 (homeP l p).2]) ∧ Below w.heap.size w w' := by
  obtain ⟨a, ca, rfl⟩ := nds_slice hv
  have bF := Blk.new w 24 (fsC mi mb nx (.slice a l.length ca))
  have hB := alloc_below w (.cells (fsC mi mb nx (.slice a l.length ca)) 24)
  have hG := GetP_any mi mb nx l p _ _ (hv.below hB) hp hc hin
  have h1 := home_err (l := l) (p := p)
  have h2 := home_file (l := l) (p := p)
  have h3 := home_some (l := l) (p := p)
  obtain ⟨ag, ng, cg, hgs⟩ := get_slice0 hv p
  generalize getP l p = G at *
  obtain ⟨⟨gi, gk, gl, gd, gp, ge, gn⟩, er⟩ := G
  dsimp only at hG h1 h2 h3 hgs
  subst hgs
  have H1 := Lib.hid h1
  have H2 := Lib.hid h2
  have H3 := Lib.hid h3
  clear h1 h2 h3 hv hc hin
  obtain ⟨⟨p0, p1, p2, p3⟩, _⟩ := bF.four
  go_enter Tryz.func49, Tryz.ntmps49
  go_wp2_with fail
  refine hG.mono ?_
  rintro e w1 ⟨rfl, b1⟩
  clear hG p0 p1 p2 p3
  have b2 := alloc_below w1 (.cells (ndC ⟨gi, gk, gl, gd, gp, .slice ag ng cg, gn⟩) 29)
  have bX := Blk.new w1 29 (ndC ⟨gi, gk, gl, gd, gp, .slice ag ng cg, gn⟩)
  have hB2 := (hB.trans (b1.mono hB.size)).trans (b2.mono (hB.trans (b1.mono hB.size)).size)
  obtain ⟨⟨x0, x1, x2, x3, x4, x5⟩, _⟩ := bX.six
  dsimp only at x0 x1 x2 x3 x4 x5
  clear b1 b2 hB bF bX
  by_cases her : er = 0
  · subst her
    by_cases hk : gk = 2
    · have HN := Lib.hid (H3.out rfl hk)
      subst hk
      clear H1 H2 H3
      go_wp2
      go_ret2
      exact ⟨by rw [HN.out]; rfl, hB2⟩
    · have HN := Lib.hid (H2.out rfl hk)
      clear H1 H2 H3
      go_wp2
      go_ret2
      exact ⟨by rw [HN.out]; rfl, hB2⟩
  · have HN := Lib.hid (H1.out her)
    clear H1 H2 H3
    go_wp2
    go_ret2
    exact ⟨by rw [HN.out]; rfl, hB2⟩


/-- Where the way ended, if it may end there. -/
def endP (s : Sp) (k : Int) (d : Bool) : Sp × Int := if d = true ∧ s.ino ≠ 0 ∧ k ≠ 2 then (zeroS, 3) else (s, 0)

set_option maxHeartbeats 4000000 in
theorem ended_any (s : Sp) (x : Nd) (d : Bool) (w : World) (ax : Option Addr) (nn cx : Nat) (hev : x.ev = .slice ax nn cx) :
    Calls Tryz.prog 73 #[.agg (spC s), .agg (ndC x), .bool d] w fun e w' => e = .returned (.tuple #[.agg (spC (endP s x.kind d).1), .int .i64 (endP s x.kind d).2]) ∧ Below w.heap.size w w' := by
  obtain ⟨sd, sn, si⟩ := s
  obtain ⟨xi, xk, xl, xd, xp, xe, xn⟩ := x
  dsimp only at hev
  subst hev
  have A0 := alloc_below w (.cells (spC ⟨sd, sn, si⟩) 61)
  have bS0 := Blk.new w 61 (spC ⟨sd, sn, si⟩)
  have A1 := alloc_below (w.alloc (.cells (spC ⟨sd, sn, si⟩) 61)) (.cells (ndC ⟨xi, xk, xl, xd, xp, .slice ax nn cx, xn⟩) 29)
  have bX0 := Blk.new (w.alloc (.cells (spC ⟨sd, sn, si⟩) 61)) 29 (ndC ⟨xi, xk, xl, xd, xp, .slice ax nn cx, xn⟩)
  have bS1 := bS0.next A1
  have A2 := alloc_below ((w.alloc (.cells (spC ⟨sd, sn, si⟩) 61)).alloc (.cells (ndC ⟨xi, xk, xl, xd, xp, .slice ax nn cx, xn⟩) 29)) (.cells (spC zeroS) 61)
  have bR := Blk.new ((w.alloc (.cells (spC ⟨sd, sn, si⟩) 61)).alloc (.cells (ndC ⟨xi, xk, xl, xd, xp, .slice ax nn cx, xn⟩) 29)) 61 (spC zeroS)
  have bS := bS1.next A2
  have bX := bX0.next A2
  have A01 := A0.trans (A1.mono A0.size)
  have hB := A01.trans (A2.mono A01.size)
  have hBs := A01.trans ((alloc_below ((w.alloc (.cells (spC ⟨sd, sn, si⟩) 61)).alloc (.cells (ndC ⟨xi, xk, xl, xd, xp, .slice ax nn cx, xn⟩) 29)) (.cells (spC ⟨sd, sn, si⟩) 61)).mono A01.size)
  have bRs := Blk.new ((w.alloc (.cells (spC ⟨sd, sn, si⟩) 61)).alloc (.cells (ndC ⟨xi, xk, xl, xd, xp, .slice ax nn cx, xn⟩) 29)) 61 (spC ⟨sd, sn, si⟩)
  clear A0 A1 A2 A01 bS0 bS1 bX0
  simp only [World.size_alloc] at bR bX bRs
  obtain ⟨⟨s0, s1, s2⟩, _⟩ := bS.three
  dsimp only at s0 s1 s2
  obtain ⟨⟨x0, x1, x2, x3, x4, x5⟩, _⟩ := bX.six
  dsimp only at x0 x1 x2 x3 x4 x5
  obtain ⟨⟨r0, r1, r2⟩, e0, e1, e2⟩ := bR.three
  by_cases hbad : d = true ∧ si ≠ 0 ∧ xk ≠ 2
  · have HN : Hid (endP ⟨sd, sn, si⟩ xk d = (zeroS, 3)) := by (show _ = _); unfold endP; rw [if_pos hbad]
    obtain ⟨rfl, h1, h2⟩ := hbad
    have g1 : (si != 0) = true := by simpa using h1
    have g2 : (xk != 2) = true := by simpa using h2
    clear h1 h2
    go_enter Tryz.func73, Tryz.ntmps73
    go_wp2
    refine bodyPost_ret (v := .tuple #[.agg #[.int .i64 0, .string ⟨#[]⟩, .int .i64 0], .int .i64 3]) (by simp [results, Tryz.f73, go_sem, r0, r1, r2]) rfl ?_
    exact ⟨by rw [HN.out], hB⟩
  · have HN : Hid (endP ⟨sd, sn, si⟩ xk d = (⟨sd, sn, si⟩, 0)) := by (show _ = _); unfold endP; rw [if_neg hbad]
    have hbl := hBs
    have hb3 := bRs
    cases d
    · clear hbad
      go_enter Tryz.func73, Tryz.ntmps73
      go_wp2
      obtain ⟨⟨t0, t1, t2⟩, _⟩ := hb3.three
      refine bodyPost_ret (v := .tuple #[.agg (spC ⟨sd, sn, si⟩), .int .i64 0]) (by simp [results, Tryz.f73, go_sem, t0, t1, t2]) rfl ?_
      exact ⟨by rw [HN.out], hbl⟩
    · by_cases h0 : si = 0
      · subst h0
        clear hbad
        go_enter Tryz.func73, Tryz.ntmps73
        go_wp2
        obtain ⟨⟨t0, t1, t2⟩, _⟩ := hb3.three
        refine bodyPost_ret (v := .tuple #[.agg (spC ⟨sd, sn, 0⟩), .int .i64 0]) (by simp [results, Tryz.f73, go_sem, t0, t1, t2]) rfl ?_
        exact ⟨by rw [HN.out], hbl⟩
      · obtain rfl : xk = 2 := Decidable.byContradiction fun h => hbad ⟨rfl, h0, h⟩
        clear hbad
        go_enter Tryz.func73, Tryz.ntmps73
        go_wp2
        obtain ⟨⟨t0, t1, t2⟩, _⟩ := hb3.three
        refine bodyPost_ret (v := .tuple #[.agg (spC ⟨sd, sn, si⟩), .int .i64 0]) (by simp [results, Tryz.f73, go_sem, t0, t1, t2]) rfl ?_
        exact ⟨by rw [HN.out], hbl⟩
end Go.Proofs.YtkipplkaffpkjaaGreat

/- The way on, told by the place to which a step leads. No program's function. -/
set_option linter.unusedVariables false
set_option linter.unusedSimpArgs false
namespace Go.Proofs.YtkipplkaffpkjaaGreat

/-- Of a place: if it has a number, there is an inode of it. -/
def OnS (l : List Nd) (s : Sp) : Prop := s.ino ≠ 0 → hasN l s.ino = true
theorem onS_bare {l : List Nd} {i : Int} (h : isDir l i = true) : OnS l ⟨0, [], i⟩ := fun _ => (dir_parts h).1
theorem dir_num {mi mb nx : Int} {l : List Nd} (h : OkS mi mb nx l) {i : Int} (hd : isDir l i = true) : i ≠ 0 ∧ (getN l i).kind = 2 ∧ (getN l i).ino = i := by
  refine ⟨fun e => ?_, (dir_parts hd).2, (get_mem (dir_parts hd).1).2⟩
  subst e
  have := (dir_parts hd).1
  rw [no_zero h] at this; cases this
theorem step_dot {l : List Nd} {x : Nd} : stepP x [46] = ⟨0, [], x.ino⟩ := rfl
theorem step_dots {l : List Nd} {x : Nd} : stepP x [46, 46] = ⟨0, [], x.parent⟩ := rfl
theorem step_name {x : Nd} {n : List UInt8} (h1 : n ≠ [46]) (h2 : n ≠ [46, 46]) : stepP x n = ⟨x.ino, n, numB x.ents n⟩ := by unfold stepP; rw [if_neg h1, if_neg h2]
theorem step_on {mi mb nx : Int} {l : List Nd} (h : OkS mi mb nx l) {i : Int} (n : List UInt8) (hk : (getN l i).kind = 2) : OnS l (stepP (getN l i) n) := by
  have hd := kind_has hk
  by_cases h1 : n = [46]
  · subst h1; exact onS_bare (by rw [(dir_num h hd).2.2]; exact hd)
  by_cases h2 : n = [46, 46]
  · subst h2; exact onS_bare (parent_dir h hd)
  rw [step_name h1 h2]
  exact fun h3 => num_has (tree_c h.check) h3
/-- A step to what is a link, or to nothing, is no step by dots. -/
theorem step_else {mi mb nx : Int} {l : List Nd} (h : OkS mi mb nx l) {i : Int} {n : List UInt8} (hk : (getN l i).kind = 2) (h2 : (getN l (stepP (getN l i) n).ino).kind ≠ 2) : n ≠ [46] ∧ n ≠ [46, 46] := by
  have hd := kind_has hk
  constructor
  · intro e
    subst e
    rw [show (stepP (getN l i) [46]).ino = (getN l i).ino from rfl, (dir_num h hd).2.2] at h2
    exact h2 hk
  · intro e
    subst e
    exact h2 (dir_parts (parent_dir h hd)).2
theorem lead_gone {mi mb nx : Int} {l : List Nd} (h : OkS mi mb nx l) {fo d : Bool} {g : Nat} {s : Sp} {n : List UInt8} {r : List (List UInt8)} (h0 : s.ino ≠ 0) (hk : (getN l s.ino).kind = 2) (hz : (stepP (getN l s.ino) n).ino = 0) (hr : r ≠ []) :
    onN l fo g s (n :: r) d = (zeroS, 1) := by
  have hz2 : (getN l (stepP (getN l s.ino) n).ino).kind ≠ 2 := by rw [hz, getN_none (no_zero h)]; decide
  obtain ⟨d1, d2⟩ := step_else h hk hz2
  rw [step_name d1 d2] at hz
  obtain ⟨m, t, rfl⟩ := List.exists_cons_of_ne_nil hr
  rw [on_stop h0 hk d1 d2 ?_, on_gone (show (stepS l s.ino n).ino = 0 from hz)]
  unfold stopB
  have : (getN l (numB (getN l s.ino).ents n)).kind != 3 := by
    rw [show numB (getN l s.ino).ents n = 0 from hz, getN_none (no_zero h)]; decide
  rw [this]; simp
theorem lead_on {mi mb nx : Int} {l : List Nd} (h : OkS mi mb nx l) {fo d : Bool} {g : Nat} {s : Sp} {n : List UInt8} {r : List (List UInt8)} (h0 : s.ino ≠ 0) (hk : (getN l s.ino).kind = 2)
    (hc : (getN l (stepP (getN l s.ino) n).ino).kind ≠ 3 ∨ (r = [] ∧ fo = false ∧ d = false)) :
    onN l fo g s (n :: r) d = onN l fo g (stepP (getN l s.ino) n) r d := by
  by_cases d1 : n = [46]
  · subst d1; exact on_dot h0 hk rfl
  by_cases d2 : n = [46, 46]
  · subst d2; exact on_dots h0 hk rfl
  rw [on_stop h0 hk d1 d2 ?_, step_name d1 d2]
  · rfl
  · unfold stopB
    rcases hc with hc | ⟨rfl, rfl, rfl⟩
    · rw [step_name d1 d2] at hc
      have : ((getN l (numB (getN l s.ino).ents n)).kind != 3) = true := by simpa using hc
      rw [this]; simp
    · simp
theorem stop_no {mi mb nx : Int} {l : List Nd} (h : OkS mi mb nx l) {fo d : Bool} {s : Sp} {n : List UInt8} {r : List (List UInt8)} (hk : (getN l s.ino).kind = 2)
    (h3 : (getN l (stepP (getN l s.ino) n).ino).kind = 3) (hc : ¬ (r = [] ∧ fo = false ∧ d = false)) :
    n ≠ [46] ∧ n ≠ [46, 46] ∧ stopB l fo d s.ino n r = false ∧ lnkD l s.ino n = (getN l (stepP (getN l s.ino) n).ino).data := by
  obtain ⟨d1, d2⟩ := step_else (n := n) h hk (by rw [h3]; decide)
  refine ⟨d1, d2, ?_, ?_⟩
  · rw [step_name d1 d2] at h3
    dsimp only at h3
    have hb : hasB (getN l s.ino).ents n = true := by
      cases hb : hasB (getN l s.ino).ents n
      · rw [(find_none hb).1, getN_none (no_zero h)] at h3; cases h3
      · rfl
    unfold stopB
    rw [hb, h3]
    cases r <;> cases fo <;> cases d <;> simp_all
  · rw [step_name d1 d2]; rfl
theorem lead_loop {mi mb nx : Int} {l : List Nd} (h : OkS mi mb nx l) {fo d : Bool} {s : Sp} {n : List UInt8} {r : List (List UInt8)} (h0 : s.ino ≠ 0) (hk : (getN l s.ino).kind = 2)
    (h3 : (getN l (stepP (getN l s.ino) n).ino).kind = 3) (hc : ¬ (r = [] ∧ fo = false ∧ d = false)) : onN l fo 0 s (n :: r) d = (zeroS, 6) := by
  obtain ⟨d1, d2, hs, _⟩ := stop_no h hk h3 hc
  exact on_loop h0 hk d1 d2 hs
theorem lead_long {mi mb nx : Int} {l : List Nd} (h : OkS mi mb nx l) {fo d : Bool} {g : Nat} {s : Sp} {n : List UInt8} {r : List (List UInt8)} (h0 : s.ino ≠ 0) (hk : (getN l s.ino).kind = 2)
    (h3 : (getN l (stepP (getN l s.ino) n).ino).kind = 3) (hc : ¬ (r = [] ∧ fo = false ∧ d = false)) (hl : longB (getN l (stepP (getN l s.ino) n).ino).data = true) : onN l fo (g + 1) s (n :: r) d = (zeroS, 7) := by
  obtain ⟨d1, d2, hs, hd⟩ := stop_no h hk h3 hc
  exact on_long h0 hk d1 d2 hs (by rw [hd]; exact hl)
theorem lead_link {mi mb nx : Int} {l : List Nd} (h : OkS mi mb nx l) {fo d : Bool} {g : Nat} {s : Sp} {n : List UInt8} {r : List (List UInt8)} (h0 : s.ino ≠ 0) (hk : (getN l s.ino).kind = 2)
    (h3 : (getN l (stepP (getN l s.ino) n).ino).kind = 3) (hc : ¬ (r = [] ∧ fo = false ∧ d = false)) (hl : longB (getN l (stepP (getN l s.ino) n).ino).data = false) :
    onN l fo (g + 1) s (n :: r) d = onN l fo g ⟨0, [], if absB (getN l (stepP (getN l s.ino) n).ino).data = true then 1 else (getN l s.ino).ino⟩ (namesB (getN l (stepP (getN l s.ino) n).ino).data ++ r) (d || (r.isEmpty && slashB (getN l (stepP (getN l s.ino) n).ino).data)) := by
  obtain ⟨d1, d2, hs, hd⟩ := stop_no h hk h3 hc
  rw [on_link h0 hk d1 d2 hs (by rw [hd]; exact hl), hd, Bool.and_comm (slashB _)]
theorem lead_end {mi mb nx : Int} {l : List Nd} (h : OkS mi mb nx l) {fo d : Bool} {g : Nat} {s : Sp} (hs : OnS l s) : onN l fo g s [] d = endP s (getN l s.ino).kind d := by
  rw [on_nil]
  unfold endP
  by_cases h0 : s.ino = 0
  · rw [h0, no_zero h]; simp
  · rw [hs h0]
    by_cases hk : (getN l s.ino).kind = 2
    · rw [hk]; simp
    · cases d
      · simp
      · have e1 : (true && true && (getN l s.ino).kind != 2) = true := by simpa using hk
        have e2 : true = true ∧ s.ino ≠ 0 ∧ (getN l s.ino).kind ≠ 2 := ⟨rfl, h0, hk⟩
        rw [if_pos e1, if_pos e2]
/-- Where one stands behind a link. -/
theorem from_dir {mi mb nx : Int} {l : List Nd} (h : OkS mi mb nx l) {i : Int} (hk : (getN l i).kind = 2) (b : Bool) : isDir l (if b = true then 1 else (getN l i).ino) = true := by
  cases b
  · rw [if_neg (by simp), (dir_num h (kind_has hk)).2.2]; exact kind_has hk
  · rw [if_pos rfl]; exact kind_has (tree_c h.check).rootDir
end Go.Proofs.YtkipplkaffpkjaaGreat
