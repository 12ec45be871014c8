/- Walks: the program's At and Get of plain paths. -/
import Derived.Test.YtobepdmpacdakaaGreatQ
import Derived.Test.YtobepdmpacdakaaGreatQWalkC09
import Derived.Test.YtobepdmpacdakaaGreatQWalkF03
import Derived.Test.YtobepdmpacdakaaGreatQWalkD05
import Derived.Test.YtobepdmpacdakaaGreatQB
set_option linter.unusedVariables false
set_option linter.unusedSimpArgs false
namespace Go.Proofs.YtobepdmpacdakaaGreat
open Go.RowKit

theorem calm_data {l : List Nd} (h : Calm l) : ∀ x ∈ l, x.data.length ≤ 281474976710656 := fun x hx => Nat.le_trans (h.size x hx).2.1 (by decide)

set_option maxHeartbeats 8000000 in
set_option maxRecDepth 100000 in
theorem At_any (mi mb nx : Int) (l : List Nd) (p : List UInt8) (v : Value) (w : World) (hv : Nds w v l) (hp : p.length ≤ 50000) (hc : Calm l) :
    Calls Tryz.prog 112 #[.agg (fsC mi mb nx v), .string ⟨p.toArray⟩] w fun e w' => e = .returned (.tuple #[.agg (spC (atP l p).1), .int .i64 (atP l p).2]) ∧ Below w.heap.size w w' := by
  obtain ⟨a, ca, rfl⟩ := nds_slice hv
  have HV := Lib.hid hv
  have HC := Lib.hid hc
  have bF := (Blk.new w 24 (fsC mi mb nx (.slice a l.length ca))).alloc (.cells (spC zeroS) 37)
  have bR := Blk.new (w.alloc (.cells (fsC mi mb nx (.slice a l.length ca)) 24)) 37 (spC zeroS)
  have hB0 : Below w.heap.size w ((w.alloc (.cells (fsC mi mb nx (.slice a l.length ca)) 24)).alloc (.cells (spC zeroS) 37)) := ((Below.refl _ w).alloc (Nat.le_refl _) _).alloc (by simp) _
  simp only [World.size_alloc] at bR
  have hct := namesB_count p
  clear hv hc
  go_enter Tryz.func112, Tryz.ntmps112
  go_wp2_with fail
  refine (Plain_any p _ (by omega)).mono ?_
  rintro e w1 ⟨vn, rfl, hst, b1⟩
  replace bF := bF.next b1
  replace bR := bR.next b1
  have hB1 := hB0.trans (b1.mono hB0.size)
  have hl1 : w.heap.size + 2 ≤ w1.heap.size := by have := b1.size; simp at this; omega
  clear hB0 b1
  cases hpl : plainB p with
  | none =>
    have HN : Hid (atP l p = (zeroS, 9)) := by (show _ = _); unfold atP; rw [hpl]
    rw [hpl] at hst
    obtain ⟨an, cn, rfl, _⟩ := hst
    obtain ⟨⟨r0, r1, r2⟩, e0, e1, e2⟩ := bR.three
    obtain ⟨W', hW', hb3, hg3⟩ := bR.put3 (.int .i64 0) (.string ⟨#[]⟩) (.int .i64 0)
    have hbl := below_grown hB1 hg3 (Nat.le_refl _) (by omega)
    go_wp2
    obtain ⟨⟨x0, x1, x2⟩, _⟩ := hb3.three
    refine bodyPost_ret (v := .tuple #[.agg #[.int .i64 0, .string ⟨#[]⟩, .int .i64 0], .int .i64 9]) (by simp [results, Tryz.f112, go_sem, x0, x1, x2]) rfl ?_
    exact ⟨by rw [HN.out], hbl⟩
  | some ns =>
    have HN : Hid (atP l p = atN l rootS ns) := by (show _ = _); unfold atP; rw [hpl]
    have hnl : ns.length ≤ 100000 := by have := (plainB_yes hpl).2.2; rw [← this]; omega
    rw [hpl] at hst
    obtain ⟨an, cn, rfl, _, HA0⟩ := hst
    simp only [Option.getD_some] at HA0
    have HA := Lib.hid HA0
    clear HA0 hpl hct
    have hS := alloc_below w1 (.cells (spC rootS) 37)
    have bS := Blk.new w1 37 (spC rootS)
    have hB2 := hB1.trans (hS.mono hB1.size)
    have bF2 := bF.next hS
    have bR2 := bR.next hS
    have HAL : Hid (Below w1.heap.size w1 (w1.alloc (.cells (spC rootS) 37))) := hS
    clear bF bR
    go_wp2
    go_loopw [9, 25] (fun s9 s25 wr => ∃ (k : Nat) (s : Sp) (th : Bool), k ≤ ns.length ∧ s25 = .int .i64 k ∧ s9 = .bool th ∧ Aside (th = decide (s.ino ≠ 0)) ∧ Aside (atN l s (ns.drop k) = atN l rootS ns) ∧ Below w.heap.size w wr ∧ Below w1.heap.size w1 wr ∧ Aside (Blk wr w.heap.size 24 (fsC mi mb nx (.slice a l.length ca))) ∧ Aside (Blk wr (w.heap.size + 1) 37 (spC zeroS)) ∧ Aside (Blk wr w1.heap.size 37 (spC s))) (fun _ s25 _ => ns.length - (intOf s25).toNat)
    case atStart => exact ⟨0, rootS, true, Nat.zero_le _, rfl, rfl, rfl, rfl, hB2, hS, bF2, bR2, bS⟩
    case round =>
      clear hB2 hS bF2 bR2 bS hB1
      obtain ⟨k, s, th, hk, rfl, rfl, HTH, HT, hbw, hbw1, HF, HR, HS⟩ := hrel
      obtain ⟨⟨p0, p1, p2, p3⟩, _⟩ := HF.out.four
      obtain ⟨⟨r0, r1, r2⟩, e0, e1, e2⟩ := HR.out.three
      obtain ⟨⟨s0, s1, s2⟩, _⟩ := HS.out.three
      by_cases hlt : k < ns.length
      · obtain ⟨b, o, rfl, hb, hcl⟩ := HA.out (by omega)
        have c0 := (hbw1.cell (p := ⟨b, o + k, none⟩) hb).trans (hcl k hlt)
        clear hcl
        have hdrop : ns.drop k = ns[k] :: ns.drop (k + 1) := List.drop_eq_getElem_cons hlt
        have hT := HT.out
        rw [hdrop] at hT
        clear HT hdrop
        obtain ⟨sd, sn, si⟩ := s
        dsimp only at s0 s1 s2
        have hth := HTH.out
        dsimp only at hth
        have hgone : si = 0 → atP l p = (zeroS, 1) := fun h => by rw [HN.out, ← hT]; exact at_gone h
        have hon : si ≠ 0 → (getN l si).kind = 2 → atN l (stepS l si ns[k]) (ns.drop (k + 1)) = atN l rootS ns := fun h0 h => by rw [← hT, at_on h0 h]
        have hfile : si ≠ 0 → (getN l si).kind ≠ 2 → atP l p = (zeroS, 3) := fun h0 h => by rw [HN.out, ← hT, at_file h0 h]
        unfold stepS at hon
        have hG := GetN_any mi mb nx si l _ wr (HV.out.below hbw) HC.out.rise (by have := HC.out.len; omega) (calm_data HC.out)
        have hEG := get_ents HV.out.all si
        obtain ⟨ag, ng, cg, hgs⟩ := get_slice HV.out si
        have hgr := (calm_get HC.out si).1
        have hgl := (calm_get HC.out si).2.1
        clear hT HTH
        generalize ns[k] = n at *
        generalize getN l si = G at *
        generalize hasN l si = r at *
        obtain ⟨gi, gk, gl, gd, gp, ge, gn⟩ := G
        dsimp only at hgs hEG hon hfile hgr hgl
        subst hgs
        have HON := Lib.hid hon
        have HFI := Lib.hid hfile
        have HGO := Lib.hid hgone
        have HTH := Lib.hid hth
        clear hon hfile hgone hth
        go_wp2_with fail
        refine hG.mono ?_
        rintro e w2 ⟨rfl, b2⟩
        clear hG p0 p1 p2 p3 r0 r1 r2 e0 e1 e2 s0 s1 s2
        have b3 := alloc_below w2 (.cells (ndC ⟨gi, gk, gl, gd, gp, .slice ag ng cg, gn⟩) 45)
        have b4 := b2.trans (b3.mono b2.size)
        have hb4 := hbw.trans (b4.mono hbw.size)
        have hb41 := hbw1.trans (b4.mono hbw1.size)
        have HF4 := Lib.hid (HF.out.next b4)
        have HR4 := Lib.hid (HR.out.next b4)
        have HS4 := Lib.hid (HS.out.next b4)
        obtain ⟨⟨r0, r1, r2⟩, e0, e1, e2⟩ := HR4.out.three
        have c1 := (b4.cell (p := ⟨b, o + k, none⟩) (Nat.lt_of_lt_of_le hb hbw1.size)).trans c0
        clear b3 c0
        have X := Blk.new w2 45 (ndC ⟨gi, gk, gl, gd, gp, .slice ag ng cg, gn⟩)
        cases th
        · have h0 : si = 0 := Decidable.byContradiction fun h => by have := HTH.out; rw [decide_eq_true h] at this; cases this
          have HN2 := Lib.hid (HGO.out h0)
          obtain ⟨W', hW', hb3, hg3⟩ := HR4.out.put3 (.int .i64 0) (.string ⟨#[]⟩) (.int .i64 0)
          have hbl := below_grown hb4 hg3 (Nat.le_refl _) (by omega)
          clear HON HFI HGO HTH h0
          go_wp2
          obtain ⟨⟨x0, x1, x2⟩, _⟩ := hb3.three
          refine bodyPost_ret (v := .tuple #[.agg #[.int .i64 0, .string ⟨#[]⟩, .int .i64 0], .int .i64 1]) (by simp [results, Tryz.f112, go_sem, x0, x1, x2]) rfl ?_
          exact ⟨by rw [HN2.out], hbl⟩
        · have h0 : si ≠ 0 := of_decide_eq_true HTH.out.symm
          by_cases hk2 : gk = 2
          · subst hk2
            have HT2 := Lib.hid (HON.out h0 rfl)
            clear HON HFI HGO HTH
            go_upto_region 13 with fail
            generalize w2.alloc (.cells (ndC ⟨gi, 2, gl, gd, gp, .slice ag ng cg, gn⟩) 45) = w3 at *
            have hltS := HS.out.lt
            obtain ⟨⟨s0, s1, s2⟩, f0, f1, f2⟩ := HS4.out.three
            obtain ⟨⟨x0, x1, x2, x3, x4, x5⟩, _⟩ := X.six
            dsimp only at s0 s1 s2 x0 x1 x2 x3 x4 x5
            obtain ⟨W', hW', hb3', hg3'⟩ := HS4.out.put3 (.int .i64 gi) (.string ⟨n.toArray⟩) (.int .i64 0)
            have hblA := below_grown hb4 hg3' (Nat.le_refl _) (by omega)
            have hblB := below_grown hb41 hg3' (Nat.le_refl _) (Nat.le_refl _)
            have HF6 := Lib.hid (HF4.out.kept hg3' (by simp; omega))
            have HR6 := Lib.hid (HR4.out.kept hg3' (by simp; omega))
            have X6 := X.kept hg3' (by have := b2.size; simp; omega)
            clear r0 r1 r2 e0 e1 e2
            go_upto_region 14 with fail
            clear s0 s1 s2 f0 f1 f2 x0 x1 x2 x3 x4 x5
            obtain ⟨⟨s0, s1, s2⟩, f0, f1, f2⟩ := hb3'.three
            obtain ⟨⟨x0, x1, x2, x3, x4, x5⟩, _⟩ := X6.six
            dsimp only at s0 s1 s2 x0 x1 x2 x3 x4 x5
            go_wp2_with fail
            refine (Find_any gn n _ _ (hEG.below hblA) ((rightB_iff _).1 hgr).2 (by omega)).mono ?_
            rintro e w5 ⟨rfl, b5⟩
            have HNH := Lib.hid (num_hasB hgr n)
            clear s0 s1 s2 f0 f1 f2 x0 x1 x2 x3 x4 x5
            have hb5 := hblA.trans (b5.mono hblA.size)
            have hb51 := hblB.trans (b5.mono hblB.size)
            have hS5 := hb3'.next b5
            have hF5 := HF6.out.next b5
            have hR5 := HR6.out.next b5
            have hS6 := hS5.set 2 (.int .i64 (numB gn n))
            obtain ⟨⟨s0, s1, s2⟩, f0, f1, f2⟩ := hS5.three
            have hg6 := grownBy_set w5 w1.heap.size 2 (.int .i64 (numB gn n))
            have hbZ := below_grown hb5 hg6 (Nat.le_refl _) (by omega)
            have hbZ1 := below_grown hb51 hg6 (Nat.le_refl _) (Nat.le_refl _)
            have hF7 := hF5.kept hg6 (by simp; omega)
            have hR7 := hR5.kept hg6 (by simp; omega)
            go_wp2
            go_roundw
            case rel => exact ⟨k + 1, ⟨gi, n, numB gn n⟩, hasB gn n, by omega, by go_num, rfl, HNH.out, HT2.out, hbZ, hbZ1, hF7, hR7, hS6⟩
            case measure => simp [intOf]; omega
          · have HN2 := Lib.hid (HFI.out h0 hk2)
            obtain ⟨W', hW', hb3, hg3⟩ := HR4.out.put3 (.int .i64 0) (.string ⟨#[]⟩) (.int .i64 0)
            have hbl := below_grown hb4 hg3 (Nat.le_refl _) (by omega)
            clear HON HFI HGO HTH h0
            obtain ⟨⟨x0, x1, x2, x3, x4, x5⟩, _⟩ := X.six
            dsimp only at x0 x1 x2 x3 x4 x5
            go_wp2
            obtain ⟨⟨x0, x1, x2⟩, _⟩ := hb3.three
            refine bodyPost_ret (v := .tuple #[.agg #[.int .i64 0, .string ⟨#[]⟩, .int .i64 0], .int .i64 3]) (by simp [results, Tryz.f112, go_sem, x0, x1, x2]) rfl ?_
            exact ⟨by rw [HN2.out], hbl⟩
      · obtain rfl : k = ns.length := by omega
        have HN2 : Hid (atP l p = (s, 0)) := by (show _ = _); rw [HN.out, ← HT.out, List.drop_length]; rfl
        obtain ⟨sd, sn, si⟩ := s
        dsimp only at s0 s1 s2
        obtain ⟨W', hW', hb3, hg3⟩ := HR.out.put3 (.int .i64 sd) (.string ⟨sn.toArray⟩) (.int .i64 si)
        have hbl := below_grown hbw hg3 (Nat.le_refl _) (by omega)
        go_wp2
        obtain ⟨⟨x0, x1, x2⟩, _⟩ := hb3.three
        refine bodyPost_ret (v := .tuple #[.agg #[.int .i64 sd, .string ⟨sn.toArray⟩, .int .i64 si], .int .i64 0]) (by simp [results, Tryz.f112, go_sem, x0, x1, x2]) rfl ?_
        exact ⟨by rw [HN2.out], hbl⟩
end Go.Proofs.YtobepdmpacdakaaGreat
