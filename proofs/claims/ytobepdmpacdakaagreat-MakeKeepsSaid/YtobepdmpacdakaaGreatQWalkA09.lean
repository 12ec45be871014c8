/- Walks: the document's At and Get of plain paths. -/
import Derived.Test.YtobepdmpacdakaaGreatQ
import Derived.Test.YtobepdmpacdakaaGreatQPlain03
import Derived.Test.YtobepdmpacdakaaGreatQWalkC07
import Derived.StillTailTactics
set_option linter.unusedVariables false
set_option linter.unusedSimpArgs false
namespace Go.Proofs.YtobepdmpacdakaaGreat
open Go.RowKit

abbrev spC (s : Sp) : Array Value := #[.int .i64 s.dir, .string ⟨s.name.toArray⟩, .int .i64 s.ino]
/-- A block of three cells: what a walk asks of it. -/
theorem Blk.three {W : World} {B : Nat} {t : TypeId} {a b c : Value} (h : Blk W B t #[a, b, c]) :
    (W.cell? ⟨B, 0, none⟩ = some a ∧ W.cell? ⟨B, 1, none⟩ = some b ∧ W.cell? ⟨B, 2, none⟩ = some c) ∧
      (W.frozen? ⟨B, 0, none⟩ = false ∧ W.frozen? ⟨B, 1, none⟩ = false ∧ W.frozen? ⟨B, 2, none⟩ = false) :=
  ⟨⟨(h.cell 0).trans rfl, (h.cell 1).trans rfl, (h.cell 2).trans rfl⟩, h.frozen 0, h.frozen 1, h.frozen 2⟩
/-- A struct of three cells stored whole. -/
theorem Blk.put3 {W : World} {B : Nat} {t : TypeId} {a b c : Value} (h : Blk W B t #[a, b, c]) (p q r : Value) :
    ∃ W', ((W.setCell ⟨B, 0, none⟩ p).setCell ⟨B, 1, none⟩ q).setCell ⟨B, 2, none⟩ r = W' ∧ Blk W' B t #[p, q, r] ∧ W.grownBy W' (some B) := by
  refine ⟨_, rfl, ?_, ?_⟩
  · exact ((h.set 0 p).set 1 q).set 2 r
  · exact ((grownBy_set W B 0 p).trans (grownBy_set _ B 1 q)).trans (grownBy_set _ B 2 r)

set_option maxHeartbeats 8000000 in
set_option maxRecDepth 100000 in
theorem refAt_any (mi mb nx : Int) (l : List Nd) (p : List UInt8) (v : Value) (w : World) (hv : Nds w v l) (hp : p.length ≤ 100000) :
    Calls Tryz.prog 87 #[.agg (fsC mi mb nx v), .string ⟨p.toArray⟩] w fun e w' => e = .returned (.tuple #[.agg (spC (atP l p).1), .int .i64 (atP l p).2]) ∧ Below w.heap.size w w' := by
  obtain ⟨a, ca, rfl⟩ := nds_slice hv
  have HV := Lib.hid hv
  have bF := (Blk.new w 24 (fsC mi mb nx (.slice a l.length ca))).alloc (.cells (spC zeroS) 37)
  have bR := Blk.new (w.alloc (.cells (fsC mi mb nx (.slice a l.length ca)) 24)) 37 (spC zeroS)
  have hB0 : Below w.heap.size w ((w.alloc (.cells (fsC mi mb nx (.slice a l.length ca)) 24)).alloc (.cells (spC zeroS) 37)) := ((Below.refl _ w).alloc (Nat.le_refl _) _).alloc (by simp) _
  simp only [World.size_alloc] at bR
  have hct := namesB_count p
  clear hv
  go_enter Tryz.func87, Tryz.ntmps87
  go_wp2_with fail
  refine (refPlain_any p _ hp).mono ?_
  rintro e w1 ⟨vn, rfl, hst, b1⟩
  replace bF := bF.next b1
  replace bR := bR.next b1
  have hB1 := hB0.trans (b1.mono hB0.size)
  have hl1 : w.heap.size + 2 ≤ w1.heap.size := by have := b1.size; simp at this; omega
  clear hB0 b1
  cases hpl : plainB p with
  | none =>
    have HN : Hid (atP l p = (zeroS, 9)) := by (show _ = _); unfold atP; rw [hpl]
    rw [hpl] at hst
    obtain ⟨an, cn, rfl, _⟩ := hst
    obtain ⟨⟨r0, r1, r2⟩, e0, e1, e2⟩ := bR.three
    obtain ⟨W', hW', hb3, hg3⟩ := bR.put3 (.int .i64 0) (.string ⟨#[]⟩) (.int .i64 0)
    have hbl := below_grown hB1 hg3 (Nat.le_refl _) (by omega)
    go_wp2
    obtain ⟨⟨x0, x1, x2⟩, _⟩ := hb3.three
    refine bodyPost_ret (v := .tuple #[.agg #[.int .i64 0, .string ⟨#[]⟩, .int .i64 0], .int .i64 9]) (by simp [results, Tryz.f87, go_sem, x0, x1, x2]) rfl ?_
    exact ⟨by rw [HN.out], hbl⟩
  | some ns =>
    have HN : Hid (atP l p = atN l rootS ns) := by (show _ = _); unfold atP; rw [hpl]
    have hnl : ns.length ≤ 100000 := by have := (plainB_yes hpl).2.2; rw [← this]; omega
    rw [hpl] at hst
    obtain ⟨an, cn, rfl, _, HA0⟩ := hst
    simp only [Option.getD_some] at HA0
    have HA := Lib.hid HA0
    clear HA0 hpl hct
    have hS := alloc_below w1 (.cells (spC rootS) 37)
    have bS := Blk.new w1 37 (spC rootS)
    have hB2 := hB1.trans (hS.mono hB1.size)
    have bF2 := bF.next hS
    have bR2 := bR.next hS
    have HAL : Hid (Below w1.heap.size w1 (w1.alloc (.cells (spC rootS) 37))) := hS
    clear bF bR
    go_wp2
    go_loopw [9] (fun s9 wr => ∃ (k : Nat) (s : Sp), k ≤ ns.length ∧ s9 = .int .i64 k ∧ Aside (atN l s (ns.drop k) = atN l rootS ns) ∧ Below w.heap.size w wr ∧ Below w1.heap.size w1 wr ∧ Aside (Blk wr w.heap.size 24 (fsC mi mb nx (.slice a l.length ca))) ∧ Aside (Blk wr (w.heap.size + 1) 37 (spC zeroS)) ∧ Aside (Blk wr w1.heap.size 37 (spC s))) (fun s9 _ => ns.length - (intOf s9).toNat)
    case atStart => exact ⟨0, rootS, Nat.zero_le _, rfl, rfl, hB2, hS, bF2, bR2, bS⟩
    case round =>
      clear hB2 hS bF2 bR2 bS hB1
      obtain ⟨k, s, hk, rfl, HT, hbw, hbw1, HF, HR, HS⟩ := hrel
      obtain ⟨⟨p0, p1, p2, p3⟩, _⟩ := HF.out.four
      obtain ⟨⟨r0, r1, r2⟩, e0, e1, e2⟩ := HR.out.three
      obtain ⟨⟨s0, s1, s2⟩, _⟩ := HS.out.three
      by_cases hlt : k < ns.length
      · obtain ⟨b, o, rfl, hb, hcl⟩ := HA.out (by omega)
        have c0 := (hbw1.cell (p := ⟨b, o + k, none⟩) hb).trans (hcl k hlt)
        clear hcl
        have hdrop : ns.drop k = ns[k] :: ns.drop (k + 1) := List.drop_eq_getElem_cons hlt
        have hT := HT.out
        rw [hdrop] at hT
        clear HT hdrop
        obtain ⟨sd, sn, si⟩ := s
        dsimp only at s0 s1 s2
        by_cases h0 : si = 0
        · subst h0
          rw [at_gone rfl] at hT
          have HN2 : Hid (atP l p = (zeroS, 1)) := by (show _ = _); rw [HN.out, ← hT]
          obtain ⟨W', hW', hb3, hg3⟩ := HR.out.put3 (.int .i64 0) (.string ⟨#[]⟩) (.int .i64 0)
          have hbl := below_grown hbw hg3 (Nat.le_refl _) (by omega)
          clear hT
          go_wp2
          obtain ⟨⟨x0, x1, x2⟩, _⟩ := hb3.three
          refine bodyPost_ret (v := .tuple #[.agg #[.int .i64 0, .string ⟨#[]⟩, .int .i64 0], .int .i64 1]) (by simp [results, Tryz.f87, go_sem, x0, x1, x2]) rfl ?_
          exact ⟨by rw [HN2.out], hbl⟩
        · have hG := refGetT_any mi mb nx si l _ wr (HV.out.below hbw)
          have hEG := get_ents (HV.out.below hbw).all si
          have hon : (getN l si).kind = 2 → atN l (stepS l si ns[k]) (ns.drop (k + 1)) = atN l rootS ns := fun h => by rw [← hT, at_on h0 h]
          have hfile : (getN l si).kind ≠ 2 → atP l p = (zeroS, 3) := fun h => by rw [HN.out, ← hT, at_file h0 h]
          unfold stepS at hon
          obtain ⟨ag, ng, cg, hgs⟩ := get_slice HV.out si
          clear hT
          generalize ns[k] = n at *
          generalize getN l si = G at *
          generalize hasN l si = r at *
          obtain ⟨gi, gk, gl, gd, gp, ge, gn⟩ := G
          dsimp only at hgs hEG hon hfile
          subst hgs
          have HON := Lib.hid hon
          have HFI := Lib.hid hfile
          clear hon hfile
          go_wp2_with fail
          refine hG.mono ?_
          rintro e w2 ⟨rfl, b2⟩
          clear hG p0 p1 p2 p3 r0 r1 r2 e0 e1 e2 s0 s1 s2
          have b3 := alloc_below w2 (.cells (ndC ⟨gi, gk, gl, gd, gp, .slice ag ng cg, gn⟩) 45)
          have b4 := b2.trans (b3.mono b2.size)
          have hb4 := hbw.trans (b4.mono hbw.size)
          have hb41 := hbw1.trans (b4.mono hbw1.size)
          have HF4 := Lib.hid (HF.out.next b4)
          have HR4 := Lib.hid (HR.out.next b4)
          have HS4 := Lib.hid (HS.out.next b4)
          obtain ⟨⟨r0, r1, r2⟩, e0, e1, e2⟩ := HR4.out.three
          replace hEG := (hEG.below b2).below b3
          have c1 := (b4.cell (p := ⟨b, o + k, none⟩) (Nat.lt_of_lt_of_le hb hbw1.size)).trans c0
          clear b3 c0
          have X := Blk.new w2 45 (ndC ⟨gi, gk, gl, gd, gp, .slice ag ng cg, gn⟩)
          by_cases hk2 : gk = 2
          · subst hk2
            have HT2 := Lib.hid (HON.out rfl)
            clear HON HFI
            go_upto_region 13 with fail
            generalize w2.alloc (.cells (ndC ⟨gi, 2, gl, gd, gp, .slice ag ng cg, gn⟩) 45) = w3 at *
            obtain ⟨⟨x0, x1, x2, x3, x4, x5⟩, _⟩ := X.six
            dsimp only at x0 x1 x2 x3 x4 x5
            have k0 : (0 : Int) ≤ (k : Int) := by omega
            have k1 : (k : Int) < (ns.length : Int) := by omega
            have hEQ : ∀ q, Ents (w3.drewN q) (.slice ag ng cg) gn := fun q => hEG.below (below_drewN (Below.refl _ _) q)
            go_quiet ((go_at_call 62; exact Calls.quiet_of_same ((refFind_any gn n _ _ (hEQ _)).mono fun _ _ h => ⟨h.1, h.2.symm⟩)))
            clear hEQ
            generalize hwd : w3.drewN _ = wd at *
            have hbd : Below w3.heap.size w3 wd := by rw [← hwd]; exact below_drewN (Below.refl _ _) _
            clear hwd x0 x1 x2 x3 x4 x5 r0 r1 r2 e0 e1 e2
            have c2 := (hbd.cell (p := ⟨b, o + k, none⟩) (Nat.lt_of_lt_of_le hb hb41.size)).trans c1
            have hS5 := HS4.out.next hbd
            have X5 := X.next hbd
            obtain ⟨⟨x0, x1, x2, x3, x4, x5⟩, _⟩ := X5.six
            dsimp only at x0 x1 x2 x3 x4 x5
            obtain ⟨⟨s0, s1, s2⟩, f0, f1, f2⟩ := hS5.three
            dsimp only at s0 s1 s2
            have b5 := b4.trans (hbd.mono b4.size)
            go_upto_region 14 with fail
            go_still_tail 8, (by kernel_rfl)
            change wpList _ _ _ _ _ wd.drew
            have hbd6 : Below wd.heap.size wd wd.drew := (Below.refl _ _).drew
            have hS6 := hS5.next hbd6
            generalize wd.drew = we at *
            obtain ⟨⟨s0', s1', s2'⟩, f0', f1', f2'⟩ := hS6.three
            dsimp only at s0' s1' s2'
            obtain ⟨W', hW', hb3', hg3'⟩ := hS6.put3 (.int .i64 gi) (.string ⟨n.toArray⟩) (.int .i64 (numB gn n))
            have b6 := b5.trans (hbd6.mono b5.size)
            have hbw6 := hbw.trans (b6.mono hbw.size)
            have hbw61 := hbw1.trans (b6.mono hbw1.size)
            have hblA := below_grown hbw6 hg3' (Nat.le_refl _) (by have := hb41.size; omega)
            have hblB := below_grown hbw61 hg3' (Nat.le_refl _) (Nat.le_refl _)
            have HF6 := Lib.hid (((HF4.out.next hbd).next hbd6).kept hg3' (by simp; omega))
            have HR6 := Lib.hid (((HR4.out.next hbd).next hbd6).kept hg3' (by simp; omega))
            go_wp2
            go_roundw
            case rel => exact ⟨k + 1, ⟨gi, n, numB gn n⟩, by omega, by go_num, HT2.out, hblA, hblB, HF6.out, HR6.out, hb3'⟩
            case measure => simp [intOf]; omega
          · have HN2 := Lib.hid (HFI.out hk2)
            obtain ⟨W', hW', hb3, hg3⟩ := HR4.out.put3 (.int .i64 0) (.string ⟨#[]⟩) (.int .i64 0)
            have hbl := below_grown hb4 hg3 (Nat.le_refl _) (by omega)
            clear HON HFI
            go_wp2
            obtain ⟨⟨x0, x1, x2⟩, _⟩ := hb3.three
            refine bodyPost_ret (v := .tuple #[.agg #[.int .i64 0, .string ⟨#[]⟩, .int .i64 0], .int .i64 3]) (by simp [results, Tryz.f87, go_sem, x0, x1, x2]) rfl ?_
            exact ⟨by rw [HN2.out], hbl⟩
      · obtain rfl : k = ns.length := by omega
        have HN2 : Hid (atP l p = (s, 0)) := by (show _ = _); rw [HN.out, ← HT.out, List.drop_length]; rfl
        obtain ⟨sd, sn, si⟩ := s
        dsimp only at s0 s1 s2
        obtain ⟨W', hW', hb3, hg3⟩ := HR.out.put3 (.int .i64 sd) (.string ⟨sn.toArray⟩) (.int .i64 si)
        have hbl := below_grown hbw hg3 (Nat.le_refl _) (by omega)
        go_wp2
        obtain ⟨⟨x0, x1, x2⟩, _⟩ := hb3.three
        refine bodyPost_ret (v := .tuple #[.agg #[.int .i64 sd, .string ⟨sn.toArray⟩, .int .i64 si], .int .i64 0]) (by simp [results, Tryz.f87, go_sem, x0, x1, x2]) rfl ?_
        exact ⟨by rw [HN2.out], hbl⟩
end Go.Proofs.YtobepdmpacdakaaGreat
