/- Texts put together: WalkC07, WalkA09, WalkB09, WalkA10, WalkA08, WalkB10, WalkC10, WalkC09, WalkA12, WalkP09, WalkQ09, WalkF10, WalkG10, Pure10d, Concat10, WalkR09, WalkD07. -/
import Derived.Test.YtkdmfeikikmiiaaGreatVWalkB07
import Derived.Deep.RegionHeld3
import Derived.Deep.Cut
import Derived.Deep.CutRange
import Derived.Test.YtkdmfeikikmiiaaGreatVMPure09
import Derived.Test.YtkdmfeikikmiiaaGreatVMWalkF03
import Derived.Test.YtkdmfeikikmiiaaGreatVMWalkB03
import Derived.StillTailTactics
import Derived.Test.YtkdmfeikikmiiaaGreatVMList11
import Derived.Test.YtkdmfeikikmiiaaGreatVWalkE05
import Derived.Test.YtkdmfeikikmiiaaGreatVMWalkK05
import Derived.Test.YtkdmfeikikmiiaaGreatVMWalkB05
import Derived.Test.YtkdmfeikikmiiaaGreatVMSure14
import Derived.RegionTactic
import Derived.ChangeAlike
set_option linter.unusedVariables false
set_option linter.unusedSimpArgs false
namespace Go.Proofs.YtkdmfeikikmiiaaGreat
open Go.RowKit
theorem get_slice {w : World} {v : Value} {l : List Nd} (h : Nds w v l) (i : Int) : ∃ a n c, (getN l i).ev = .slice a n c := by
  obtain ⟨a, c, e, _⟩ := get_ents h.all i
  exact ⟨_, _, _, e⟩
set_option maxHeartbeats 8000000 in
set_option maxRecDepth 100000 in
theorem refThird_any (mi mb nx : Int) (l : List Nd) (v : Value) (w : World) (hv : Nds w v l) (hl : l.length ≤ 1000000) :
    Calls Tryz.prog 22 #[.agg (fsC mi mb nx v)] w fun e w' => e = .returned (.bool (thirdB l)) ∧ Below w.heap.size w w' := by
  obtain ⟨a, ca, rfl, hc, hm, hea, hna, HA0⟩ := id hv
  unfold maxLen at hm
  have HA := Lib.hid HA0
  have HV := Lib.hid hv
  clear HA0 hea hv
  have b0 := Blk.new w 28 (fsC mi mb nx (.slice a l.length ca))
  have hB0 := alloc_below w (.cells (fsC mi mb nx (.slice a l.length ca)) 28)
  go_enter Tryz.func22, Tryz.ntmps22
  go_wp2
  go_loopw [3] (fun s3 wr => ∃ k : Nat, k ≤ l.length ∧ s3 = .int .i64 k ∧ Aside ((l.take k).all (thirdX l) = true) ∧ Below w.heap.size w wr ∧ Aside (Blk wr w.heap.size 28 (fsC mi mb nx (.slice a l.length ca)))) (fun s3 _ => l.length - (intOf s3).toNat)
  case atStart => exact ⟨0, Nat.zero_le _, rfl, by (show _ = _); simp, hB0, b0⟩
  case round =>
    clear b0 hB0
    obtain ⟨k, hk, rfl, HT, hbw, HB⟩ := hrel
    have p3 := HB.out.four.1.2.2.2
    by_cases hlt : k < l.length
    · obtain ⟨b, o, rfl, hb, hcl⟩ := HA.out (by omega)
      have HCL := Lib.hid (hcl k hlt)
      clear hcl
      have hno : thirdX l l[k] = false → thirdB l = false := all_no hlt
      have hye : thirdX l l[k] = true → (l.take (k + 1)).all (thirdX l) = true := allT_next hlt HT.out
      have hE := HV.out.all _ (List.getElem_mem hlt)
      generalize l[k] = y at *
      have HNO := Lib.hid hno
      have HYE := Lib.hid hye
      clear hno hye HT
      obtain ⟨yi, yk, yl, yd, yp, ye, yn⟩ := y
      dsimp only at hE
      obtain ⟨ae, ne, rfl, hE1, hE2, hE3⟩ := id hE
      unfold maxLen at hE2
      have HE := Lib.hid hE3
      clear hE3 hE
      have k0 : (0 : Int) ≤ (k : Int) := by omega
      have k1 : (k : Int) < (l.length : Int) := by omega
      go_wp2
      go_loopw [4] (fun s4 wr => ∃ m : Nat, m ≤ yn.length ∧ s4 = .int .i64 m ∧ Aside ((yn.take m).all (fun e => hasN l e.2) = true) ∧ Below w.heap.size w wr ∧ Aside (Blk wr w.heap.size 28 (fsC mi mb nx (.slice (some ⟨b, o, none⟩) l.length ca)))) (fun s4 _ => yn.length - (intOf s4).toNat)
      case atStart => exact ⟨0, Nat.zero_le _, rfl, by (show _ = _); simp, hbw, HB.out⟩
      case round =>
        clear hbw HB p3
        obtain ⟨m, hm2, rfl, HM, hbt, HBt⟩ := hrel
        have p3 := HBt.out.four.1.2.2.2
        obtain ⟨c0, c1, c2, c3, c4, c5⟩ := HCL.out.below hbt hb
        dsimp only at c0 c1 c2 c3 c4 c5
        by_cases hmlt : m < yn.length
        · obtain ⟨be, oe, rfl, hbe, hce⟩ := HE.out (by omega)
          have hd1 := (hce m hmlt).2
          clear hce
          have m0 : (0 : Int) ≤ (m : Int) := by omega
          have m1 : (m : Int) < (yn.length : Int) := by omega
          have HD := Lib.hid hd1
          have hno2 : hasN l yn[m].2 = false → thirdB l = false := fun h => HNO.out (all_no (p := fun e : Ent => hasN l e.2) hmlt h)
          have hye2 : hasN l yn[m].2 = true → (yn.take (m + 1)).all (fun e => hasN l e.2) = true := allT_next (p := fun e : Ent => hasN l e.2) hmlt HM.out
          generalize yn[m].2 = z at *
          have HNO2 := Lib.hid hno2
          have HYE2 := Lib.hid hye2
          clear hno2 hye2 hd1 HM
          have hdr : Below wr.heap.size wr wr.drew := (Below.refl _ _).drew
          have hdr2 : Below wr.heap.size wr (wr.alloc (.cells #[.int .i64 0, .int .i64 0, .int .i64 0, .string ⟨#[]⟩, .int .i64 0, .slice none 0 0] 49)).drew := (alloc_below wr _).drew
          have hGc : ∀ W, Below wr.heap.size wr W → Calls Tryz.prog 47 #[.agg (fsC mi mb nx (.slice (some ⟨b, o, none⟩) l.length ca)), .int .i64 z] W fun e w' => e = .returned (.tuple #[.agg (ndC (getN l z)), .bool (hasN l z)]) ∧ Below W.heap.size W w' :=
            fun W hW => refGetT_any mi mb nx z l _ _ (HV.out.below (hbt.trans (hW.mono hbt.size)))
          have HMK : ∀ W, Below wr.heap.size wr W → (W.cell? ⟨w.heap.size, 0, none⟩ = some (.int .i64 mi) ∧ W.cell? ⟨w.heap.size, 1, none⟩ = some (.int .i64 mb) ∧ W.cell? ⟨w.heap.size, 2, none⟩ = some (.int .i64 nx) ∧ W.cell? ⟨w.heap.size, 3, none⟩ = some (.slice (some ⟨b, o, none⟩) l.length ca) ∧
              W.cell? ⟨b, o + k * 6 + 5, none⟩ = some (.slice (some ⟨be, oe, none⟩) yn.length ne) ∧ W.cell? ⟨be, oe + m * 2 + 1, none⟩ = some (.int .i64 z)) := by
            intro W h
            obtain ⟨⟨x0, x1, x2, x3⟩, _⟩ := (HBt.out.next h).four
            have h2 := hbt.trans (h.mono hbt.size)
            exact ⟨x0, x1, x2, x3, (HCL.out.below h2 hb).2.2.2.2.2, (h2.cell (p := ⟨be, oe + m * 2 + 1, none⟩) hbe).trans HD.out⟩
          obtain ⟨ag, ng, cg, hgs⟩ := get_slice HV.out z
          generalize getN l z = G at *
          obtain ⟨gi, gk, gl, gd, gp, ge, gn⟩ := G
          dsimp only at hgs
          subst hgs
          generalize hr : hasN l z = r at *
          have hG1 := hGc _ hdr
          have hG2 := hGc _ hdr2
          have hG3 := hGc (wr.drew.alloc (.cells #[.int .i64 0, .int .i64 0, .int .i64 0, .string ⟨#[]⟩, .int .i64 0, .slice none 0 0] 49)) (hdr.alloc hdr.size _)
          have hq := hdr
          clear c0 c1 c2 c3 c4 hr
          go_upto_region 7 with fail
          go_cut [5, 6] from 25 to 41 (fun s5 s6 wc => s6 = .bool r ∧ Below wr.heap.size wr wc)
          case first =>
            clear p3 c5
            go_region_held3 (fun W => W.cell? ⟨w.heap.size, 0, none⟩ = some (.int .i64 mi) ∧ W.cell? ⟨w.heap.size, 1, none⟩ = some (.int .i64 mb) ∧ W.cell? ⟨w.heap.size, 2, none⟩ = some (.int .i64 nx) ∧ W.cell? ⟨w.heap.size, 3, none⟩ = some (.slice (some ⟨b, o, none⟩) l.length ca) ∧
              W.cell? ⟨b, o + k * 6 + 5, none⟩ = some (.slice (some ⟨be, oe, none⟩) yn.length ne) ∧ W.cell? ⟨be, oe + m * 2 + 1, none⟩ = some (.int .i64 z))
              (first | with_reducible exact HMK _ hq | with_reducible exact HMK _ (hq.alloc hq.size _) | with_reducible exact HMK _ hdr2 | with_reducible exact HMK _ (below_grown hq hgW (Nat.le_refl _) (Nat.le_refl _)))
              (first
                | (go_at_call 47; with_reducible refine hG1.mono ?_; rintro e w6 ⟨rfl, b6⟩; have hq := hq.trans (b6.mono hq.size))
                | (go_at_call 47; (first | with_reducible refine hG3.mono ?_ | with_reducible refine hG2.mono ?_); rintro e w6 ⟨rfl, b6⟩; have hbx : Blk w6 wr.heap.size 49 (ndC zeroN) := Blk.next (W := wr.drew.alloc (.cells #[.int .i64 0, .int .i64 0, .int .i64 0, .string ⟨#[]⟩, .int .i64 0, .slice none 0 0] 49)) (Blk.new wr.drew 49 (ndC zeroN)) b6; have hq := (hq.alloc hq.size (.cells #[.int .i64 0, .int .i64 0, .int .i64 0, .string ⟨#[]⟩, .int .i64 0, .slice none 0 0] 49)).trans (b6.mono (hq.alloc hq.size (.cells #[.int .i64 0, .int .i64 0, .int .i64 0, .string ⟨#[]⟩, .int .i64 0, .slice none 0 0] 49)).size); obtain ⟨⟨x0, x1, x2, x3, x4, x5⟩, f0, f1, f2, f3, f4, f5⟩ := hbx.six; simp only [zeroN] at x0 x1 x2 x3 x4 x5; obtain ⟨W', hW', hbW, hgW⟩ := hbx.put6 ⟨gi, gk, gl, gd, gp, .slice ag ng cg, gn⟩; dsimp only at hW'))
            all_goals (go_wp2_with fail; go_meet)
            all_goals first
              | exact ⟨rfl, hq.alloc hq.size _⟩
              | exact ⟨rfl, below_grown hq hgW (Nat.le_refl _) (Nat.le_refl _)⟩
          case rest =>
            obtain ⟨rfl, hbc⟩ := hcut
            have hbt2 := hbt.trans (hbc.mono hbt.size)
            have HB2 := HBt.out.next hbc
            cases r
            · have HN := Lib.hid (HNO2.out rfl)
              clear hGc hG1 hG2 hG3 HMK
              go_wp2
              go_ret
              exact ⟨ret_bool (by rw [HN.out]), hbt2⟩
            · have HM2 := Lib.hid (HYE2.out rfl)
              clear hGc hG1 hG2 hG3 HMK
              go_wp2
              go_roundw
              case rel => exact ⟨m + 1, by omega, by go_num, HM2.out, hbt2, HB2⟩
              case measure => simp [intOf]; omega
        · obtain rfl : m = yn.length := by omega
          have HT2 := Lib.hid (HYE.out (allT_end HM.out))
          clear HNO HYE
          go_wp2
          go_roundw
          case rel => exact ⟨k + 1, by omega, by go_num, HT2.out, hbt, HBt.out⟩
          case measure => simp [intOf]; omega
    · obtain rfl : k = l.length := by omega
      have HN : Hid (thirdB l = true) := allT_end HT.out
      go_wp2
      go_ret
      exact ⟨ret_bool (by rw [HN.out]), hbw⟩
abbrev spC (s : Sp) : Array Value := #[.int .i64 s.dir, .string ⟨s.name.toArray⟩, .int .i64 s.ino]
/-- A block of three cells: what a walk asks of it. -/
theorem Blk.three {W : World} {B : Nat} {t : TypeId} {a b c : Value} (h : Blk W B t #[a, b, c]) :
    (W.cell? ⟨B, 0, none⟩ = some a ∧ W.cell? ⟨B, 1, none⟩ = some b ∧ W.cell? ⟨B, 2, none⟩ = some c) ∧
      (W.frozen? ⟨B, 0, none⟩ = false ∧ W.frozen? ⟨B, 1, none⟩ = false ∧ W.frozen? ⟨B, 2, none⟩ = false) :=
  ⟨⟨(h.cell 0).trans rfl, (h.cell 1).trans rfl, (h.cell 2).trans rfl⟩, h.frozen 0, h.frozen 1, h.frozen 2⟩
/-- A struct of three cells stored whole. -/
theorem Blk.put3 {W : World} {B : Nat} {t : TypeId} {a b c : Value} (h : Blk W B t #[a, b, c]) (p q r : Value) :
    ∃ W', ((W.setCell ⟨B, 0, none⟩ p).setCell ⟨B, 1, none⟩ q).setCell ⟨B, 2, none⟩ r = W' ∧ Blk W' B t #[p, q, r] ∧ W.grownBy W' (some B) := by
  refine ⟨_, rfl, ?_, ?_⟩
  · exact ((h.set 0 p).set 1 q).set 2 r
  · exact ((grownBy_set W B 0 p).trans (grownBy_set _ B 1 q)).trans (grownBy_set _ B 2 r)
set_option maxHeartbeats 8000000 in
set_option maxRecDepth 100000 in
theorem refAt_any (mi mb nx : Int) (l : List Nd) (p : List UInt8) (v : Value) (w : World) (hv : Nds w v l) (hp : p.length ≤ 100000) :
    Calls Tryz.prog 131 #[.agg (fsC mi mb nx v), .string ⟨p.toArray⟩] w fun e w' => e = .returned (.tuple #[.agg (spC (atP l p).1), .int .i64 (atP l p).2]) ∧ Below w.heap.size w w' := by
  obtain ⟨a, ca, rfl⟩ := nds_slice hv
  have HV := Lib.hid hv
  have bF := (Blk.new w 28 (fsC mi mb nx (.slice a l.length ca))).alloc (.cells (spC zeroS) 81)
  have bR := Blk.new (w.alloc (.cells (fsC mi mb nx (.slice a l.length ca)) 28)) 81 (spC zeroS)
  have hB0 : Below w.heap.size w ((w.alloc (.cells (fsC mi mb nx (.slice a l.length ca)) 28)).alloc (.cells (spC zeroS) 81)) := ((Below.refl _ w).alloc (Nat.le_refl _) _).alloc (by simp) _
  simp only [World.size_alloc] at bR
  have hct := namesB_count p
  clear hv
  go_enter Tryz.func131, Tryz.ntmps131
  go_wp2_with fail
  refine (refPlain_any p _ hp).mono ?_
  rintro e w1 ⟨vn, rfl, hst, b1⟩
  replace bF := bF.next b1
  replace bR := bR.next b1
  have hB1 := hB0.trans (b1.mono hB0.size)
  have hl1 : w.heap.size + 2 ≤ w1.heap.size := by have := b1.size; simp at this; omega
  clear hB0 b1
  cases hpl : plainB p with
  | none =>
    have HN : Hid (atP l p = (zeroS, 9)) := by (show _ = _); unfold atP; rw [hpl]
    rw [hpl] at hst
    obtain ⟨an, cn, rfl, _⟩ := hst
    obtain ⟨⟨r0, r1, r2⟩, e0, e1, e2⟩ := bR.three
    obtain ⟨W', hW', hb3, hg3⟩ := bR.put3 (.int .i64 0) (.string ⟨#[]⟩) (.int .i64 0)
    have hbl := below_grown hB1 hg3 (Nat.le_refl _) (by omega)
    go_wp2
    obtain ⟨⟨x0, x1, x2⟩, _⟩ := hb3.three
    refine bodyPost_ret (v := .tuple #[.agg #[.int .i64 0, .string ⟨#[]⟩, .int .i64 0], .int .i64 9]) (by simp [results, Tryz.f131, go_sem, x0, x1, x2]) rfl ?_
    exact ⟨by rw [HN.out], hbl⟩
  | some ns =>
    have HN : Hid (atP l p = atN l rootS ns) := by (show _ = _); unfold atP; rw [hpl]
    have hnl : ns.length ≤ 100000 := by have := (plainB_yes hpl).2.2; rw [← this]; omega
    rw [hpl] at hst
    obtain ⟨an, cn, rfl, _, HA0⟩ := hst
    simp only [Option.getD_some] at HA0
    have HA := Lib.hid HA0
    clear HA0 hpl hct
    have hS := alloc_below w1 (.cells (spC rootS) 81)
    have bS := Blk.new w1 81 (spC rootS)
    have hB2 := hB1.trans (hS.mono hB1.size)
    have bF2 := bF.next hS
    have bR2 := bR.next hS
    have HAL : Hid (Below w1.heap.size w1 (w1.alloc (.cells (spC rootS) 81))) := hS
    clear bF bR
    go_wp2
    go_loopw [9] (fun s9 wr => ∃ (k : Nat) (s : Sp), k ≤ ns.length ∧ s9 = .int .i64 k ∧ Aside (atN l s (ns.drop k) = atN l rootS ns) ∧ Below w.heap.size w wr ∧ Below w1.heap.size w1 wr ∧ Aside (Blk wr w.heap.size 28 (fsC mi mb nx (.slice a l.length ca))) ∧ Aside (Blk wr (w.heap.size + 1) 81 (spC zeroS)) ∧ Aside (Blk wr w1.heap.size 81 (spC s))) (fun s9 _ => ns.length - (intOf s9).toNat)
    case atStart => exact ⟨0, rootS, Nat.zero_le _, rfl, rfl, hB2, hS, bF2, bR2, bS⟩
    case round =>
      clear hB2 hS bF2 bR2 bS hB1
      obtain ⟨k, s, hk, rfl, HT, hbw, hbw1, HF, HR, HS⟩ := hrel
      obtain ⟨⟨p0, p1, p2, p3⟩, _⟩ := HF.out.four
      obtain ⟨⟨r0, r1, r2⟩, e0, e1, e2⟩ := HR.out.three
      obtain ⟨⟨s0, s1, s2⟩, _⟩ := HS.out.three
      by_cases hlt : k < ns.length
      · obtain ⟨b, o, rfl, hb, hcl⟩ := HA.out (by omega)
        have c0 := (hbw1.cell (p := ⟨b, o + k, none⟩) hb).trans (hcl k hlt)
        clear hcl
        have hdrop : ns.drop k = ns[k] :: ns.drop (k + 1) := List.drop_eq_getElem_cons hlt
        have hT := HT.out
        rw [hdrop] at hT
        clear HT hdrop
        obtain ⟨sd, sn, si⟩ := s
        dsimp only at s0 s1 s2
        by_cases h0 : si = 0
        · subst h0
          rw [at_gone rfl] at hT
          have HN2 : Hid (atP l p = (zeroS, 1)) := by (show _ = _); rw [HN.out, ← hT]
          obtain ⟨W', hW', hb3, hg3⟩ := HR.out.put3 (.int .i64 0) (.string ⟨#[]⟩) (.int .i64 0)
          have hbl := below_grown hbw hg3 (Nat.le_refl _) (by omega)
          clear hT
          go_wp2
          obtain ⟨⟨x0, x1, x2⟩, _⟩ := hb3.three
          refine bodyPost_ret (v := .tuple #[.agg #[.int .i64 0, .string ⟨#[]⟩, .int .i64 0], .int .i64 1]) (by simp [results, Tryz.f131, go_sem, x0, x1, x2]) rfl ?_
          exact ⟨by rw [HN2.out], hbl⟩
        · have hG := refGetT_any mi mb nx si l _ wr (HV.out.below hbw)
          have hEG := get_ents (HV.out.below hbw).all si
          have hon : (getN l si).kind = 2 → atN l (stepS l si ns[k]) (ns.drop (k + 1)) = atN l rootS ns := fun h => by rw [← hT, at_on h0 h]
          have hfile : (getN l si).kind ≠ 2 → atP l p = (zeroS, 3) := fun h => by rw [HN.out, ← hT, at_file h0 h]
          unfold stepS at hon
          obtain ⟨ag, ng, cg, hgs⟩ := get_slice HV.out si
          clear hT
          generalize ns[k] = n at *
          generalize getN l si = G at *
          generalize hasN l si = r at *
          obtain ⟨gi, gk, gl, gd, gp, ge, gn⟩ := G
          dsimp only at hgs hEG hon hfile
          subst hgs
          have HON := Lib.hid hon
          have HFI := Lib.hid hfile
          clear hon hfile
          go_wp2_with fail
          refine hG.mono ?_
          rintro e w2 ⟨rfl, b2⟩
          clear hG p0 p1 p2 p3 r0 r1 r2 e0 e1 e2 s0 s1 s2
          have b3 := alloc_below w2 (.cells (ndC ⟨gi, gk, gl, gd, gp, .slice ag ng cg, gn⟩) 49)
          have b4 := b2.trans (b3.mono b2.size)
          have hb4 := hbw.trans (b4.mono hbw.size)
          have hb41 := hbw1.trans (b4.mono hbw1.size)
          have HF4 := Lib.hid (HF.out.next b4)
          have HR4 := Lib.hid (HR.out.next b4)
          have HS4 := Lib.hid (HS.out.next b4)
          obtain ⟨⟨r0, r1, r2⟩, e0, e1, e2⟩ := HR4.out.three
          replace hEG := (hEG.below b2).below b3
          have c1 := (b4.cell (p := ⟨b, o + k, none⟩) (Nat.lt_of_lt_of_le hb hbw1.size)).trans c0
          clear b3 c0
          have X := Blk.new w2 49 (ndC ⟨gi, gk, gl, gd, gp, .slice ag ng cg, gn⟩)
          by_cases hk2 : gk = 2
          · subst hk2
            have HT2 := Lib.hid (HON.out rfl)
            clear HON HFI
            go_upto_region 13 with fail
            generalize w2.alloc (.cells (ndC ⟨gi, 2, gl, gd, gp, .slice ag ng cg, gn⟩) 49) = w3 at *
            obtain ⟨⟨x0, x1, x2, x3, x4, x5⟩, _⟩ := X.six
            dsimp only at x0 x1 x2 x3 x4 x5
            have k0 : (0 : Int) ≤ (k : Int) := by omega
            have k1 : (k : Int) < (ns.length : Int) := by omega
            have hEQ : ∀ q, Ents (w3.drewN q) (.slice ag ng cg) gn := fun q => hEG.below (below_drewN (Below.refl _ _) q)
            go_quiet ((go_at_call 111; exact Calls.quiet_of_same ((refFind_any gn n _ _ (hEQ _)).mono fun _ _ h => ⟨h.1, h.2.symm⟩)))
            clear hEQ
            generalize hwd : w3.drewN _ = wd at *
            have hbd : Below w3.heap.size w3 wd := by rw [← hwd]; exact below_drewN (Below.refl _ _) _
            clear hwd x0 x1 x2 x3 x4 x5 r0 r1 r2 e0 e1 e2
            have c2 := (hbd.cell (p := ⟨b, o + k, none⟩) (Nat.lt_of_lt_of_le hb hb41.size)).trans c1
            have hS5 := HS4.out.next hbd
            have X5 := X.next hbd
            obtain ⟨⟨x0, x1, x2, x3, x4, x5⟩, _⟩ := X5.six
            dsimp only at x0 x1 x2 x3 x4 x5
            obtain ⟨⟨s0, s1, s2⟩, f0, f1, f2⟩ := hS5.three
            dsimp only at s0 s1 s2
            have b5 := b4.trans (hbd.mono b4.size)
            go_upto_region 14 with fail
            go_still_tail 8, (by kernel_rfl)
            change wpList _ _ _ _ _ wd.drew
            have hbd6 : Below wd.heap.size wd wd.drew := (Below.refl _ _).drew
            have hS6 := hS5.next hbd6
            generalize wd.drew = we at *
            obtain ⟨⟨s0', s1', s2'⟩, f0', f1', f2'⟩ := hS6.three
            dsimp only at s0' s1' s2'
            obtain ⟨W', hW', hb3', hg3'⟩ := hS6.put3 (.int .i64 gi) (.string ⟨n.toArray⟩) (.int .i64 (numB gn n))
            have b6 := b5.trans (hbd6.mono b5.size)
            have hbw6 := hbw.trans (b6.mono hbw.size)
            have hbw61 := hbw1.trans (b6.mono hbw1.size)
            have hblA := below_grown hbw6 hg3' (Nat.le_refl _) (by have := hb41.size; omega)
            have hblB := below_grown hbw61 hg3' (Nat.le_refl _) (Nat.le_refl _)
            have HF6 := Lib.hid (((HF4.out.next hbd).next hbd6).kept hg3' (by simp; omega))
            have HR6 := Lib.hid (((HR4.out.next hbd).next hbd6).kept hg3' (by simp; omega))
            go_wp2
            go_roundw
            case rel => exact ⟨k + 1, ⟨gi, n, numB gn n⟩, by omega, by go_num, HT2.out, hblA, hblB, HF6.out, HR6.out, hb3'⟩
            case measure => simp [intOf]; omega
          · have HN2 := Lib.hid (HFI.out hk2)
            obtain ⟨W', hW', hb3, hg3⟩ := HR4.out.put3 (.int .i64 0) (.string ⟨#[]⟩) (.int .i64 0)
            have hbl := below_grown hb4 hg3 (Nat.le_refl _) (by omega)
            clear HON HFI
            go_wp2
            obtain ⟨⟨x0, x1, x2⟩, _⟩ := hb3.three
            refine bodyPost_ret (v := .tuple #[.agg #[.int .i64 0, .string ⟨#[]⟩, .int .i64 0], .int .i64 3]) (by simp [results, Tryz.f131, go_sem, x0, x1, x2]) rfl ?_
            exact ⟨by rw [HN2.out], hbl⟩
      · obtain rfl : k = ns.length := by omega
        have HN2 : Hid (atP l p = (s, 0)) := by (show _ = _); rw [HN.out, ← HT.out, List.drop_length]; rfl
        obtain ⟨sd, sn, si⟩ := s
        dsimp only at s0 s1 s2
        obtain ⟨W', hW', hb3, hg3⟩ := HR.out.put3 (.int .i64 sd) (.string ⟨sn.toArray⟩) (.int .i64 si)
        have hbl := below_grown hbw hg3 (Nat.le_refl _) (by omega)
        go_wp2
        obtain ⟨⟨x0, x1, x2⟩, _⟩ := hb3.three
        refine bodyPost_ret (v := .tuple #[.agg #[.int .i64 sd, .string ⟨sn.toArray⟩, .int .i64 si], .int .i64 0]) (by simp [results, Tryz.f131, go_sem, x0, x1, x2]) rfl ?_
        exact ⟨by rw [HN2.out], hbl⟩
theorem getP_err {l : List Nd} {p : List UInt8} (h : (atP l p).2 ≠ 0) : getP l p = (zeroN, (atP l p).2) := by unfold getP; rw [if_pos h]
theorem getP_none {l : List Nd} {p : List UInt8} (h : (atP l p).2 = 0) (h2 : (atP l p).1.ino = 0) : getP l p = (zeroN, 1) := by unfold getP; rw [if_neg (by simp [h]), if_pos h2]
theorem getP_some {l : List Nd} {p : List UInt8} (h : (atP l p).2 = 0) (h2 : (atP l p).1.ino ≠ 0) : getP l p = (getN l (atP l p).1.ino, 0) := by unfold getP; rw [if_neg (by simp [h]), if_neg h2]
theorem get_slice0 {w : World} {v : Value} {l : List Nd} (h : Nds w v l) (p : List UInt8) : ∃ a n c, (getP l p).1.ev = .slice a n c := by
  by_cases h1 : (atP l p).2 = 0
  · by_cases h2 : (atP l p).1.ino = 0
    · rw [getP_none h1 h2]; exact ⟨_, _, _, rfl⟩
    · rw [getP_some h1 h2]; exact get_slice h _
  · rw [getP_err h1]; exact ⟨_, _, _, rfl⟩
set_option maxHeartbeats 4000000 in
theorem refGetP_any (mi mb nx : Int) (l : List Nd) (p : List UInt8) (v : Value) (w : World) (hv : Nds w v l) (hp : p.length ≤ 100000) :
    Calls Tryz.prog 110 #[.agg (fsC mi mb nx v), .string ⟨p.toArray⟩] w fun e w' => e = .returned (.tuple #[.agg (ndC (getP l p).1), .int .i64 (getP l p).2]) ∧ Below w.heap.size w w' := by
  obtain ⟨a, ca, rfl⟩ := nds_slice hv
  have bF := (Blk.new w 28 (fsC mi mb nx (.slice a l.length ca))).alloc (.cells #[.int .i64 0, .int .i64 0, .int .i64 0, .string ⟨#[]⟩, .int .i64 0, .slice none 0 0] 49)
  have bR : Blk ((w.alloc (.cells (fsC mi mb nx (.slice a l.length ca)) 28)).alloc (.cells #[.int .i64 0, .int .i64 0, .int .i64 0, .string ⟨#[]⟩, .int .i64 0, .slice none 0 0] 49)) _ 49 (ndC zeroN) := Blk.new (w.alloc (.cells (fsC mi mb nx (.slice a l.length ca)) 28)) 49 (ndC zeroN)
  have hB0 : Below w.heap.size w ((w.alloc (.cells (fsC mi mb nx (.slice a l.length ca)) 28)).alloc (.cells #[.int .i64 0, .int .i64 0, .int .i64 0, .string ⟨#[]⟩, .int .i64 0, .slice none 0 0] 49)) := ((Below.refl _ w).alloc (Nat.le_refl _) _).alloc (by simp) _
  simp only [World.size_alloc] at bR
  have nV := hv.below hB0
  have hA := refAt_any mi mb nx l p _ _ nV hp
  have h1 := getP_err (l := l) (p := p)
  have h2 := getP_none (l := l) (p := p)
  have h3 := getP_some (l := l) (p := p)
  have HV := Lib.hid hv
  clear hv
  generalize atP l p = q at *
  obtain ⟨⟨sd, sn, si⟩, er⟩ := q
  dsimp only at hA h1 h2 h3
  have H1 := Lib.hid h1
  have H2 := Lib.hid h2
  have H3 := Lib.hid h3
  clear h1 h2 h3
  obtain ⟨⟨p0, p1, p2, p3⟩, _⟩ := bF.four
  go_enter Tryz.func110, Tryz.ntmps110
  go_wp2_with fail
  refine hA.mono ?_
  rintro e w1 ⟨rfl, b1⟩
  clear hA p0 p1 p2 p3
  have b2 := alloc_below w1 (.cells (spC ⟨sd, sn, si⟩) 81)
  have b3 := b1.trans (b2.mono b1.size)
  have hB := hB0.trans (b3.mono hB0.size)
  have bF2 := bF.next b3
  have bR2 := bR.next b3
  have bS := Blk.new w1 81 (spC ⟨sd, sn, si⟩)
  obtain ⟨⟨q0, q1, q2, q3, q4, q5⟩, e0, e1, e2, e3, e4, e5⟩ := bR2.six
  simp only [zeroN] at q0 q1 q2 q3 q4 q5
  clear b1 b2 bF bR nV
  by_cases her : er = 0
  · subst her
    by_cases hsi : si = 0
    · subst hsi
      have HN := Lib.hid (H2.out rfl rfl)
      obtain ⟨W', hW', hb6, hg6⟩ := bR2.put6 zeroN
      have hbl := below_grown hB hg6 (Nat.le_refl _) (by omega)
      simp only [zeroN] at hW'
      clear H1 H2 H3
      go_wp2
      obtain ⟨⟨r0, r1, r2, r3, r4, r5⟩, _⟩ := hb6.six
      refine bodyPost_ret (v := .tuple #[.agg (ndC zeroN), .int .i64 1]) (by simp [results, Tryz.f110, go_sem, r0, r1, r2, r3, r4, r5, zeroN]) rfl ?_
      exact ⟨by rw [HN.out], hbl⟩
    · have HN := Lib.hid (H3.out rfl hsi)
      clear H1 H2 H3
      have hG := refGetT_any mi mb nx si l _ _ (HV.out.below hB)
      obtain ⟨ag, ng, cg, hgs⟩ := get_slice HV.out si
      generalize getN l si = G at *
      generalize hasN l si = r at *
      obtain ⟨gi, gk, gl, gd, gp, ge, gn⟩ := G
      dsimp only at hgs
      subst hgs
      obtain ⟨⟨p0, p1, p2, p3⟩, _⟩ := bF2.four
      obtain ⟨⟨s0, s1, s2⟩, _⟩ := bS.three
      dsimp only at s0 s1 s2
      go_wp2_with fail
      refine hG.mono ?_
      rintro e w4 ⟨rfl, b4⟩
      clear hG p0 p1 p2 p3 s0 s1 s2 q0 q1 q2 q3 q4 q5 e0 e1 e2 e3 e4 e5
      have b5 := alloc_below w4 (.cells (ndC ⟨gi, gk, gl, gd, gp, .slice ag ng cg, gn⟩) 49)
      have b6 := b4.trans (b5.mono b4.size)
      have hB6 := hB.trans (b6.mono hB.size)
      have bR6 := bR2.next b6
      have bX := Blk.new w4 49 (ndC ⟨gi, gk, gl, gd, gp, .slice ag ng cg, gn⟩)
      obtain ⟨⟨x0, x1, x2, x3, x4, x5⟩, _⟩ := bX.six
      dsimp only at x0 x1 x2 x3 x4 x5
      obtain ⟨⟨q0, q1, q2, q3, q4, q5⟩, e0, e1, e2, e3, e4, e5⟩ := bR6.six
      simp only [zeroN] at q0 q1 q2 q3 q4 q5
      obtain ⟨W', hW', hb6, hg6⟩ := bR6.put6 ⟨gi, gk, gl, gd, gp, .slice ag ng cg, gn⟩
      have hbl := below_grown hB6 hg6 (Nat.le_refl _) (by omega)
      dsimp only at hW'
      go_wp2
      obtain ⟨⟨r0, r1, r2, r3, r4, r5⟩, _⟩ := hb6.six
      refine bodyPost_ret (v := .tuple #[.agg (ndC ⟨gi, gk, gl, gd, gp, .slice ag ng cg, gn⟩), .int .i64 0]) (by simp [results, Tryz.f110, go_sem, r0, r1, r2, r3, r4, r5]) rfl ?_
      exact ⟨by rw [HN.out], hbl⟩
  · have HN := Lib.hid (H1.out her)
    obtain ⟨W', hW', hb6, hg6⟩ := bR2.put6 zeroN
    have hbl := below_grown hB hg6 (Nat.le_refl _) (by omega)
    simp only [zeroN] at hW'
    clear H1 H2 H3
    go_wp2
    obtain ⟨⟨r0, r1, r2, r3, r4, r5⟩, _⟩ := hb6.six
    refine bodyPost_ret (v := .tuple #[.agg (ndC zeroN), .int .i64 er]) (by simp [results, Tryz.f110, go_sem, r0, r1, r2, r3, r4, r5, zeroN]) rfl ?_
    exact ⟨by rw [HN.out], hbl⟩
theorem home_err {l : List Nd} {p : List UInt8} (h : (getP l p).2 ≠ 0) : homeP l p = (0, (getP l p).2) := by unfold homeP; rw [if_pos h]
theorem home_file {l : List Nd} {p : List UInt8} (h : (getP l p).2 = 0) (h2 : (getP l p).1.kind ≠ 2) : homeP l p = (0, 3) := by unfold homeP; rw [if_neg (by simp [h]), if_pos h2]
theorem home_some {l : List Nd} {p : List UInt8} (h : (getP l p).2 = 0) (h2 : (getP l p).1.kind = 2) : homeP l p = ((getP l p).1.ino, 0) := by unfold homeP; rw [if_neg (by simp [h]), if_neg (by simp [h2])]
/-- A slice's room. -/
def CapOk (v : Value) : Prop := ∃ a n c, v = .slice a n c ∧ n ≤ c ∧ c ≤ maxLen ∧ (a = none → c = 0)
def StrsC (w : World) (v : Value) (l : List (List UInt8)) : Prop := Strs w v l ∧ CapOk v
theorem StrsC.below {w w' : World} {v : Value} {l : List (List UInt8)} (h : StrsC w v l) (hb : Below w.heap.size w w') : StrsC w' v l := ⟨h.1.below hb, h.2⟩
theorem own_cap {w : World} {base : Nat} {e : TypeId} {size : Nat} {v : Value} {n : Nat} {xs : List Value} (h : w.ownsRow base e size v n xs) : CapOk v := by
  rcases own_cases h with ⟨rfl, _⟩ | ⟨g, cap, rfl, _, _, h1, h2⟩
  · exact ⟨_, _, _, rfl, Nat.le_refl _, Nat.zero_le _, fun _ => rfl⟩
  · exact ⟨_, _, _, rfl, h1, h2, fun h => by cases h⟩
theorem own_strsC {w : World} {base : Nat} {e : TypeId} {v : Value} {n : Nat} {l : List (List UInt8)} (h : w.ownsRow base e 1 v n (strsV l)) : StrsC w v l := ⟨own_strs h, own_cap h⟩
theorem strs_rest {w : World} {b o : Nat} {r : List (List UInt8)} (hb : b < w.heap.size) (hc : ∀ i (hi : i < r.length), w.cell? ⟨b, o + 1 + i, none⟩ = some (.string ⟨r[i].toArray⟩)) (a : Option Addr) (n c : Nat) (hn : n = r.length) (hnc : n ≤ c) (hcm : c ≤ maxLen) (h0 : a = none → c = 0) (ha : 0 < r.length → a = some ⟨b, o + 1, none⟩) :
    StrsC w (.slice a n c) r := by
  subst hn
  exact ⟨⟨a, c, rfl, by omega, fun hl => ⟨b, o + 1, ha hl, hb, hc⟩⟩, a, _, c, rfl, hnc, hcm, h0⟩
theorem strs_src {w : World} {a : Option Addr} {n c : Nat} {l : List (List UInt8)} (h : StrsC w (.slice a n c) l) : n = l.length ∧ (a = none → n = 0 ∧ c = 0) ∧ ∀ ad, a = some ad → ∀ j u, (strsV l)[j]? = some u → w.cell? (ad.add j) = some u := by
  obtain ⟨⟨a1, c1, e1, hm, h1⟩, a2, n2, c2, e2, h2, h3, h4⟩ := h
  simp only [Value.slice.injEq] at e1 e2
  obtain ⟨rfl, rfl, rfl⟩ := e1
  obtain ⟨rfl, rfl, rfl⟩ := e2
  refine ⟨rfl, fun h => ⟨by have := h4 h; omega, h4 h⟩, fun ad had j u hu => ?_⟩
  have hj : j < l.length := by
    rcases Nat.lt_or_ge j (strsV l).length with h | h
    · simpa [strsV] using h
    · rw [List.getElem?_eq_none h] at hu; cases hu
  obtain ⟨b, o, e3, hb, hc⟩ := h1 (by omega)
  rw [had] at e3
  obtain rfl := Option.some.inj e3
  rw [Addr.add_lit, hc j hj, ← hu]
  simp [strsV, List.getElem?_eq_getElem hj]
theorem strsV_append (a b : List (List UInt8)) : strsV (a ++ b) = strsV a ++ strsV b := by simp [strsV]
theorem strsV_one (l : List (List UInt8)) : ∀ u ∈ strsV l, u.oneCell' = true := by
  intro u hu; obtain ⟨_, _, rfl⟩ := List.mem_map.1 hu; rfl
theorem strsV_len (l : List (List UInt8)) : (strsV l).length = l.length * 1 := by simp [strsV]
set_option maxHeartbeats 1000000 in
theorem refReadC_any (p : List UInt8) (w : World) (hp : p.length ≤ 1000000) :
    Calls Tryz.prog 57 #[.string ⟨p.toArray⟩] w fun e w' => ∃ v, e = .returned (.agg (pathR (absB p) v (slashB p))) ∧ StrsC w' v (namesB p) ∧ Below w.heap.size w w' := by
  have hct := namesB_count p
  have b0 := Blk.new w 86 (pathR false (.slice none 0 0) false)
  have h0 : Below w.heap.size w (w.alloc (.cells (pathR false (.slice none 0 0) false) 86)) := (Below.refl _ w).alloc (Nat.le_refl _) _
  go_enter Tryz.func57, Tryz.ntmps57
  go_wp2_with fail; refine (refNames_any p _ hp).mono ?_; rintro e w1 ⟨v, rfl, hown, h1⟩
  have b1 := b0.next h1
  have hs := own_strs hown
  have hcap := own_cap hown
  have hB1 := h0.trans (h1.mono h0.size)
  have d0 := b1.cell 0
  have d1 := b1.cell 1
  have d2 := b1.cell 2
  have e0 := b1.frozen 0
  have e1 := b1.frozen 1
  have e2 := b1.frozen 2
  simp [pathR] at d0 d1 d2
  have hlt := b1.lt
  have HS := Lib.hid hs
  have HB1 := Lib.hid hB1
  obtain ⟨ad, ca, rfl, hm, HA0⟩ := hs
  clear HA0 hm hown h1 h0 b0 hB1
  by_cases hpos : 0 < p.length
  · have HAb := Lib.hid (absB_at hpos)
    have HEb := Lib.hid (endB_at hpos)
    by_cases hn : 0 < (namesB p).length
    · have HSl : Hid (slashB p = ((p[p.length - 1].toNat : Int) == 47)) := by
        have : (namesB p).isEmpty = false := by rw [List.isEmpty_eq_false_iff]; intro e; rw [e] at hn; simp at hn
        (show _ = _); unfold slashB; rw [this, HEb.out]; rfl
      have k1 : (0 : Int) ≤ (p.length : Int) - 1 := by omega
      have k2 : (p.length : Int) - 1 < (p.length : Int) := by omega
      have k3 : ((p.length : Int) - 1).toNat = p.length - 1 := by omega
      go_wp2
      obtain ⟨W, hW, hb, hsW, hBW⟩ := read_close (a := ((p[0].toNat : Int) == 47)) (s := ((p[p.length - 1].toNat : Int) == 47)) b1 HB1.out HS.out
      try simp only [pathR] at hW
      rw [← hW]
      have g0 := hb.cell 0
      have g1 := hb.cell 1
      have g2 := hb.cell 2
      simp [pathR] at g0 g1 g2
      refine bodyPost_ret (v := .agg (pathR ((p[0].toNat : Int) == 47) (.slice ad (namesB p).length ca) ((p[p.length - 1].toNat : Int) == 47))) (by simp [results, Tryz.f57, go_sem, g0, g1, g2]) rfl ?_
      exact ⟨_, by rw [HAb.out, HSl.out], ⟨hsW, hcap⟩, hBW⟩
    · have HSl : Hid (slashB p = false) := by
        have : (namesB p).isEmpty = true := by rw [List.isEmpty_iff]; exact List.eq_nil_of_length_eq_zero (by omega)
        (show _ = _); unfold slashB; rw [this]; rfl
      go_wp2
      obtain ⟨W, hW, hb, hsW, hBW⟩ := read_close (a := ((p[0].toNat : Int) == 47)) (s := false) b1 HB1.out HS.out
      try simp only [pathR] at hW
      rw [← hW]
      have g0 := hb.cell 0
      have g1 := hb.cell 1
      have g2 := hb.cell 2
      simp [pathR] at g0 g1 g2
      refine bodyPost_ret (v := .agg (pathR ((p[0].toNat : Int) == 47) (.slice ad (namesB p).length ca) false)) (by simp [results, Tryz.f57, go_sem, g0, g1, g2]) rfl ?_
      exact ⟨_, by rw [HAb.out, HSl.out], ⟨hsW, hcap⟩, hBW⟩
  · obtain rfl : p = [] := List.eq_nil_of_length_eq_zero (by omega)
    have hn0 : (namesB []).length = 0 := rfl
    go_wp2
    obtain ⟨W, hW, hb, hsW, hBW⟩ := read_close (a := false) (s := false) b1 HB1.out (show Strs w1 (.slice ad 0 ca) (namesB []) from HS.out)
    try simp only [pathR] at hW
    rw [← hW]
    have g0 := hb.cell 0
    have g1 := hb.cell 1
    have g2 := hb.cell 2
    simp [pathR] at g0 g1 g2
    refine bodyPost_ret (v := .agg (pathR false (.slice ad 0 ca) false)) (by simp [results, Tryz.f57, go_sem, g0, g1, g2]) rfl ?_
    exact ⟨_, by rw [show absB [] = false from rfl, show slashB [] = false from rfl], ⟨hsW, hcap⟩, hBW⟩
theorem nd_set5 (i k ln : Int) (d : List UInt8) (p : Int) (v u : Value) (n m : List Ent) : (ndC ⟨i, k, ln, d, p, v, n⟩).setIfInBounds 5 u = ndC ⟨i, k, ln, d, p, u, m⟩ := rfl
theorem nd_set2 (i k ln m : Int) (d : List UInt8) (p : Int) (v : Value) (n : List Ent) : (ndC ⟨i, k, ln, d, p, v, n⟩).setIfInBounds 2 (.int .i64 m) = ndC ⟨i, k, m, d, p, v, n⟩ := rfl
theorem unL_last {l : List Nd} {d : Int} {n : List UInt8} {i : Int} {ev : Value} (h : (getN l i).links - 1 = 0) : unL l d n i ev = dropN (setN l (lessD (getN l d) n ev)) i := by unfold unL; rw [if_pos h]
theorem unL_more {l : List Nd} {d : Int} {n : List UInt8} {i : Int} {ev : Value} (h : ¬ (getN l i).links - 1 = 0) : unL l d n i ev = setN (setN l (lessD (getN l d) n ev)) (linkX (getN l i) ((getN l i).links - 1)) := by unfold unL; rw [if_neg h]
theorem calm_data {l : List Nd} (h : Calm l) : ∀ x ∈ l, x.data.length ≤ 281474976710656 := fun x hx => Nat.le_trans (h.size x hx).2.1 (by decide)
set_option maxHeartbeats 8000000 in
set_option maxRecDepth 100000 in
theorem At_any (mi mb nx : Int) (l : List Nd) (p : List UInt8) (v : Value) (w : World) (hv : Nds w v l) (hp : p.length ≤ 50000) (hc : Calm l) :
    Calls Tryz.prog 140 #[.agg (fsC mi mb nx v), .string ⟨p.toArray⟩] w fun e w' => e = .returned (.tuple #[.agg (spC (atP l p).1), .int .i64 (atP l p).2]) ∧ Below w.heap.size w w' := by
  obtain ⟨a, ca, rfl⟩ := nds_slice hv
  have HV := Lib.hid hv
  have HC := Lib.hid hc
  have bF := (Blk.new w 28 (fsC mi mb nx (.slice a l.length ca))).alloc (.cells (spC zeroS) 81)
  have bR := Blk.new (w.alloc (.cells (fsC mi mb nx (.slice a l.length ca)) 28)) 81 (spC zeroS)
  have hB0 : Below w.heap.size w ((w.alloc (.cells (fsC mi mb nx (.slice a l.length ca)) 28)).alloc (.cells (spC zeroS) 81)) := ((Below.refl _ w).alloc (Nat.le_refl _) _).alloc (by simp) _
  simp only [World.size_alloc] at bR
  have hct := namesB_count p
  clear hv hc
  go_enter Tryz.func140, Tryz.ntmps140
  go_wp2_with fail
  refine (Plain_any p _ (by omega)).mono ?_
  rintro e w1 ⟨vn, rfl, hst, b1⟩
  replace bF := bF.next b1
  replace bR := bR.next b1
  have hB1 := hB0.trans (b1.mono hB0.size)
  have hl1 : w.heap.size + 2 ≤ w1.heap.size := by have := b1.size; simp at this; omega
  clear hB0 b1
  cases hpl : plainB p with
  | none =>
    have HN : Hid (atP l p = (zeroS, 9)) := by (show _ = _); unfold atP; rw [hpl]
    rw [hpl] at hst
    obtain ⟨an, cn, rfl, _⟩ := hst
    obtain ⟨⟨r0, r1, r2⟩, e0, e1, e2⟩ := bR.three
    obtain ⟨W', hW', hb3, hg3⟩ := bR.put3 (.int .i64 0) (.string ⟨#[]⟩) (.int .i64 0)
    have hbl := below_grown hB1 hg3 (Nat.le_refl _) (by omega)
    go_wp2
    obtain ⟨⟨x0, x1, x2⟩, _⟩ := hb3.three
    refine bodyPost_ret (v := .tuple #[.agg #[.int .i64 0, .string ⟨#[]⟩, .int .i64 0], .int .i64 9]) (by simp [results, Tryz.f140, go_sem, x0, x1, x2]) rfl ?_
    exact ⟨by rw [HN.out], hbl⟩
  | some ns =>
    have HN : Hid (atP l p = atN l rootS ns) := by (show _ = _); unfold atP; rw [hpl]
    have hnl : ns.length ≤ 100000 := by have := (plainB_yes hpl).2.2; rw [← this]; omega
    rw [hpl] at hst
    obtain ⟨an, cn, rfl, _, HA0⟩ := hst
    simp only [Option.getD_some] at HA0
    have HA := Lib.hid HA0
    clear HA0 hpl hct
    have hS := alloc_below w1 (.cells (spC rootS) 81)
    have bS := Blk.new w1 81 (spC rootS)
    have hB2 := hB1.trans (hS.mono hB1.size)
    have bF2 := bF.next hS
    have bR2 := bR.next hS
    have HAL : Hid (Below w1.heap.size w1 (w1.alloc (.cells (spC rootS) 81))) := hS
    clear bF bR
    go_wp2
    go_loopw [9, 25] (fun s9 s25 wr => ∃ (k : Nat) (s : Sp) (th : Bool), k ≤ ns.length ∧ s25 = .int .i64 k ∧ s9 = .bool th ∧ Aside (th = decide (s.ino ≠ 0)) ∧ Aside (atN l s (ns.drop k) = atN l rootS ns) ∧ Below w.heap.size w wr ∧ Below w1.heap.size w1 wr ∧ Aside (Blk wr w.heap.size 28 (fsC mi mb nx (.slice a l.length ca))) ∧ Aside (Blk wr (w.heap.size + 1) 81 (spC zeroS)) ∧ Aside (Blk wr w1.heap.size 81 (spC s))) (fun _ s25 _ => ns.length - (intOf s25).toNat)
    case atStart => exact ⟨0, rootS, true, Nat.zero_le _, rfl, rfl, rfl, rfl, hB2, hS, bF2, bR2, bS⟩
    case round =>
      clear hB2 hS bF2 bR2 bS hB1
      obtain ⟨k, s, th, hk, rfl, rfl, HTH, HT, hbw, hbw1, HF, HR, HS⟩ := hrel
      obtain ⟨⟨p0, p1, p2, p3⟩, _⟩ := HF.out.four
      obtain ⟨⟨r0, r1, r2⟩, e0, e1, e2⟩ := HR.out.three
      obtain ⟨⟨s0, s1, s2⟩, _⟩ := HS.out.three
      by_cases hlt : k < ns.length
      · obtain ⟨b, o, rfl, hb, hcl⟩ := HA.out (by omega)
        have c0 := (hbw1.cell (p := ⟨b, o + k, none⟩) hb).trans (hcl k hlt)
        clear hcl
        have hdrop : ns.drop k = ns[k] :: ns.drop (k + 1) := List.drop_eq_getElem_cons hlt
        have hT := HT.out
        rw [hdrop] at hT
        clear HT hdrop
        obtain ⟨sd, sn, si⟩ := s
        dsimp only at s0 s1 s2
        have hth := HTH.out
        dsimp only at hth
        have hgone : si = 0 → atP l p = (zeroS, 1) := fun h => by rw [HN.out, ← hT]; exact at_gone h
        have hon : si ≠ 0 → (getN l si).kind = 2 → atN l (stepS l si ns[k]) (ns.drop (k + 1)) = atN l rootS ns := fun h0 h => by rw [← hT, at_on h0 h]
        have hfile : si ≠ 0 → (getN l si).kind ≠ 2 → atP l p = (zeroS, 3) := fun h0 h => by rw [HN.out, ← hT, at_file h0 h]
        unfold stepS at hon
        have hG := GetN_any mi mb nx si l _ wr (HV.out.below hbw) HC.out.rise (by have := HC.out.len; omega) (calm_data HC.out)
        have hEG := get_ents HV.out.all si
        obtain ⟨ag, ng, cg, hgs⟩ := get_slice HV.out si
        have hgr := (calm_get HC.out si).1
        have hgl := (calm_get HC.out si).2.1
        clear hT HTH
        generalize ns[k] = n at *
        generalize getN l si = G at *
        generalize hasN l si = r at *
        obtain ⟨gi, gk, gl, gd, gp, ge, gn⟩ := G
        dsimp only at hgs hEG hon hfile hgr hgl
        subst hgs
        have HON := Lib.hid hon
        have HFI := Lib.hid hfile
        have HGO := Lib.hid hgone
        have HTH := Lib.hid hth
        clear hon hfile hgone hth
        go_wp2_with fail
        refine hG.mono ?_
        rintro e w2 ⟨rfl, b2⟩
        clear hG p0 p1 p2 p3 r0 r1 r2 e0 e1 e2 s0 s1 s2
        have b3 := alloc_below w2 (.cells (ndC ⟨gi, gk, gl, gd, gp, .slice ag ng cg, gn⟩) 49)
        have b4 := b2.trans (b3.mono b2.size)
        have hb4 := hbw.trans (b4.mono hbw.size)
        have hb41 := hbw1.trans (b4.mono hbw1.size)
        have HF4 := Lib.hid (HF.out.next b4)
        have HR4 := Lib.hid (HR.out.next b4)
        have HS4 := Lib.hid (HS.out.next b4)
        obtain ⟨⟨r0, r1, r2⟩, e0, e1, e2⟩ := HR4.out.three
        have c1 := (b4.cell (p := ⟨b, o + k, none⟩) (Nat.lt_of_lt_of_le hb hbw1.size)).trans c0
        clear b3 c0
        have X := Blk.new w2 49 (ndC ⟨gi, gk, gl, gd, gp, .slice ag ng cg, gn⟩)
        cases th
        · have h0 : si = 0 := Decidable.byContradiction fun h => by have := HTH.out; rw [decide_eq_true h] at this; cases this
          have HN2 := Lib.hid (HGO.out h0)
          obtain ⟨W', hW', hb3, hg3⟩ := HR4.out.put3 (.int .i64 0) (.string ⟨#[]⟩) (.int .i64 0)
          have hbl := below_grown hb4 hg3 (Nat.le_refl _) (by omega)
          clear HON HFI HGO HTH h0
          go_wp2
          obtain ⟨⟨x0, x1, x2⟩, _⟩ := hb3.three
          refine bodyPost_ret (v := .tuple #[.agg #[.int .i64 0, .string ⟨#[]⟩, .int .i64 0], .int .i64 1]) (by simp [results, Tryz.f140, go_sem, x0, x1, x2]) rfl ?_
          exact ⟨by rw [HN2.out], hbl⟩
        · have h0 : si ≠ 0 := of_decide_eq_true HTH.out.symm
          by_cases hk2 : gk = 2
          · subst hk2
            have HT2 := Lib.hid (HON.out h0 rfl)
            clear HON HFI HGO HTH
            go_upto_region 13 with fail
            generalize w2.alloc (.cells (ndC ⟨gi, 2, gl, gd, gp, .slice ag ng cg, gn⟩) 49) = w3 at *
            have hltS := HS.out.lt
            obtain ⟨⟨s0, s1, s2⟩, f0, f1, f2⟩ := HS4.out.three
            obtain ⟨⟨x0, x1, x2, x3, x4, x5⟩, _⟩ := X.six
            dsimp only at s0 s1 s2 x0 x1 x2 x3 x4 x5
            obtain ⟨W', hW', hb3', hg3'⟩ := HS4.out.put3 (.int .i64 gi) (.string ⟨n.toArray⟩) (.int .i64 0)
            have hblA := below_grown hb4 hg3' (Nat.le_refl _) (by omega)
            have hblB := below_grown hb41 hg3' (Nat.le_refl _) (Nat.le_refl _)
            have HF6 := Lib.hid (HF4.out.kept hg3' (by simp; omega))
            have HR6 := Lib.hid (HR4.out.kept hg3' (by simp; omega))
            have X6 := X.kept hg3' (by have := b2.size; simp; omega)
            clear r0 r1 r2 e0 e1 e2
            go_upto_region 14 with fail
            clear s0 s1 s2 f0 f1 f2 x0 x1 x2 x3 x4 x5
            obtain ⟨⟨s0, s1, s2⟩, f0, f1, f2⟩ := hb3'.three
            obtain ⟨⟨x0, x1, x2, x3, x4, x5⟩, _⟩ := X6.six
            dsimp only at s0 s1 s2 x0 x1 x2 x3 x4 x5
            go_wp2_with fail
            refine (Find_any gn n _ _ (hEG.below hblA) ((rightB_iff _).1 hgr).2 (by omega)).mono ?_
            rintro e w5 ⟨rfl, b5⟩
            have HNH := Lib.hid (num_hasB hgr n)
            clear s0 s1 s2 f0 f1 f2 x0 x1 x2 x3 x4 x5
            have hb5 := hblA.trans (b5.mono hblA.size)
            have hb51 := hblB.trans (b5.mono hblB.size)
            have hS5 := hb3'.next b5
            have hF5 := HF6.out.next b5
            have hR5 := HR6.out.next b5
            have hS6 := hS5.set 2 (.int .i64 (numB gn n))
            obtain ⟨⟨s0, s1, s2⟩, f0, f1, f2⟩ := hS5.three
            have hg6 := grownBy_set w5 w1.heap.size 2 (.int .i64 (numB gn n))
            have hbZ := below_grown hb5 hg6 (Nat.le_refl _) (by omega)
            have hbZ1 := below_grown hb51 hg6 (Nat.le_refl _) (Nat.le_refl _)
            have hF7 := hF5.kept hg6 (by simp; omega)
            have hR7 := hR5.kept hg6 (by simp; omega)
            go_wp2
            go_roundw
            case rel => exact ⟨k + 1, ⟨gi, n, numB gn n⟩, hasB gn n, by omega, by go_num, rfl, HNH.out, HT2.out, hbZ, hbZ1, hF7, hR7, hS6⟩
            case measure => simp [intOf]; omega
          · have HN2 := Lib.hid (HFI.out h0 hk2)
            obtain ⟨W', hW', hb3, hg3⟩ := HR4.out.put3 (.int .i64 0) (.string ⟨#[]⟩) (.int .i64 0)
            have hbl := below_grown hb4 hg3 (Nat.le_refl _) (by omega)
            clear HON HFI HGO HTH h0
            obtain ⟨⟨x0, x1, x2, x3, x4, x5⟩, _⟩ := X.six
            dsimp only at x0 x1 x2 x3 x4 x5
            go_wp2
            obtain ⟨⟨x0, x1, x2⟩, _⟩ := hb3.three
            refine bodyPost_ret (v := .tuple #[.agg #[.int .i64 0, .string ⟨#[]⟩, .int .i64 0], .int .i64 3]) (by simp [results, Tryz.f140, go_sem, x0, x1, x2]) rfl ?_
            exact ⟨by rw [HN2.out], hbl⟩
      · obtain rfl : k = ns.length := by omega
        have HN2 : Hid (atP l p = (s, 0)) := by (show _ = _); rw [HN.out, ← HT.out, List.drop_length]; rfl
        obtain ⟨sd, sn, si⟩ := s
        dsimp only at s0 s1 s2
        obtain ⟨W', hW', hb3, hg3⟩ := HR.out.put3 (.int .i64 sd) (.string ⟨sn.toArray⟩) (.int .i64 si)
        have hbl := below_grown hbw hg3 (Nat.le_refl _) (by omega)
        go_wp2
        obtain ⟨⟨x0, x1, x2⟩, _⟩ := hb3.three
        refine bodyPost_ret (v := .tuple #[.agg #[.int .i64 sd, .string ⟨sn.toArray⟩, .int .i64 si], .int .i64 0]) (by simp [results, Tryz.f140, go_sem, x0, x1, x2]) rfl ?_
        exact ⟨by rw [HN2.out], hbl⟩
set_option maxHeartbeats 4000000 in
theorem GetP_any (mi mb nx : Int) (l : List Nd) (p : List UInt8) (v : Value) (w : World) (hv : Nds w v l) (hp : p.length ≤ 50000) (hc : Calm l) (hin : LeadsIn l p) :
    Calls Tryz.prog 123 #[.agg (fsC mi mb nx v), .string ⟨p.toArray⟩] w fun e w' => e = .returned (.tuple #[.agg (ndC (getP l p).1), .int .i64 (getP l p).2]) ∧ Below w.heap.size w w' := by
  obtain ⟨a, ca, rfl⟩ := nds_slice hv
  have bF := (Blk.new w 28 (fsC mi mb nx (.slice a l.length ca))).alloc (.cells #[.int .i64 0, .int .i64 0, .int .i64 0, .string ⟨#[]⟩, .int .i64 0, .slice none 0 0] 49)
  have bR : Blk ((w.alloc (.cells (fsC mi mb nx (.slice a l.length ca)) 28)).alloc (.cells #[.int .i64 0, .int .i64 0, .int .i64 0, .string ⟨#[]⟩, .int .i64 0, .slice none 0 0] 49)) _ 49 (ndC zeroN) := Blk.new (w.alloc (.cells (fsC mi mb nx (.slice a l.length ca)) 28)) 49 (ndC zeroN)
  have hB0 : Below w.heap.size w ((w.alloc (.cells (fsC mi mb nx (.slice a l.length ca)) 28)).alloc (.cells #[.int .i64 0, .int .i64 0, .int .i64 0, .string ⟨#[]⟩, .int .i64 0, .slice none 0 0] 49)) := ((Below.refl _ w).alloc (Nat.le_refl _) _).alloc (by simp) _
  simp only [World.size_alloc] at bR
  have nV := hv.below hB0
  have hA := At_any mi mb nx l p _ _ nV hp hc
  have h1 := getP_err (l := l) (p := p)
  have h2 := getP_none (l := l) (p := p)
  have h3 := getP_some (l := l) (p := p)
  have HV := Lib.hid hv
  have HC := Lib.hid hc
  unfold LeadsIn at hin
  clear hv hc
  generalize atP l p = q at *
  obtain ⟨⟨sd, sn, si⟩, er⟩ := q
  dsimp only at hA h1 h2 h3 hin
  have H1 := Lib.hid h1
  have H2 := Lib.hid h2
  have H3 := Lib.hid h3
  have HI := Lib.hid hin
  clear h1 h2 h3 hin
  obtain ⟨⟨p0, p1, p2, p3⟩, _⟩ := bF.four
  go_enter Tryz.func123, Tryz.ntmps123
  go_wp2_with fail
  refine hA.mono ?_
  rintro e w1 ⟨rfl, b1⟩
  clear hA p0 p1 p2 p3
  have b2 := alloc_below w1 (.cells (spC ⟨sd, sn, si⟩) 81)
  have b3 := b1.trans (b2.mono b1.size)
  have hB := hB0.trans (b3.mono hB0.size)
  have bF2 := bF.next b3
  have bR2 := bR.next b3
  have bS := Blk.new w1 81 (spC ⟨sd, sn, si⟩)
  clear b1 b2 bF bR nV
  by_cases her : er = 0
  · subst her
    have hG := GetN_any mi mb nx si l _ _ (HV.out.below hB) HC.out.rise (by have := HC.out.len; omega) (calm_data HC.out)
    obtain ⟨ag, ng, cg, hgs⟩ := get_slice HV.out si
    have hhas := HI.out rfl
    have hnone := getN_none (l := l) (n := si)
    generalize getN l si = G at *
    generalize hasN l si = r at *
    obtain ⟨gi, gk, gl, gd, gp, ge, gn⟩ := G
    dsimp only at hgs
    subst hgs
    have HNO := Lib.hid hnone
    have HH := Lib.hid hhas
    clear hnone hhas
    obtain ⟨⟨p0, p1, p2, p3⟩, _⟩ := bF2.four
    obtain ⟨⟨s0, s1, s2⟩, _⟩ := bS.three
    dsimp only at s0 s1 s2
    go_wp2_with fail
    refine hG.mono ?_
    rintro e w4 ⟨rfl, b4⟩
    clear hG p0 p1 p2 p3 s0 s1 s2
    have b5 := alloc_below w4 (.cells (ndC ⟨gi, gk, gl, gd, gp, .slice ag ng cg, gn⟩) 49)
    have b6 := b4.trans (b5.mono b4.size)
    have hB6 := hB.trans (b6.mono hB.size)
    have bR6 := bR2.next b6
    have bX := Blk.new w4 49 (ndC ⟨gi, gk, gl, gd, gp, .slice ag ng cg, gn⟩)
    obtain ⟨⟨x0, x1, x2, x3, x4, x5⟩, _⟩ := bX.six
    dsimp only at x0 x1 x2 x3 x4 x5
    obtain ⟨⟨q0, q1, q2, q3, q4, q5⟩, e0, e1, e2, e3, e4, e5⟩ := bR6.six
    simp only [zeroN] at q0 q1 q2 q3 q4 q5
    by_cases hsi : si = 0
    · subst hsi
      obtain rfl : r = false := HH.out
      have HN := Lib.hid (H2.out (by simp) rfl)
      obtain ⟨W', hW', hb6, hg6⟩ := bR6.put6 zeroN
      have hbl := below_grown hB6 hg6 (Nat.le_refl _) (by omega)
      simp only [zeroN] at hW'
      clear H1 H2 H3 HI HNO HH
      go_wp2
      obtain ⟨⟨r0, r1, r2, r3, r4, r5⟩, _⟩ := hb6.six
      refine bodyPost_ret (v := .tuple #[.agg (ndC zeroN), .int .i64 1]) (by simp [results, Tryz.f123, go_sem, r0, r1, r2, r3, r4, r5, zeroN]) rfl ?_
      exact ⟨by rw [HN.out], hbl⟩
    · have HN := Lib.hid (H3.out (by simp) hsi)
      obtain rfl : r = true := by have := HH.out; rwa [decide_eq_true hsi] at this
      obtain ⟨W', hW', hb6, hg6⟩ := bR6.put6 ⟨gi, gk, gl, gd, gp, .slice ag ng cg, gn⟩
      have hbl := below_grown hB6 hg6 (Nat.le_refl _) (by omega)
      dsimp only at hW'
      clear H1 H2 H3 HI HNO HH
      go_wp2
      obtain ⟨⟨r0, r1, r2, r3, r4, r5⟩, _⟩ := hb6.six
      refine bodyPost_ret (v := .tuple #[.agg (ndC ⟨gi, gk, gl, gd, gp, .slice ag ng cg, gn⟩), .int .i64 0]) (by simp [results, Tryz.f123, go_sem, r0, r1, r2, r3, r4, r5]) rfl ?_
      exact ⟨by rw [HN.out], hbl⟩
  · have HN := Lib.hid (H1.out her)
    obtain ⟨⟨q0, q1, q2, q3, q4, q5⟩, e0, e1, e2, e3, e4, e5⟩ := bR2.six
    simp only [zeroN] at q0 q1 q2 q3 q4 q5
    obtain ⟨W', hW', hb6, hg6⟩ := bR2.put6 zeroN
    have hbl := below_grown hB hg6 (Nat.le_refl _) (by omega)
    simp only [zeroN] at hW'
    clear H1 H2 H3
    go_wp2
    obtain ⟨⟨r0, r1, r2, r3, r4, r5⟩, _⟩ := hb6.six
    refine bodyPost_ret (v := .tuple #[.agg (ndC zeroN), .int .i64 er]) (by simp [results, Tryz.f123, go_sem, r0, r1, r2, r3, r4, r5, zeroN]) rfl ?_
    exact ⟨by rw [HN.out], hbl⟩
set_option maxHeartbeats 4000000 in
theorem stand_any (mi mb nx i : Int) (l : List Nd) (v : Value) (w : World) (hv : Nds w v l) (hc : Calm l) :
    Calls Tryz.prog 124 #[.agg (fsC mi mb nx v), .int .i64 i] w fun e w' => e = .returned (.tuple #[.agg (spC ⟨0, [], i⟩), .agg (ndC (getN l i))]) ∧ Below w.heap.size w w' := by
  obtain ⟨a, ca, rfl⟩ := nds_slice hv
  have bF := ((Blk.new w 28 (fsC mi mb nx (.slice a l.length ca))).alloc (.cells (spC zeroS) 81)).alloc (.cells #[.int .i64 0, .int .i64 0, .int .i64 0, .string ⟨#[]⟩, .int .i64 0, .slice none 0 0] 49)
  have bR := (Blk.new (w.alloc (.cells (fsC mi mb nx (.slice a l.length ca)) 28)) 81 (spC zeroS)).alloc (.cells #[.int .i64 0, .int .i64 0, .int .i64 0, .string ⟨#[]⟩, .int .i64 0, .slice none 0 0] 49)
  have bQ : Blk (((w.alloc (.cells (fsC mi mb nx (.slice a l.length ca)) 28)).alloc (.cells (spC zeroS) 81)).alloc (.cells #[.int .i64 0, .int .i64 0, .int .i64 0, .string ⟨#[]⟩, .int .i64 0, .slice none 0 0] 49)) _ 49 (ndC zeroN) := Blk.new ((w.alloc (.cells (fsC mi mb nx (.slice a l.length ca)) 28)).alloc (.cells (spC zeroS) 81)) 49 (ndC zeroN)
  have hB := (((Below.refl w.heap.size w).alloc (Nat.le_refl _) (.cells (fsC mi mb nx (.slice a l.length ca)) 28)).alloc (by simp) (.cells (spC zeroS) 81)).alloc (by simp; omega) (.cells #[.int .i64 0, .int .i64 0, .int .i64 0, .string ⟨#[]⟩, .int .i64 0, .slice none 0 0] 49)
  simp only [World.size_alloc] at bR bQ
  have nV := hv.below hB
  have hG := GetN_any mi mb nx i l _ _ nV hc.rise (by have := hc.len; omega) (calm_data hc)
  obtain ⟨ag, ng, cg, hgs⟩ := get_slice hv i
  generalize getN l i = G at *
  generalize hasN l i = r at *
  obtain ⟨gi, gk, gl, gd, gp, ge, gn⟩ := G
  dsimp only at hgs
  subst hgs
  clear hv hc nV
  obtain ⟨⟨p0, p1, p2, p3⟩, _⟩ := bF.four
  go_enter Tryz.func124, Tryz.ntmps124
  go_wp2_with fail
  refine hG.mono ?_
  rintro e w1 ⟨rfl, b1⟩
  clear hG p0 p1 p2 p3
  have b2 := alloc_below w1 (.cells (ndC ⟨gi, gk, gl, gd, gp, .slice ag ng cg, gn⟩) 49)
  have b3 := b1.trans (b2.mono b1.size)
  have hB2 := hB.trans (b3.mono hB.size)
  have bR2 := bR.next b3
  have bQ2 := bQ.next b3
  have bX := Blk.new w1 49 (ndC ⟨gi, gk, gl, gd, gp, .slice ag ng cg, gn⟩)
  obtain ⟨⟨r0, r1, r2⟩, e0, e1, e2⟩ := bR2.three
  obtain ⟨⟨q0, q1, q2, q3, q4, q5⟩, f0, f1, f2, f3, f4, f5⟩ := bQ2.six
  obtain ⟨⟨x0, x1, x2, x3, x4, x5⟩, _⟩ := bX.six
  have hl1 : w.heap.size + 3 ≤ w1.heap.size := by have := b1.size; simp at this; omega
  dsimp only at x0 x1 x2 x3 x4 x5
  obtain ⟨W1, hW1, hb3, hg3⟩ := bR2.put3 (.int .i64 0) (.string ⟨#[]⟩) (.int .i64 i)
  have bQ3 := bQ2.kept hg3 (by simp)
  obtain ⟨W2, hW2, hb6, hg6⟩ := bQ3.put6 ⟨gi, gk, gl, gd, gp, .slice ag ng cg, gn⟩
  have hR3 := hb3.kept hg6 (by simp)
  have hbl := below_grown (below_grown hB2 hg3 (Nat.le_refl _) (by omega)) hg6 (Nat.le_refl _) (by omega)
  dsimp only at hW2
  obtain ⟨⟨y0, y1, y2, y3, y4, y5⟩, _⟩ := (bX.kept hg3 (by simp; omega)).six
  obtain ⟨⟨z0, z1, z2, z3, z4, z5⟩, g0, g1, g2, g3, g4, g5⟩ := bQ3.six
  dsimp only at y0 y1 y2 y3 y4 y5
  simp only [zeroN] at q0 q1 q2 q3 q4 q5 z0 z1 z2 z3 z4 z5
  go_upto_region 2 with fail
  go_region
  go_wp2
  have hd := (Below.refl W2.heap.size W2).drew
  obtain ⟨⟨t0, t1, t2⟩, _⟩ := (hR3.next hd).three
  obtain ⟨⟨u0, u1, u2, u3, u4, u5⟩, _⟩ := (hb6.next hd).six
  dsimp only at u0 u1 u2 u3 u4 u5
  refine bodyPost_ret (v := .tuple #[.agg (spC ⟨0, [], i⟩), .agg (ndC ⟨gi, gk, gl, gd, gp, .slice ag ng cg, gn⟩)]) (by simp [results, Tryz.f124, go_sem, t0, t1, t2, u0, u1, u2, u3, u4, u5]) rfl ?_
  exact ⟨rfl, hbl.drew⟩
def stepP (x : Nd) (n : List UInt8) : Sp := if n = [46] then ⟨0, [], x.ino⟩ else if n = [46, 46] then ⟨0, [], x.parent⟩ else ⟨x.ino, n, numB x.ents n⟩
set_option maxHeartbeats 8000000 in
theorem step_any (mi mb nx : Int) (l : List Nd) (x : Nd) (n : List UInt8) (v : Value) (w : World) (hv : Nds w v l) (hc : Calm l) (hE : Ents w x.ev x.ents) (hr : rightB x.ents = true) (hlen : x.ents.length ≤ 1000) (ax : Option Addr) (nn cx : Nat) (hev : x.ev = .slice ax nn cx) :
    Calls Tryz.prog 125 #[.agg (fsC mi mb nx v), .agg (ndC x), .string ⟨n.toArray⟩] w fun e w' => e = .returned (.tuple #[.agg (spC (stepP x n)), .agg (ndC (getN l (stepP x n).ino))]) ∧ Below w.heap.size w w' := by
  obtain ⟨xi, xk, xl, xd, xp, xe, xn⟩ := x
  dsimp only at hE hr hlen hev
  subst hev
  obtain ⟨a, ca, rfl⟩ := nds_slice hv
  have A0 := alloc_below w (.cells (fsC mi mb nx (.slice a l.length ca)) 28)
  have bF0 := Blk.new w 28 (fsC mi mb nx (.slice a l.length ca))
  have A1 := alloc_below (w.alloc (.cells (fsC mi mb nx (.slice a l.length ca)) 28)) (.cells (ndC ⟨xi, xk, xl, xd, xp, .slice ax nn cx, xn⟩) 49)
  have bD0 := Blk.new (w.alloc (.cells (fsC mi mb nx (.slice a l.length ca)) 28)) 49 (ndC ⟨xi, xk, xl, xd, xp, .slice ax nn cx, xn⟩)
  have bF1 := bF0.next A1
  have A2 := alloc_below ((w.alloc (.cells (fsC mi mb nx (.slice a l.length ca)) 28)).alloc (.cells (ndC ⟨xi, xk, xl, xd, xp, .slice ax nn cx, xn⟩) 49)) (.cells (spC zeroS) 81)
  have bR0 := Blk.new ((w.alloc (.cells (fsC mi mb nx (.slice a l.length ca)) 28)).alloc (.cells (ndC ⟨xi, xk, xl, xd, xp, .slice ax nn cx, xn⟩) 49)) 81 (spC zeroS)
  have bF2 := bF1.next A2
  have bD2 := bD0.next A2
  have A3 := alloc_below (((w.alloc (.cells (fsC mi mb nx (.slice a l.length ca)) 28)).alloc (.cells (ndC ⟨xi, xk, xl, xd, xp, .slice ax nn cx, xn⟩) 49)).alloc (.cells (spC zeroS) 81)) (.cells #[.int .i64 0, .int .i64 0, .int .i64 0, .string ⟨#[]⟩, .int .i64 0, .slice none 0 0] 49)
  have bQ : Blk ((((w.alloc (.cells (fsC mi mb nx (.slice a l.length ca)) 28)).alloc (.cells (ndC ⟨xi, xk, xl, xd, xp, .slice ax nn cx, xn⟩) 49)).alloc (.cells (spC zeroS) 81)).alloc (.cells #[.int .i64 0, .int .i64 0, .int .i64 0, .string ⟨#[]⟩, .int .i64 0, .slice none 0 0] 49)) _ 49 (ndC zeroN) := Blk.new (((w.alloc (.cells (fsC mi mb nx (.slice a l.length ca)) 28)).alloc (.cells (ndC ⟨xi, xk, xl, xd, xp, .slice ax nn cx, xn⟩) 49)).alloc (.cells (spC zeroS) 81)) 49 (ndC zeroN)
  have bF := bF2.next A3
  have bD := bD2.next A3
  have bR := bR0.next A3
  have A01 := A0.trans (A1.mono A0.size)
  have A012 := A01.trans (A2.mono A01.size)
  have hB := A012.trans (A3.mono A012.size)
  clear A0 A1 A2 A3 A01 A012 bF0 bF1 bF2 bD0 bD2 bR0
  simp only [World.size_alloc] at bR bQ bD
  have nV := hv.below hB
  have nE := hE.below hB
  have HV := Lib.hid hv
  have HE := Lib.hid hE
  have HC := Lib.hid hc
  clear hv hE hc
  obtain ⟨⟨p0, p1, p2, p3⟩, _⟩ := bF.four
  obtain ⟨⟨d0, d1, d2, d3, d4, d5⟩, _⟩ := bD.six
  dsimp only at d0 d1 d2 d3 d4 d5
  by_cases h1 : n = [46]
  · subst h1
    have hS := stand_any mi mb nx xi l _ _ nV HC.out
    rw [show stepP ⟨xi, xk, xl, xd, xp, .slice ax nn cx, xn⟩ [46] = ⟨0, [], xi⟩ from rfl]
    dsimp only
    obtain ⟨ag, ng, cg, hgs⟩ := get_slice HV.out xi
    generalize getN l xi = G at *
    obtain ⟨gi, gk, gl, gd, gp, ge, gn⟩ := G
    dsimp only at hgs
    subst hgs
    go_enter Tryz.func125, Tryz.ntmps125
    go_wp2_with fail
    refine hS.mono ?_
    rintro e w1 ⟨rfl, b1⟩
    clear hS p0 p1 p2 p3 d0 d1 d2 d3 d4 d5
    (have bR2 := bR.next b1; have bQ2 := bQ.next b1; have hB2 := hB.trans (b1.mono hB.size); obtain ⟨⟨r0, r1, r2⟩, e0, e1, e2⟩ := bR2.three; obtain ⟨W1, hW1, hb3, hg3⟩ := bR2.put3 (.int .i64 0) (.string ⟨#[]⟩) (.int .i64 xi); have bQ3 := bQ2.kept hg3 (by simp); obtain ⟨⟨z0, z1, z2, z3, z4, z5⟩, g0, g1, g2, g3, g4, g5⟩ := bQ3.six; simp only [zeroN] at z0 z1 z2 z3 z4 z5; obtain ⟨W2, hW2, hb6, hg6⟩ := bQ3.put6 ⟨gi, gk, gl, gd, gp, .slice ag ng cg, gn⟩; have hR3 := hb3.kept hg6 (by simp); have hbl := below_grown (below_grown hB2 hg3 (Nat.le_refl _) (by omega)) hg6 (Nat.le_refl _) (by omega); dsimp only at hW2; go_wp2; obtain ⟨⟨t0, t1, t2⟩, _⟩ := hR3.three; obtain ⟨⟨u0, u1, u2, u3, u4, u5⟩, _⟩ := hb6.six; dsimp only at u0 u1 u2 u3 u4 u5; refine bodyPost_ret (v := .tuple #[.agg (spC ⟨0, [], xi⟩), .agg (ndC ⟨gi, gk, gl, gd, gp, .slice ag ng cg, gn⟩)]) (by simp [results, Tryz.f125, go_sem, t0, t1, t2, u0, u1, u2, u3, u4, u5]) rfl ?_; exact ⟨rfl, hbl⟩)
  · by_cases h2 : n = [46, 46]
    · subst h2
      have hS := stand_any mi mb nx xp l _ _ nV HC.out
      rw [show stepP ⟨xi, xk, xl, xd, xp, .slice ax nn cx, xn⟩ [46, 46] = ⟨0, [], xp⟩ from rfl]
      dsimp only
      obtain ⟨ag, ng, cg, hgs⟩ := get_slice HV.out xp
      generalize getN l xp = G at *
      obtain ⟨gi, gk, gl, gd, gp, ge, gn⟩ := G
      dsimp only at hgs
      subst hgs
      go_enter Tryz.func125, Tryz.ntmps125
      go_wp2_with fail
      refine hS.mono ?_
      rintro e w1 ⟨rfl, b1⟩
      clear hS p0 p1 p2 p3 d0 d1 d2 d3 d4 d5
      (have bR2 := bR.next b1; have bQ2 := bQ.next b1; have hB2 := hB.trans (b1.mono hB.size); obtain ⟨⟨r0, r1, r2⟩, e0, e1, e2⟩ := bR2.three; obtain ⟨W1, hW1, hb3, hg3⟩ := bR2.put3 (.int .i64 0) (.string ⟨#[]⟩) (.int .i64 xp); have bQ3 := bQ2.kept hg3 (by simp); obtain ⟨⟨z0, z1, z2, z3, z4, z5⟩, g0, g1, g2, g3, g4, g5⟩ := bQ3.six; simp only [zeroN] at z0 z1 z2 z3 z4 z5; obtain ⟨W2, hW2, hb6, hg6⟩ := bQ3.put6 ⟨gi, gk, gl, gd, gp, .slice ag ng cg, gn⟩; have hR3 := hb3.kept hg6 (by simp); have hbl := below_grown (below_grown hB2 hg3 (Nat.le_refl _) (by omega)) hg6 (Nat.le_refl _) (by omega); dsimp only at hW2; go_wp2; obtain ⟨⟨t0, t1, t2⟩, _⟩ := hR3.three; obtain ⟨⟨u0, u1, u2, u3, u4, u5⟩, _⟩ := hb6.six; dsimp only at u0 u1 u2 u3 u4 u5; refine bodyPost_ret (v := .tuple #[.agg (spC ⟨0, [], xp⟩), .agg (ndC ⟨gi, gk, gl, gd, gp, .slice ag ng cg, gn⟩)]) (by simp [results, Tryz.f125, go_sem, t0, t1, t2, u0, u1, u2, u3, u4, u5]) rfl ?_; exact ⟨rfl, hbl⟩)
    · have H1 : (n == [46]) = false := by simpa using h1
      have H2 : (n == [46, 46]) = false := by simpa using h2
      have HP : Hid (stepP ⟨xi, xk, xl, xd, xp, .slice ax nn cx, xn⟩ n = ⟨xi, n, numB xn n⟩) := by (show _ = _); unfold stepP; rw [if_neg h1, if_neg h2]
      have HP' : Hid (numB xn n = numB xn n) := rfl
      rw [HP.out]
      dsimp only
      have hSo := ((rightB_iff _).1 hr).2
      clear h1 h2 HP HP' hr
      have hFi := Find_any xn n _ _ nE hSo (by omega)
      have HG := Lib.hid (fun W (h : Nds W (.slice a l.length ca) l) => GetN_any mi mb nx (numB xn n) l _ W h HC.out.rise (by have := HC.out.len; omega) (calm_data HC.out))
      obtain ⟨ag, ng, cg, hgs⟩ := get_slice HV.out (numB xn n)
      generalize numB xn n = j at *
      generalize hasB xn n = jb at *
      generalize getN l j = G at *
      generalize hasN l j = r at *
      obtain ⟨gi, gk, gl, gd, gp, ge, gn⟩ := G
      dsimp only at hgs
      subst hgs
      go_enter Tryz.func125, Tryz.ntmps125
      go_wp2_with fail
      refine hFi.mono ?_
      rintro e w1 ⟨rfl, b1⟩
      clear nE hSo hFi p0 p1 p2 p3 d0 d1 d2 d3 d4 d5
      replace bF := bF.next b1
      replace bD := bD.next b1
      replace bR := bR.next b1
      replace bQ := bQ.next b1
      replace hB := hB.trans (b1.mono hB.size)
      have hl1 : w.heap.size + 4 ≤ w1.heap.size := by have := b1.size; simp at this; omega
      clear b1 nV
      have hG := HG.out _ (HV.out.below hB)
      clear HG
      obtain ⟨⟨p0, p1, p2, p3⟩, _⟩ := bF.four
      go_wp2_with fail
      refine hG.mono ?_
      rintro e w2 ⟨rfl, b2⟩
      clear hG p0 p1 p2 p3
      have b3 := alloc_below w2 (.cells (ndC ⟨gi, gk, gl, gd, gp, .slice ag ng cg, gn⟩) 49)
      have b4 := b2.trans (b3.mono b2.size)
      have hB2 := hB.trans (b4.mono hB.size)
      have bD2 := bD.next b4
      have bR2 := bR.next b4
      have bQ2 := bQ.next b4
      have bX := Blk.new w2 49 (ndC ⟨gi, gk, gl, gd, gp, .slice ag ng cg, gn⟩)
      have hl2 : w.heap.size + 4 ≤ w2.heap.size := Nat.le_trans hl1 b2.size
      clear b2 b3 b4 bF bD bR bQ hB
      obtain ⟨⟨d0, d1, d2, d3, d4, d5⟩, _⟩ := bD2.six
      dsimp only at d0 d1 d2 d3 d4 d5
      obtain ⟨⟨r0, r1, r2⟩, e0, e1, e2⟩ := bR2.three
      obtain ⟨⟨q0, q1, q2, q3, q4, q5⟩, f0, f1, f2, f3, f4, f5⟩ := bQ2.six
      obtain ⟨⟨x0, x1, x2, x3, x4, x5⟩, _⟩ := bX.six
      dsimp only at x0 x1 x2 x3 x4 x5
      obtain ⟨W1, hW1, hb3, hg3⟩ := bR2.put3 (.int .i64 xi) (.string ⟨n.toArray⟩) (.int .i64 j)
      have bQ3 := bQ2.kept hg3 (by simp)
      obtain ⟨W2, hW2, hb6, hg6⟩ := bQ3.put6 ⟨gi, gk, gl, gd, gp, .slice ag ng cg, gn⟩
      have hR3 := hb3.kept hg6 (by simp)
      have hbl := below_grown (below_grown hB2 hg3 (Nat.le_refl _) (by omega)) hg6 (Nat.le_refl _) (by omega)
      dsimp only at hW2
      obtain ⟨⟨y0, y1, y2, y3, y4, y5⟩, _⟩ := (bX.kept hg3 (by simp; omega)).six
      obtain ⟨⟨z0, z1, z2, z3, z4, z5⟩, g0, g1, g2, g3, g4, g5⟩ := bQ3.six
      dsimp only at y0 y1 y2 y3 y4 y5
      simp only [zeroN] at q0 q1 q2 q3 q4 q5 z0 z1 z2 z3 z4 z5
      go_upto_region 8 with fail
      go_region
      go_wp2
      have hd := (Below.refl W2.heap.size W2).drew
      obtain ⟨⟨t0, t1, t2⟩, _⟩ := (hR3.next hd).three
      obtain ⟨⟨u0, u1, u2, u3, u4, u5⟩, _⟩ := (hb6.next hd).six
      dsimp only at u0 u1 u2 u3 u4 u5
      refine bodyPost_ret (v := .tuple #[.agg (spC ⟨xi, n, j⟩), .agg (ndC ⟨gi, gk, gl, gd, gp, .slice ag ng cg, gn⟩)]) (by simp [results, Tryz.f125, go_sem, t0, t1, t2, u0, u1, u2, u3, u4, u5]) rfl ?_
      exact ⟨rfl, hbl.drew⟩
set_option maxHeartbeats 4000000 in
theorem HomeC_any (mi mb nx : Int) (l : List Nd) (p : List UInt8) (v : Value) (w : World) (hv : Nds w v l) (hp : p.length ≤ 50000) (hc : Calm l) (hin : LeadsIn l p) :
    Calls Tryz.prog 103 #[.agg (fsC mi mb nx v), .string ⟨p.toArray⟩] w fun e w' => e = .returned (.tuple #[.int .i64 (homeP l p).1, .int .i64 (homeP l p).2]) ∧ Below w.heap.size w w' := by
  obtain ⟨a, ca, rfl⟩ := nds_slice hv
  have bF := Blk.new w 28 (fsC mi mb nx (.slice a l.length ca))
  have hB := alloc_below w (.cells (fsC mi mb nx (.slice a l.length ca)) 28)
  have hG := GetP_any mi mb nx l p _ _ (hv.below hB) hp hc hin
  have h1 := home_err (l := l) (p := p)
  have h2 := home_file (l := l) (p := p)
  have h3 := home_some (l := l) (p := p)
  obtain ⟨ag, ng, cg, hgs⟩ := get_slice0 hv p
  generalize getP l p = G at *
  obtain ⟨⟨gi, gk, gl, gd, gp, ge, gn⟩, er⟩ := G
  dsimp only at hG h1 h2 h3 hgs
  subst hgs
  have H1 := Lib.hid h1
  have H2 := Lib.hid h2
  have H3 := Lib.hid h3
  clear h1 h2 h3 hv hc hin
  obtain ⟨⟨p0, p1, p2, p3⟩, _⟩ := bF.four
  go_enter Tryz.func103, Tryz.ntmps103
  go_wp2_with fail
  refine hG.mono ?_
  rintro e w1 ⟨rfl, b1⟩
  clear hG p0 p1 p2 p3
  have b2 := alloc_below w1 (.cells (ndC ⟨gi, gk, gl, gd, gp, .slice ag ng cg, gn⟩) 49)
  have bX := Blk.new w1 49 (ndC ⟨gi, gk, gl, gd, gp, .slice ag ng cg, gn⟩)
  have hB2 := (hB.trans (b1.mono hB.size)).trans (b2.mono (hB.trans (b1.mono hB.size)).size)
  obtain ⟨⟨x0, x1, x2, x3, x4, x5⟩, _⟩ := bX.six
  dsimp only at x0 x1 x2 x3 x4 x5
  clear b1 b2 hB bF bX
  by_cases her : er = 0
  · subst her
    by_cases hk : gk = 2
    · have HN := Lib.hid (H3.out rfl hk)
      subst hk
      clear H1 H2 H3
      go_wp2
      go_ret2
      exact ⟨by rw [HN.out]; rfl, hB2⟩
    · have HN := Lib.hid (H2.out rfl hk)
      clear H1 H2 H3
      go_wp2
      go_ret2
      exact ⟨by rw [HN.out]; rfl, hB2⟩
  · have HN := Lib.hid (H1.out her)
    clear H1 H2 H3
    go_wp2
    go_ret2
    exact ⟨by rw [HN.out]; rfl, hB2⟩
/-- Where the way ended, if it may end there. -/
def endP (s : Sp) (k : Int) (d : Bool) : Sp × Int := if d = true ∧ s.ino ≠ 0 ∧ k ≠ 2 then (zeroS, 3) else (s, 0)
set_option maxHeartbeats 4000000 in
theorem ended_any (s : Sp) (x : Nd) (d : Bool) (w : World) (ax : Option Addr) (nn cx : Nat) (hev : x.ev = .slice ax nn cx) :
    Calls Tryz.prog 127 #[.agg (spC s), .agg (ndC x), .bool d] w fun e w' => e = .returned (.tuple #[.agg (spC (endP s x.kind d).1), .int .i64 (endP s x.kind d).2]) ∧ Below w.heap.size w w' := by
  obtain ⟨sd, sn, si⟩ := s
  obtain ⟨xi, xk, xl, xd, xp, xe, xn⟩ := x
  dsimp only at hev
  subst hev
  have A0 := alloc_below w (.cells (spC ⟨sd, sn, si⟩) 81)
  have bS0 := Blk.new w 81 (spC ⟨sd, sn, si⟩)
  have A1 := alloc_below (w.alloc (.cells (spC ⟨sd, sn, si⟩) 81)) (.cells (ndC ⟨xi, xk, xl, xd, xp, .slice ax nn cx, xn⟩) 49)
  have bX0 := Blk.new (w.alloc (.cells (spC ⟨sd, sn, si⟩) 81)) 49 (ndC ⟨xi, xk, xl, xd, xp, .slice ax nn cx, xn⟩)
  have bS1 := bS0.next A1
  have A2 := alloc_below ((w.alloc (.cells (spC ⟨sd, sn, si⟩) 81)).alloc (.cells (ndC ⟨xi, xk, xl, xd, xp, .slice ax nn cx, xn⟩) 49)) (.cells (spC zeroS) 81)
  have bR := Blk.new ((w.alloc (.cells (spC ⟨sd, sn, si⟩) 81)).alloc (.cells (ndC ⟨xi, xk, xl, xd, xp, .slice ax nn cx, xn⟩) 49)) 81 (spC zeroS)
  have bS := bS1.next A2
  have bX := bX0.next A2
  have A01 := A0.trans (A1.mono A0.size)
  have hB := A01.trans (A2.mono A01.size)
  have hBs := A01.trans ((alloc_below ((w.alloc (.cells (spC ⟨sd, sn, si⟩) 81)).alloc (.cells (ndC ⟨xi, xk, xl, xd, xp, .slice ax nn cx, xn⟩) 49)) (.cells (spC ⟨sd, sn, si⟩) 81)).mono A01.size)
  have bRs := Blk.new ((w.alloc (.cells (spC ⟨sd, sn, si⟩) 81)).alloc (.cells (ndC ⟨xi, xk, xl, xd, xp, .slice ax nn cx, xn⟩) 49)) 81 (spC ⟨sd, sn, si⟩)
  clear A0 A1 A2 A01 bS0 bS1 bX0
  simp only [World.size_alloc] at bR bX bRs
  obtain ⟨⟨s0, s1, s2⟩, _⟩ := bS.three
  dsimp only at s0 s1 s2
  obtain ⟨⟨x0, x1, x2, x3, x4, x5⟩, _⟩ := bX.six
  dsimp only at x0 x1 x2 x3 x4 x5
  obtain ⟨⟨r0, r1, r2⟩, e0, e1, e2⟩ := bR.three
  by_cases hbad : d = true ∧ si ≠ 0 ∧ xk ≠ 2
  · have HN : Hid (endP ⟨sd, sn, si⟩ xk d = (zeroS, 3)) := by (show _ = _); unfold endP; rw [if_pos hbad]
    obtain ⟨rfl, h1, h2⟩ := hbad
    have g1 : (si != 0) = true := by simpa using h1
    have g2 : (xk != 2) = true := by simpa using h2
    clear h1 h2
    go_enter Tryz.func127, Tryz.ntmps127
    go_wp2
    refine bodyPost_ret (v := .tuple #[.agg #[.int .i64 0, .string ⟨#[]⟩, .int .i64 0], .int .i64 3]) (by simp [results, Tryz.f127, go_sem, r0, r1, r2]) rfl ?_
    exact ⟨by rw [HN.out], hB⟩
  · have HN : Hid (endP ⟨sd, sn, si⟩ xk d = (⟨sd, sn, si⟩, 0)) := by (show _ = _); unfold endP; rw [if_neg hbad]
    have hbl := hBs
    have hb3 := bRs
    cases d
    · clear hbad
      go_enter Tryz.func127, Tryz.ntmps127
      go_wp2
      obtain ⟨⟨t0, t1, t2⟩, _⟩ := hb3.three
      refine bodyPost_ret (v := .tuple #[.agg (spC ⟨sd, sn, si⟩), .int .i64 0]) (by simp [results, Tryz.f127, go_sem, t0, t1, t2]) rfl ?_
      exact ⟨by rw [HN.out], hbl⟩
    · by_cases h0 : si = 0
      · subst h0
        clear hbad
        go_enter Tryz.func127, Tryz.ntmps127
        go_wp2
        obtain ⟨⟨t0, t1, t2⟩, _⟩ := hb3.three
        refine bodyPost_ret (v := .tuple #[.agg (spC ⟨sd, sn, 0⟩), .int .i64 0]) (by simp [results, Tryz.f127, go_sem, t0, t1, t2]) rfl ?_
        exact ⟨by rw [HN.out], hbl⟩
      · obtain rfl : xk = 2 := Decidable.byContradiction fun h => hbad ⟨rfl, h0, h⟩
        clear hbad
        go_enter Tryz.func127, Tryz.ntmps127
        go_wp2
        obtain ⟨⟨t0, t1, t2⟩, _⟩ := hb3.three
        refine bodyPost_ret (v := .tuple #[.agg (spC ⟨sd, sn, si⟩), .int .i64 0]) (by simp [results, Tryz.f127, go_sem, t0, t1, t2]) rfl ?_
        exact ⟨by rw [HN.out], hbl⟩
end Go.Proofs.YtkdmfeikikmiiaaGreat
namespace Go.Proofs.YtkdmfeikikmiiaaGreat
/-- Of a place: if it has a number, there is an inode of it. -/
def OnS (l : List Nd) (s : Sp) : Prop := s.ino ≠ 0 → hasN l s.ino = true
theorem onS_bare {l : List Nd} {i : Int} (h : isDir l i = true) : OnS l ⟨0, [], i⟩ := fun _ => (dir_parts h).1
theorem dir_num {mi mb nx : Int} {l : List Nd} (h : OkS mi mb nx l) {i : Int} (hd : isDir l i = true) : i ≠ 0 ∧ (getN l i).kind = 2 ∧ (getN l i).ino = i := by
  refine ⟨fun e => ?_, (dir_parts hd).2, (get_mem (dir_parts hd).1).2⟩
  subst e
  have := (dir_parts hd).1
  rw [no_zero h] at this; cases this
theorem step_name {x : Nd} {n : List UInt8} (h1 : n ≠ [46]) (h2 : n ≠ [46, 46]) : stepP x n = ⟨x.ino, n, numB x.ents n⟩ := by unfold stepP; rw [if_neg h1, if_neg h2]
theorem step_on {mi mb nx : Int} {l : List Nd} (h : OkS mi mb nx l) {i : Int} (n : List UInt8) (hk : (getN l i).kind = 2) : OnS l (stepP (getN l i) n) := by
  have hd := kind_has hk
  by_cases h1 : n = [46]
  · subst h1; exact onS_bare (by rw [(dir_num h hd).2.2]; exact hd)
  by_cases h2 : n = [46, 46]
  · subst h2; exact onS_bare (parent_dir h hd)
  rw [step_name h1 h2]
  exact fun h3 => num_has (tree_c h.check) h3
/-- A step to what is a link, or to nothing, is no step by dots. -/
theorem step_else {mi mb nx : Int} {l : List Nd} (h : OkS mi mb nx l) {i : Int} {n : List UInt8} (hk : (getN l i).kind = 2) (h2 : (getN l (stepP (getN l i) n).ino).kind ≠ 2) : n ≠ [46] ∧ n ≠ [46, 46] := by
  have hd := kind_has hk
  constructor
  · intro e
    subst e
    rw [show (stepP (getN l i) [46]).ino = (getN l i).ino from rfl, (dir_num h hd).2.2] at h2
    exact h2 hk
  · intro e
    subst e
    exact h2 (dir_parts (parent_dir h hd)).2
theorem lead_gone {mi mb nx : Int} {l : List Nd} (h : OkS mi mb nx l) {fo d : Bool} {g : Nat} {s : Sp} {n : List UInt8} {r : List (List UInt8)} (h0 : s.ino ≠ 0) (hk : (getN l s.ino).kind = 2) (hz : (stepP (getN l s.ino) n).ino = 0) (hr : r ≠ []) :
    onN l fo g s (n :: r) d = (zeroS, 1) := by
  have hz2 : (getN l (stepP (getN l s.ino) n).ino).kind ≠ 2 := by rw [hz, getN_none (no_zero h)]; decide
  obtain ⟨d1, d2⟩ := step_else h hk hz2
  rw [step_name d1 d2] at hz
  obtain ⟨m, t, rfl⟩ := List.exists_cons_of_ne_nil hr
  rw [on_stop h0 hk d1 d2 ?_, on_gone (show (stepS l s.ino n).ino = 0 from hz)]
  unfold stopB
  have : (getN l (numB (getN l s.ino).ents n)).kind != 3 := by
    rw [show numB (getN l s.ino).ents n = 0 from hz, getN_none (no_zero h)]; decide
  rw [this]; simp
theorem lead_on {mi mb nx : Int} {l : List Nd} (h : OkS mi mb nx l) {fo d : Bool} {g : Nat} {s : Sp} {n : List UInt8} {r : List (List UInt8)} (h0 : s.ino ≠ 0) (hk : (getN l s.ino).kind = 2)
    (hc : (getN l (stepP (getN l s.ino) n).ino).kind ≠ 3 ∨ (r = [] ∧ fo = false ∧ d = false)) :
    onN l fo g s (n :: r) d = onN l fo g (stepP (getN l s.ino) n) r d := by
  by_cases d1 : n = [46]
  · subst d1; exact on_dot h0 hk rfl
  by_cases d2 : n = [46, 46]
  · subst d2; exact on_dots h0 hk rfl
  rw [on_stop h0 hk d1 d2 ?_, step_name d1 d2]
  · rfl
  · unfold stopB
    rcases hc with hc | ⟨rfl, rfl, rfl⟩
    · rw [step_name d1 d2] at hc
      have : ((getN l (numB (getN l s.ino).ents n)).kind != 3) = true := by simpa using hc
      rw [this]; simp
    · simp
theorem stop_no {mi mb nx : Int} {l : List Nd} (h : OkS mi mb nx l) {fo d : Bool} {s : Sp} {n : List UInt8} {r : List (List UInt8)} (hk : (getN l s.ino).kind = 2)
    (h3 : (getN l (stepP (getN l s.ino) n).ino).kind = 3) (hc : ¬ (r = [] ∧ fo = false ∧ d = false)) :
    n ≠ [46] ∧ n ≠ [46, 46] ∧ stopB l fo d s.ino n r = false ∧ lnkD l s.ino n = (getN l (stepP (getN l s.ino) n).ino).data := by
  obtain ⟨d1, d2⟩ := step_else (n := n) h hk (by rw [h3]; decide)
  refine ⟨d1, d2, ?_, ?_⟩
  · rw [step_name d1 d2] at h3
    dsimp only at h3
    have hb : hasB (getN l s.ino).ents n = true := by
      cases hb : hasB (getN l s.ino).ents n
      · rw [(find_none hb).1, getN_none (no_zero h)] at h3; cases h3
      · rfl
    unfold stopB
    rw [hb, h3]
    cases r <;> cases fo <;> cases d <;> simp_all
  · rw [step_name d1 d2]; rfl
theorem lead_loop {mi mb nx : Int} {l : List Nd} (h : OkS mi mb nx l) {fo d : Bool} {s : Sp} {n : List UInt8} {r : List (List UInt8)} (h0 : s.ino ≠ 0) (hk : (getN l s.ino).kind = 2)
    (h3 : (getN l (stepP (getN l s.ino) n).ino).kind = 3) (hc : ¬ (r = [] ∧ fo = false ∧ d = false)) : onN l fo 0 s (n :: r) d = (zeroS, 6) := by
  obtain ⟨d1, d2, hs, _⟩ := stop_no h hk h3 hc
  exact on_loop h0 hk d1 d2 hs
theorem lead_long {mi mb nx : Int} {l : List Nd} (h : OkS mi mb nx l) {fo d : Bool} {g : Nat} {s : Sp} {n : List UInt8} {r : List (List UInt8)} (h0 : s.ino ≠ 0) (hk : (getN l s.ino).kind = 2)
    (h3 : (getN l (stepP (getN l s.ino) n).ino).kind = 3) (hc : ¬ (r = [] ∧ fo = false ∧ d = false)) (hl : longB (getN l (stepP (getN l s.ino) n).ino).data = true) : onN l fo (g + 1) s (n :: r) d = (zeroS, 7) := by
  obtain ⟨d1, d2, hs, hd⟩ := stop_no h hk h3 hc
  exact on_long h0 hk d1 d2 hs (by rw [hd]; exact hl)
theorem lead_link {mi mb nx : Int} {l : List Nd} (h : OkS mi mb nx l) {fo d : Bool} {g : Nat} {s : Sp} {n : List UInt8} {r : List (List UInt8)} (h0 : s.ino ≠ 0) (hk : (getN l s.ino).kind = 2)
    (h3 : (getN l (stepP (getN l s.ino) n).ino).kind = 3) (hc : ¬ (r = [] ∧ fo = false ∧ d = false)) (hl : longB (getN l (stepP (getN l s.ino) n).ino).data = false) :
    onN l fo (g + 1) s (n :: r) d = onN l fo g ⟨0, [], if absB (getN l (stepP (getN l s.ino) n).ino).data = true then 1 else (getN l s.ino).ino⟩ (namesB (getN l (stepP (getN l s.ino) n).ino).data ++ r) (d || (r.isEmpty && slashB (getN l (stepP (getN l s.ino) n).ino).data)) := by
  obtain ⟨d1, d2, hs, hd⟩ := stop_no h hk h3 hc
  rw [on_link h0 hk d1 d2 hs (by rw [hd]; exact hl), hd, Bool.and_comm (slashB _)]
theorem lead_end {mi mb nx : Int} {l : List Nd} (h : OkS mi mb nx l) {fo d : Bool} {g : Nat} {s : Sp} (hs : OnS l s) : onN l fo g s [] d = endP s (getN l s.ino).kind d := by
  rw [on_nil]
  unfold endP
  by_cases h0 : s.ino = 0
  · rw [h0, no_zero h]; simp
  · rw [hs h0]
    by_cases hk : (getN l s.ino).kind = 2
    · rw [hk]; simp
    · cases d
      · simp
      · have e1 : (true && true && (getN l s.ino).kind != 2) = true := by simpa using hk
        have e2 : true = true ∧ s.ino ≠ 0 ∧ (getN l s.ino).kind ≠ 2 := ⟨rfl, h0, hk⟩
        rw [if_pos e1, if_pos e2]
/-- Where one stands behind a link. -/
theorem from_dir {mi mb nx : Int} {l : List Nd} (h : OkS mi mb nx l) {i : Int} (hk : (getN l i).kind = 2) (b : Bool) : isDir l (if b = true then 1 else (getN l i).ino) = true := by
  cases b
  · rw [if_neg (by simp), (dir_num h (kind_has hk)).2.2]; exact kind_has hk
  · rw [if_pos rfl]; exact kind_has (tree_c h.check).rootDir
end Go.Proofs.YtkdmfeikikmiiaaGreat
namespace Go.Proofs.YtkdmfeikikmiiaaGreat
open Go.RowKit
theorem infoT10 : (Tryz.prog.info? 9).map (fun i => (i.zero, i.size, i.bytes)) = some (some (.string ⟨#[]⟩), 1, 16) := by kernel_rfl
/-- A slice of slices of texts. -/
def PartsS (w : World) (v : Value) (ps : List (List (List UInt8))) : Prop :=
  ∃ a cap, v = .slice a ps.length cap ∧ (0 < ps.length → ∃ b off, a = some ⟨b, off, none⟩ ∧ b < w.heap.size ∧ ∀ i (h : i < ps.length), ∃ x, w.cell? ⟨b, off + i, none⟩ = some x ∧ StrsC w x ps[i])
theorem flatS_take (ps : List (List (List UInt8))) (k : Nat) (h : k < ps.length) : (ps.take (k + 1)).flatten = (ps.take k).flatten ++ ps[k] := by
  rw [List.take_succ_eq_append_getElem h, List.flatten_append]; simp
def flatT (ps : List (List (List UInt8))) (k : Nat) : Nat := (ps.take k).flatten.length
theorem flatT_next {ps : List (List (List UInt8))} {k : Nat} (h : k < ps.length) : flatT ps (k + 1) = flatT ps k + ps[k].length := by
  unfold flatT; rw [flatS_take ps k h, List.length_append]
theorem flatT_le (ps : List (List (List UInt8))) (k : Nat) : flatT ps k ≤ ps.flatten.length := by
  unfold flatT; conv => rhs; rw [← List.take_append_drop k ps, List.flatten_append, List.length_append]
  omega
theorem flatT_end (ps : List (List (List UInt8))) : flatT ps ps.length = ps.flatten.length := by unfold flatT; rw [List.take_length]
set_option maxRecDepth 100000 in
set_option maxHeartbeats 2000000 in
theorem GrowS_any (n : Nat) (hn : n ≤ 1000000) (w : World) :
    Calls Tryz.prog 142 #[.slice none 0 0, .int .i64 n] w fun e w' => ∃ v, e = .returned v ∧ w'.ownsRow w.heap.size 9 1 v 0 [] ∧ Below w.heap.size w w' := by
  by_cases h0 : n = 0
  · subst h0
    go_enter Tryz.func142, Tryz.ntmps142
    go_wp2
    go_ret
    exact ⟨_, rfl, World.ownsRow_nil _ _ _ _, Below.refl _ _⟩
  · obtain ⟨i0, hi, hz0, hz1, hz2⟩ := info_parts infoT10
    have hpos : (0 : Int) < (n : Int) := by omega
    have hrz : ∀ ty, (Builtin.append_ #[84, 3] ty #[.slice none 0 0, .int .i64 (n : Int)]).run Tryz.prog w =
        .ok (.slice (some ⟨w.heap.size, 0, none⟩) n (grownCap w n 0 9)) (w.drew.alloc (.cells (#[] ++ Builtin.zeroCells (Value.string ⟨#[]⟩).cells n ++ Builtin.zeroCells (Value.string ⟨#[]⟩).cells (grownCap w n 0 9 - n)) 9)) := fun ty => by
      have h := Lib.run_append_grow_zeros (P := Tryz.prog) w 84 3 ty 9 i0 _ .i64 .i64 Tryz.underlying84 Tryz.underlying3 hi hz0 none 0 0 [] (run_firstCells_none w.drew i0.size 0 0 0) n (by omega) (by rw [hz1]; decide) (by omega) (by omega)
        (by rw [hz2]; omega) (growslice_fits (by omega) (by rw [hz2]; omega))
      simpa using h
    have hGn : n ≤ grownCap w n 0 9 := grownCap_ge w _ _ _
    have hGm := grownCap_le_maxLen w n 0 9 (by unfold maxLen; omega)
    generalize grownCap w n 0 9 = G at hrz hGn hGm
    generalize hC : (#[] ++ Builtin.zeroCells (Value.string ⟨#[]⟩).cells n ++ Builtin.zeroCells (Value.string ⟨#[]⟩).cells (G - n)) = C at hrz
    have hCs : C.size = G * 1 := by
      have e6 : (Value.string ⟨#[]⟩).cells.size = 1 := rfl
      rw [← hC, Array.size_append, Array.size_append, size_zeroCells, size_zeroCells, e6]
      simp; omega
    clear hC
    have hG63 : G ≤ 9223372036854775807 := by unfold maxLen at hGm; omega
    go_enter Tryz.func142, Tryz.ntmps142
    go_wp2_with (at_builtin; refine Lib.wpList_append_run _ rfl _ _ _ _ rfl _ _ rfl rfl _ _ (hrz _) ?_)
    all_goals (go_ret; exact ⟨_, rfl, World.ownsRow_made w.drew C G (Nat.le_refl _) hGm hCs, (Below.refl _ w).drew.alloc (Nat.le_refl _) _⟩)
/-- What is new: an owned row of texts. -/
def NewStrs (w : World) (L : List (List UInt8)) (v : Value) (w' : World) : Prop := w'.ownsRow w.heap.size 9 1 v L.length (strsV L) ∧ Below w.heap.size w w'
set_option maxHeartbeats 4000000 in
theorem ConcatS_any (ps : List (List (List UInt8))) (v : Value) (w : World) (hv : PartsS w v ps) (hp : ps.length ≤ 1000000) (hn : ps.flatten.length ≤ 1000000) :
    Calls Tryz.prog 126 #[v] w fun e w' => ∃ x, e = .returned x ∧ NewStrs w ps.flatten x w' := by
  obtain ⟨a, ca, rfl, HA0⟩ := hv
  have HA := Lib.hid HA0
  clear HA0
  obtain ⟨i0, hi, hz0, hz1, hz2⟩ := info_parts infoT10
  have hle := flatT_le ps
  have hend := flatT_end ps
  generalize hF : ps.flatten = F at *
  have HF := Lib.hid hF
  clear hF
  go_enter Tryz.func126, Tryz.ntmps126
  go_wp2
  go_loop [3, 11] (fun s3 s11 => ∃ k : Nat, k ≤ ps.length ∧ s11 = .int .i64 k ∧ s3 = .int .i64 (flatT ps k)) (fun _ s11 => ps.length - (intOf s11).toNat)
  case atStart => exact ⟨0, Nat.zero_le _, rfl, rfl⟩
  case round =>
    obtain ⟨k, hk, rfl, rfl⟩ := hrel
    by_cases hlt : k < ps.length
    · obtain ⟨b, o, rfl, hb, hcl⟩ := HA.out (by omega)
      obtain ⟨x, c1, ⟨⟨ax, cx, rfl, hx1, hx2⟩, hx3⟩⟩ := hcl k hlt
      clear hcl hx3 hx1 hx2
      have hf1 := hle (k + 1)
      have HN := Lib.hid (flatT_next hlt)
      have hfl : flatT ps k + ps[k].length ≤ 1000000 := by rw [HN.out] at hf1; omega
      have hng : ¬ ((flatT ps k : Int) + (ps[k].length : Int) < 0) := by omega
      go_wp2
      go_round
      case rel => exact ⟨k + 1, by omega, by go_num, by rw [HN.out]; go_num⟩
      case measure => simp [intOf]; omega
    · obtain rfl : k = ps.length := by omega
      rw [hend]
      go_wp2_with fail; refine (GrowS_any F.length hn _).mono ?_; rintro e w1 ⟨vg, rfl, hown, hb1⟩
      have HO := Lib.hid hown
      clear hown
      go_wp2
      go_loopw [6, 27] (fun s6 s27 wr => ∃ k : Nat, k ≤ ps.length ∧ s27 = .int .i64 k ∧ Below w.heap.size w wr ∧ Aside (wr.ownsRow w.heap.size 9 1 s6 (flatT ps k) (strsV (ps.take k).flatten))) (fun _ s27 _ => ps.length - (intOf s27).toNat)
      case atStart => exact ⟨0, Nat.zero_le _, rfl, hb1, by (show World.ownsRow _ _ _ _ _ _ _); simpa [flatT, strsV] using HO.out⟩
      case round =>
        clear HO hb1
        obtain ⟨k, hk, rfl, hbw, HO⟩ := hrel
        by_cases hlt : k < ps.length
        · obtain ⟨b, o, rfl, hb, hcl⟩ := HA.out (by omega)
          obtain ⟨x, c0, hx⟩ := hcl k hlt
          have c1 : wr.cell? ⟨b, o + k, none⟩ = some x := (hbw.cell (p := ⟨b, o + k, none⟩) hb).trans c0
          clear hcl c0
          have hxs := hx.below hbw
          obtain ⟨⟨ax, cx, rfl, hx1, hx2⟩, hx3⟩ := id hx
          clear hx3 hx1 hx2 hx
          have hf1 := hle (k + 1)
          have HN := Lib.hid (flatT_next hlt)
          have hfl : flatT ps k + ps[k].length ≤ F.length := by rw [HN.out] at hf1; omega
          have HFT := Lib.hid (flatS_take ps k hlt)
          have HX0 : Hid (ax = none → ps[k].length = 0 ∧ cx = 0) := (strs_src hxs).2.1
          have HXS := Lib.hid hxs
          have hsz := hbw.size
          clear hxs
          go_wp2_with (at_builtin; refine wpList_append_any rfl (.tmp 31) (.tmp 32) 84 9 rfl Tryz.underlying84 hi hz0 hz1 hz2 rfl (by decide) (by decide) w.heap.size ax ps[k].length cx (strsV ps[k]) rfl rfl HO.out HX0.out (strsV_len _) (strs_src HXS.out).2.2 (strsV_one _) (by omega) hsz ?_; intro v2 w2 hown2 hb2)
          have HO2 : Hid (w2.ownsRow w.heap.size 9 1 v2 (flatT ps (k + 1)) (strsV (ps.take (k + 1)).flatten)) := by
            (show World.ownsRow _ _ _ _ _ _ _); rw [HN.out, HFT.out, strsV_append]; exact hown2
          have hb3 := hbw.trans hb2
          clear hown2 hb2
          go_roundw
          case rel => exact ⟨k + 1, by omega, by go_num, hb3, HO2.out⟩
          case measure => simp [intOf]; omega
        · obtain rfl : k = ps.length := by omega
          have h1 := HO.out
          rw [hend, List.take_length, HF.out] at h1
          have HBF := Lib.hid h1
          clear h1
          clear HO
          go_wp2
          go_ret
          exact ⟨_, rfl, HBF.out, hbw⟩
theorem int_one {n : Nat} (h : ((n : Int) != 1) = false) : n = 1 := by
  have : (n : Int) = 1 := by simpa using h
  omega
theorem int_zero {n : Nat} (h : ((n : Int) != 0) = false) : n = 0 := by
  have : (n : Int) = 0 := by simpa using h
  omega
set_option maxHeartbeats 4000000 in
theorem refNamesN_any (mi mb nx i : Int) (l : List Nd) (v : Value) (w : World) (hv : Nds w v l) (hl : l.length ≤ 1000000) (hp : (pairsN l).length ≤ 1000000000000) :
    Calls Tryz.prog 50 #[.agg (fsC mi mb nx v), .int .i64 i] w fun e w' => e = .returned (.tuple #[.int .i64 (namesN l i : Int), .int .i64 (inN l i)]) ∧ Below w.heap.size w w' := by
  obtain ⟨a, ca, rfl, hc, hm, hea, hna, HA0⟩ := id hv
  unfold maxLen at hm
  have HA := Lib.hid HA0
  have HE := Lib.hid hea
  clear HA0 hea hv
  have b0 := Blk.new w 28 (fsC mi mb nx (.slice a l.length ca))
  have hB0 := alloc_below w (.cells (fsC mi mb nx (.slice a l.length ca)) 28)
  go_enter Tryz.func50, Tryz.ntmps50
  go_wp2
  generalize w.alloc (.cells (fsC mi mb nx (.slice a l.length ca)) 28) = w1 at *
  have p3 := b0.four.1.2.2.2
  go_loopw [6, 7, 8] (fun s6 s7 s8 wr => ∃ k : Nat, k ≤ l.length ∧ s8 = .int .i64 k ∧ s6 = .int .i64 (cntP (pairsN (l.take k)) i : Int) ∧ s7 = .int .i64 (lastP (pairsN (l.take k)) i) ∧ wr = w1) (fun _ _ s8 _ => l.length - (intOf s8).toNat)
  case atStart => exact ⟨0, Nat.zero_le _, rfl, rfl, rfl, rfl⟩
  case round =>
    obtain ⟨k, hk, rfl, rfl, rfl, rfl⟩ := hrel
    by_cases hlt : k < l.length
    · obtain ⟨b, o, rfl, hb, hcl⟩ := HA.out (by omega)
      obtain ⟨c0, c1, c2, c3, c4, c5⟩ := (hcl k hlt).below hB0 hb
      clear hcl
      have hE := HE.out _ (List.getElem_mem hlt)
      have hz0 := pairsT_zero l k
      have hnx := fun m (hm : m < l[k].ents.length) => pairsT_next hlt hm
      have hen := pairsT_end hlt
      have hle := fun m => Nat.le_trans (cntP_le (pairsT l k m) i) (Nat.le_trans (pairsT_len l k m) hp)
      have HZ := Lib.hid hz0
      have HX := Lib.hid hnx
      have HL := Lib.hid hle
      rw [← hz0]
      clear hz0 hnx hle
      generalize l[k] = y at *
      have HEN := Lib.hid hen
      clear hen
      obtain ⟨yi, yk, yl, yd, yp, ye, yn⟩ := y
      dsimp only at hE c0 c1 c2 c3 c4 c5
      obtain ⟨ae, ne, rfl, hE1, hE2, hE3⟩ := id hE
      unfold maxLen at hE2
      have HC := Lib.hid hE3
      clear hE3 hE
      have k0 : (0 : Int) ≤ (k : Int) := by omega
      have k1 : (k : Int) < (l.length : Int) := by omega
      go_wp2
      go_loopw [6, 7, 9] (fun s6 s7 s9 wq => ∃ m : Nat, m ≤ yn.length ∧ s9 = .int .i64 m ∧ s6 = .int .i64 (cntP (pairsT l k m) i : Int) ∧ s7 = .int .i64 (lastP (pairsT l k m) i) ∧ wq = wr) (fun _ _ s9 _ => yn.length - (intOf s9).toNat)
      case atStart => exact ⟨0, Nat.zero_le _, rfl, rfl, rfl, rfl⟩
      case round =>
        obtain ⟨m, hm2, rfl, rfl, rfl, rfl⟩ := hrel
        by_cases hmlt : m < yn.length
        · obtain ⟨be, oe, rfl, hbe, hce⟩ := HC.out (by omega)
          have d1 := (hB0.cell (p := ⟨be, oe + m * 2 + 1, none⟩) hbe).trans (hce m hmlt).2
          clear hce
          have m0 : (0 : Int) ≤ (m : Int) := by omega
          have m1 : (m : Int) < (yn.length : Int) := by omega
          have hcn : cntP (pairsT l k (m + 1)) i = if yn[m].2 == i then cntP (pairsT l k m) i + 1 else cntP (pairsT l k m) i := by rw [HX.out m hmlt]; exact cntP_next _ _ _
          have hln : lastP (pairsT l k (m + 1)) i = if yn[m].2 == i then yi else lastP (pairsT l k m) i := by rw [HX.out m hmlt]; exact lastP_next _ _ _
          have hbd := HL.out (m + 1)
          generalize yn[m].2 = z at *
          generalize cntP (pairsT l k m) i = U at *
          generalize lastP (pairsT l k m) i = V at *
          cases h : (z == i)
          · rw [h, if_neg (by simp)] at hcn hln
            have H1 := Lib.hid hcn
            have H2 := Lib.hid hln
            clear hcn hln hbd
            go_wp2
            go_roundw
            case rel => exact ⟨m + 1, by omega, by go_num, by rw [H1.out], by rw [H2.out], trivial⟩
            case measure => simp [intOf]; omega
          · rw [h, if_pos rfl] at hcn hln
            rw [hcn] at hbd
            have H1 := Lib.hid hcn
            have H2 := Lib.hid hln
            clear hcn hln
            go_wp2
            go_roundw
            case rel => exact ⟨m + 1, by omega, by go_num, by rw [H1.out]; go_num, by rw [H2.out], trivial⟩
            case measure => simp [intOf]; omega
        · obtain rfl : m = yn.length := by omega
          have H1 := Lib.hid HEN.out
          go_wp2
          go_roundw
          case rel => exact ⟨k + 1, by omega, by go_num, by rw [H1.out], by rw [H1.out], trivial⟩
          case measure => simp [intOf]; omega
    · obtain rfl : k = l.length := by omega
      have H1 := Lib.hid (pairs_all l)
      go_wp2
      go_ret2
      exact ⟨by rw [H1.out]; rfl, hB0⟩
set_option maxHeartbeats 8000000 in
set_option maxRecDepth 100000 in
theorem refFourth_any (mi mb nx : Int) (l : List Nd) (v : Value) (w : World) (hv : Nds w v l) (hl : l.length ≤ 1000000) (hp : (pairsN l).length ≤ 1000000000000) :
    Calls Tryz.prog 23 #[.agg (fsC mi mb nx v)] w fun e w' => e = .returned (.bool (fourthB l)) ∧ Below w.heap.size w w' := by
  obtain ⟨a, ca, rfl, hc, hm, hea, hna, HA0⟩ := id hv
  unfold maxLen at hm
  have HA := Lib.hid HA0
  have HV := Lib.hid hv
  clear HA0 hea hv
  have b0 := Blk.new w 28 (fsC mi mb nx (.slice a l.length ca))
  have hB0 := alloc_below w (.cells (fsC mi mb nx (.slice a l.length ca)) 28)
  go_enter Tryz.func23, Tryz.ntmps23
  go_wp2
  go_loopw [3] (fun s3 wr => ∃ k : Nat, k ≤ l.length ∧ s3 = .int .i64 k ∧ Aside ((l.take k).all (fourthX l) = true) ∧ Below w.heap.size w wr ∧ Aside (Blk wr w.heap.size 28 (fsC mi mb nx (.slice a l.length ca)))) (fun s3 _ => l.length - (intOf s3).toNat)
  case atStart => exact ⟨0, Nat.zero_le _, rfl, by (show _ = _); simp, hB0, b0⟩
  case round =>
    clear b0 hB0
    obtain ⟨k, hk, rfl, HT, hbw, HB⟩ := hrel
    have p3 := HB.out.four.1.2.2.2
    by_cases hlt : k < l.length
    · obtain ⟨b, o, rfl, hb, hcl⟩ := HA.out (by omega)
      obtain ⟨c0, c1, c2, c3, c4, c5⟩ := (hcl k hlt).below hbw hb
      clear hcl
      have hno : fourthX l l[k] = false → fourthB l = false := all_no hlt
      have hye : fourthX l l[k] = true → (l.take (k + 1)).all (fourthX l) = true := allT_next hlt HT.out
      have hE := HV.out.all _ (List.getElem_mem hlt)
      generalize l[k] = y at *
      have HNO := Lib.hid hno
      have HYE := Lib.hid hye
      clear hno hye HT
      obtain ⟨yi, yk, yl, yd, yp, ye, yn⟩ := y
      dsimp only at hE c0 c1 c2 c3 c4 c5
      obtain ⟨ae, ne, rfl, _⟩ := id hE
      clear hE
      have k0 : (0 : Int) ≤ (k : Int) := by omega
      have k1 : (k : Int) < (l.length : Int) := by omega
      have b1 := alloc_below wr (.cells (ndC ⟨yi, yk, yl, yd, yp, .slice ae yn.length ne, yn⟩) 49)
      have hB1 := hbw.trans (b1.mono hbw.size)
      have F1 := HB.out.next b1
      have X1 := Blk.new wr 49 (ndC ⟨yi, yk, yl, yd, yp, .slice ae yn.length ne, yn⟩)
      obtain ⟨⟨p0, p1, p2, p3⟩, _⟩ := F1.four
      obtain ⟨⟨s0, s1, s2, s3, s4, s5⟩, _⟩ := X1.six
      dsimp only at s0 s1 s2 s3 s4 s5
      have hNc := refNamesN_any mi mb nx yi l _ _ (HV.out.below hB1) hl hp
      have HX : Hid (fourthX l ⟨yi, yk, yl, yd, yp, .slice ae yn.length ne, yn⟩ = (decide (yl = (namesN l yi : Int)) && (if yi = 1 then decide (namesN l yi = 0) && decide (yp = 1) else decide (1 ≤ namesN l yi) && (if yk = 2 then decide (namesN l yi = 1) && decide (yp = inN l yi) else true)))) := rfl
      go_wp2_with fail
      refine hNc.mono ?_
      rintro e w2 ⟨rfl, b2⟩
      clear hNc
      generalize namesN l yi = n at *
      generalize inN l yi = d at *
      have X2 := X1.next b2
      have F2 := F1.next b2
      have hB2 := hB1.trans (b2.mono hB1.size)
      clear s0 s1 s2 s3 s4 s5 p0 p1 p2 p3
      obtain ⟨⟨s0, s1, s2, s3, s4, s5⟩, _⟩ := X2.six
      dsimp only at s0 s1 s2 s3 s4 s5
      cases h1 : (yl != (n : Int))
      · have e1 : yl = (n : Int) := by simpa using h1
        cases h2 : (yi == 1)
        · have e2 : ¬ yi = 1 := by simpa using h2
          by_cases h3 : (n : Int) < 1
          · have HN := Lib.hid (HNO.out (HX.out.trans (by rw [decide_eq_true e1, if_neg e2, show decide (1 ≤ n) = false from decide_eq_false (by omega)]; rfl)))
            clear HNO HYE HX
            go_wp2
            go_ret
            exact ⟨ret_bool (by rw [HN.out]), hB2⟩
          · have e3 : decide (1 ≤ n) = true := decide_eq_true (by omega)
            cases h4 : (yk == 2)
            · have HT2 := Lib.hid (HYE.out (HX.out.trans (by rw [decide_eq_true e1, if_neg e2, e3, if_neg (show ¬ yk = 2 by simpa using h4)]; rfl)))
              clear HNO HYE HX
              go_wp2
              go_roundw
              case rel => exact ⟨k + 1, by omega, by go_num, HT2.out, hB2, F2⟩
              case measure => simp [intOf]; omega
            · cases h5 : ((n : Int) != 1)
              · cases h6 : (yp != d)
                · have HT2 := Lib.hid (HYE.out (HX.out.trans (by rw [decide_eq_true e1, if_neg e2, e3, if_pos (show yk = 2 by simpa using h4), decide_eq_true (int_one h5), decide_eq_true (show yp = d by simpa using h6)]; rfl)))
                  clear HNO HYE HX
                  go_wp2
                  go_roundw
                  case rel => exact ⟨k + 1, by omega, by go_num, HT2.out, hB2, F2⟩
                  case measure => simp [intOf]; omega
                · have HN := Lib.hid (HNO.out (HX.out.trans (by rw [if_neg e2, if_pos (show yk = 2 by simpa using h4), decide_eq_false (show ¬ yp = d by simpa using h6)]; simp)))
                  clear HNO HYE HX
                  go_wp2
                  go_ret
                  exact ⟨ret_bool (by rw [HN.out]), hB2⟩
              · have HN := Lib.hid (HNO.out (HX.out.trans (by rw [if_neg e2, if_pos (show yk = 2 by simpa using h4), decide_eq_false (show ¬ n = 1 by rintro rfl; simp at h5)]; simp)))
                clear HNO HYE HX
                go_wp2
                go_ret
                exact ⟨ret_bool (by rw [HN.out]), hB2⟩
        · have e2 : yi = 1 := by simpa using h2
          cases h3 : ((n : Int) != 0)
          · cases h4 : (yp != 1)
            · have HT2 := Lib.hid (HYE.out (HX.out.trans (by rw [decide_eq_true e1, if_pos e2, decide_eq_true (int_zero h3), decide_eq_true (show yp = 1 by simpa using h4)]; rfl)))
              clear HNO HYE HX
              go_wp2
              go_roundw
              case rel => exact ⟨k + 1, by omega, by go_num, HT2.out, hB2, F2⟩
              case measure => simp [intOf]; omega
            · have HN := Lib.hid (HNO.out (HX.out.trans (by rw [if_pos e2, decide_eq_false (show ¬ yp = 1 by simpa using h4)]; simp)))
              clear HNO HYE HX
              go_wp2
              go_ret
              exact ⟨ret_bool (by rw [HN.out]), hB2⟩
          · have HN := Lib.hid (HNO.out (HX.out.trans (by rw [if_pos e2, decide_eq_false (show ¬ n = 0 by rintro rfl; simp at h3)]; simp)))
            clear HNO HYE HX
            go_wp2
            go_ret
            exact ⟨ret_bool (by rw [HN.out]), hB2⟩
      · have HN := Lib.hid (HNO.out (HX.out.trans (by rw [decide_eq_false (show ¬ yl = (n : Int) by simpa using h1)]; rfl)))
        clear HNO HYE HX
        go_wp2
        go_ret
        exact ⟨ret_bool (by rw [HN.out]), hB2⟩
    · obtain rfl : k = l.length := by omega
      have HN : Hid (fourthB l = true) := allT_end HT.out
      go_wp2
      go_ret
      exact ⟨ret_bool (by rw [HN.out]), hbw⟩
end Go.Proofs.YtkdmfeikikmiiaaGreat
