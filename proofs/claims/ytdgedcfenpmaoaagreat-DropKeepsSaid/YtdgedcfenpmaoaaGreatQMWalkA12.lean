/- Texts put together: WalkC07, WalkA09, WalkB09, WalkC09, WalkA12. -/
import Derived.Test.YtdgedcfenpmaoaaGreatQWalkB07
import Derived.Deep.RegionHeld3
import Derived.Deep.Cut
import Derived.Deep.CutRange
import Derived.Test.YtdgedcfenpmaoaaGreatQMDrop12
import Derived.Test.YtdgedcfenpmaoaaGreatQMWalkF03
import Derived.Test.YtdgedcfenpmaoaaGreatQMCut
import Derived.StillTailTactics
import Derived.Test.YtdgedcfenpmaoaaGreatQMWalkK05
import Derived.Test.YtdgedcfenpmaoaaGreatQMWalkD05
set_option linter.unusedVariables false
set_option linter.unusedSimpArgs false
/- Walks: the document's rule 3. -/
set_option linter.unusedVariables false
set_option linter.unusedSimpArgs false
namespace Go.Proofs.YtdgedcfenpmaoaaGreat
open Go.RowKit

theorem get_slice {w : World} {v : Value} {l : List Nd} (h : Nds w v l) (i : Int) : ∃ a n c, (getN l i).ev = .slice a n c := by
  obtain ⟨a, c, e, _⟩ := get_ents h.all i
  exact ⟨_, _, _, e⟩

set_option maxHeartbeats 8000000 in
set_option maxRecDepth 100000 in
theorem refThird_any (mi mb nx : Int) (l : List Nd) (v : Value) (w : World) (hv : Nds w v l) (hl : l.length ≤ 1000000) :
    Calls Tryz.prog 50 #[.agg (fsC mi mb nx v)] w fun e w' => e = .returned (.bool (thirdB l)) ∧ Below w.heap.size w w' := by
  obtain ⟨a, ca, rfl, hc, hm, hea, hna, HA0⟩ := id hv
  unfold maxLen at hm
  have HA := Lib.hid HA0
  have HV := Lib.hid hv
  clear HA0 hea hv
  have b0 := Blk.new w 24 (fsC mi mb nx (.slice a l.length ca))
  have hB0 := alloc_below w (.cells (fsC mi mb nx (.slice a l.length ca)) 24)
  go_enter Tryz.func50, Tryz.ntmps50
  go_wp2
  go_loopw [3] (fun s3 wr => ∃ k : Nat, k ≤ l.length ∧ s3 = .int .i64 k ∧ Aside ((l.take k).all (thirdX l) = true) ∧ Below w.heap.size w wr ∧ Aside (Blk wr w.heap.size 24 (fsC mi mb nx (.slice a l.length ca)))) (fun s3 _ => l.length - (intOf s3).toNat)
  case atStart => exact ⟨0, Nat.zero_le _, rfl, by (show _ = _); simp, hB0, b0⟩
  case round =>
    clear b0 hB0
    obtain ⟨k, hk, rfl, HT, hbw, HB⟩ := hrel
    have p3 := HB.out.four.1.2.2.2
    by_cases hlt : k < l.length
    · obtain ⟨b, o, rfl, hb, hcl⟩ := HA.out (by omega)
      have HCL := Lib.hid (hcl k hlt)
      clear hcl
      have hno : thirdX l l[k] = false → thirdB l = false := all_no hlt
      have hye : thirdX l l[k] = true → (l.take (k + 1)).all (thirdX l) = true := allT_next hlt HT.out
      have hE := HV.out.all _ (List.getElem_mem hlt)
      generalize l[k] = y at *
      have HNO := Lib.hid hno
      have HYE := Lib.hid hye
      clear hno hye HT
      obtain ⟨yi, yk, yl, yd, yp, ye, yn⟩ := y
      dsimp only at hE
      obtain ⟨ae, ne, rfl, hE1, hE2, hE3⟩ := id hE
      unfold maxLen at hE2
      have HE := Lib.hid hE3
      clear hE3 hE
      have k0 : (0 : Int) ≤ (k : Int) := by omega
      have k1 : (k : Int) < (l.length : Int) := by omega
      go_wp2
      go_loopw [4] (fun s4 wr => ∃ m : Nat, m ≤ yn.length ∧ s4 = .int .i64 m ∧ Aside ((yn.take m).all (fun e => hasN l e.2) = true) ∧ Below w.heap.size w wr ∧ Aside (Blk wr w.heap.size 24 (fsC mi mb nx (.slice (some ⟨b, o, none⟩) l.length ca)))) (fun s4 _ => yn.length - (intOf s4).toNat)
      case atStart => exact ⟨0, Nat.zero_le _, rfl, by (show _ = _); simp, hbw, HB.out⟩
      case round =>
        clear hbw HB p3
        obtain ⟨m, hm2, rfl, HM, hbt, HBt⟩ := hrel
        have p3 := HBt.out.four.1.2.2.2
        obtain ⟨c0, c1, c2, c3, c4, c5⟩ := HCL.out.below hbt hb
        dsimp only at c0 c1 c2 c3 c4 c5
        by_cases hmlt : m < yn.length
        · obtain ⟨be, oe, rfl, hbe, hce⟩ := HE.out (by omega)
          have hd1 := (hce m hmlt).2
          clear hce
          have m0 : (0 : Int) ≤ (m : Int) := by omega
          have m1 : (m : Int) < (yn.length : Int) := by omega
          have HD := Lib.hid hd1
          have hno2 : hasN l yn[m].2 = false → thirdB l = false := fun h => HNO.out (all_no (p := fun e : Ent => hasN l e.2) hmlt h)
          have hye2 : hasN l yn[m].2 = true → (yn.take (m + 1)).all (fun e => hasN l e.2) = true := allT_next (p := fun e : Ent => hasN l e.2) hmlt HM.out
          generalize yn[m].2 = z at *
          have HNO2 := Lib.hid hno2
          have HYE2 := Lib.hid hye2
          clear hno2 hye2 hd1 HM
          have hdr : Below wr.heap.size wr wr.drew := (Below.refl _ _).drew
          have hdr2 : Below wr.heap.size wr (wr.alloc (.cells #[.int .i64 0, .int .i64 0, .int .i64 0, .string ⟨#[]⟩, .int .i64 0, .slice none 0 0] 42)).drew := (alloc_below wr _).drew
          have hGc : ∀ W, Below wr.heap.size wr W → Calls Tryz.prog 19 #[.agg (fsC mi mb nx (.slice (some ⟨b, o, none⟩) l.length ca)), .int .i64 z] W fun e w' => e = .returned (.tuple #[.agg (ndC (getN l z)), .bool (hasN l z)]) ∧ Below W.heap.size W w' :=
            fun W hW => refGetT_any mi mb nx z l _ _ (HV.out.below (hbt.trans (hW.mono hbt.size)))
          have HMK : ∀ W, Below wr.heap.size wr W → (W.cell? ⟨w.heap.size, 0, none⟩ = some (.int .i64 mi) ∧ W.cell? ⟨w.heap.size, 1, none⟩ = some (.int .i64 mb) ∧ W.cell? ⟨w.heap.size, 2, none⟩ = some (.int .i64 nx) ∧ W.cell? ⟨w.heap.size, 3, none⟩ = some (.slice (some ⟨b, o, none⟩) l.length ca) ∧
              W.cell? ⟨b, o + k * 6 + 5, none⟩ = some (.slice (some ⟨be, oe, none⟩) yn.length ne) ∧ W.cell? ⟨be, oe + m * 2 + 1, none⟩ = some (.int .i64 z)) := by
            intro W h
            obtain ⟨⟨x0, x1, x2, x3⟩, _⟩ := (HBt.out.next h).four
            have h2 := hbt.trans (h.mono hbt.size)
            exact ⟨x0, x1, x2, x3, (HCL.out.below h2 hb).2.2.2.2.2, (h2.cell (p := ⟨be, oe + m * 2 + 1, none⟩) hbe).trans HD.out⟩
          obtain ⟨ag, ng, cg, hgs⟩ := get_slice HV.out z
          generalize getN l z = G at *
          obtain ⟨gi, gk, gl, gd, gp, ge, gn⟩ := G
          dsimp only at hgs
          subst hgs
          generalize hr : hasN l z = r at *
          have hG1 := hGc _ hdr
          have hG2 := hGc _ hdr2
          have hG3 := hGc (wr.drew.alloc (.cells #[.int .i64 0, .int .i64 0, .int .i64 0, .string ⟨#[]⟩, .int .i64 0, .slice none 0 0] 42)) (hdr.alloc hdr.size _)
          have hq := hdr
          clear c0 c1 c2 c3 c4 hr
          go_upto_region 7 with fail
          go_cut [5, 6] from 25 to 41 (fun s5 s6 wc => s6 = .bool r ∧ Below wr.heap.size wr wc)
          case first =>
            clear p3 c5
            go_region_held3 (fun W => W.cell? ⟨w.heap.size, 0, none⟩ = some (.int .i64 mi) ∧ W.cell? ⟨w.heap.size, 1, none⟩ = some (.int .i64 mb) ∧ W.cell? ⟨w.heap.size, 2, none⟩ = some (.int .i64 nx) ∧ W.cell? ⟨w.heap.size, 3, none⟩ = some (.slice (some ⟨b, o, none⟩) l.length ca) ∧
              W.cell? ⟨b, o + k * 6 + 5, none⟩ = some (.slice (some ⟨be, oe, none⟩) yn.length ne) ∧ W.cell? ⟨be, oe + m * 2 + 1, none⟩ = some (.int .i64 z))
              (first | with_reducible exact HMK _ hq | with_reducible exact HMK _ (hq.alloc hq.size _) | with_reducible exact HMK _ hdr2 | with_reducible exact HMK _ (below_grown hq hgW (Nat.le_refl _) (Nat.le_refl _)))
              (first
                | (go_at_call 19; with_reducible refine hG1.mono ?_; rintro e w6 ⟨rfl, b6⟩; have hq := hq.trans (b6.mono hq.size))
                | (go_at_call 19; (first | with_reducible refine hG3.mono ?_ | with_reducible refine hG2.mono ?_); rintro e w6 ⟨rfl, b6⟩; have hbx : Blk w6 wr.heap.size 42 (ndC zeroN) := Blk.next (W := wr.drew.alloc (.cells #[.int .i64 0, .int .i64 0, .int .i64 0, .string ⟨#[]⟩, .int .i64 0, .slice none 0 0] 42)) (Blk.new wr.drew 42 (ndC zeroN)) b6; have hq := (hq.alloc hq.size (.cells #[.int .i64 0, .int .i64 0, .int .i64 0, .string ⟨#[]⟩, .int .i64 0, .slice none 0 0] 42)).trans (b6.mono (hq.alloc hq.size (.cells #[.int .i64 0, .int .i64 0, .int .i64 0, .string ⟨#[]⟩, .int .i64 0, .slice none 0 0] 42)).size); obtain ⟨⟨x0, x1, x2, x3, x4, x5⟩, f0, f1, f2, f3, f4, f5⟩ := hbx.six; simp only [zeroN] at x0 x1 x2 x3 x4 x5; obtain ⟨W', hW', hbW, hgW⟩ := hbx.put6 ⟨gi, gk, gl, gd, gp, .slice ag ng cg, gn⟩; dsimp only at hW'))
            all_goals (go_wp2_with fail; go_meet)
            all_goals first
              | exact ⟨rfl, hq.alloc hq.size _⟩
              | exact ⟨rfl, below_grown hq hgW (Nat.le_refl _) (Nat.le_refl _)⟩
          case rest =>
            obtain ⟨rfl, hbc⟩ := hcut
            have hbt2 := hbt.trans (hbc.mono hbt.size)
            have HB2 := HBt.out.next hbc
            cases r
            · have HN := Lib.hid (HNO2.out rfl)
              clear hGc hG1 hG2 hG3 HMK
              go_wp2
              go_ret
              exact ⟨ret_bool (by rw [HN.out]), hbt2⟩
            · have HM2 := Lib.hid (HYE2.out rfl)
              clear hGc hG1 hG2 hG3 HMK
              go_wp2
              go_roundw
              case rel => exact ⟨m + 1, by omega, by go_num, HM2.out, hbt2, HB2⟩
              case measure => simp [intOf]; omega
        · obtain rfl : m = yn.length := by omega
          have HT2 := Lib.hid (HYE.out (allT_end HM.out))
          clear HNO HYE
          go_wp2
          go_roundw
          case rel => exact ⟨k + 1, by omega, by go_num, HT2.out, hbt, HBt.out⟩
          case measure => simp [intOf]; omega
    · obtain rfl : k = l.length := by omega
      have HN : Hid (thirdB l = true) := allT_end HT.out
      go_wp2
      go_ret
      exact ⟨ret_bool (by rw [HN.out]), hbw⟩
end Go.Proofs.YtdgedcfenpmaoaaGreat

/- Walks: the document's At and Get of plain paths. -/
set_option linter.unusedVariables false
set_option linter.unusedSimpArgs false
namespace Go.Proofs.YtdgedcfenpmaoaaGreat
open Go.RowKit

abbrev spC (s : Sp) : Array Value := #[.int .i64 s.dir, .string ⟨s.name.toArray⟩, .int .i64 s.ino]
/-- A block of three cells: what a walk asks of it. -/
theorem Blk.three {W : World} {B : Nat} {t : TypeId} {a b c : Value} (h : Blk W B t #[a, b, c]) :
    (W.cell? ⟨B, 0, none⟩ = some a ∧ W.cell? ⟨B, 1, none⟩ = some b ∧ W.cell? ⟨B, 2, none⟩ = some c) ∧
      (W.frozen? ⟨B, 0, none⟩ = false ∧ W.frozen? ⟨B, 1, none⟩ = false ∧ W.frozen? ⟨B, 2, none⟩ = false) :=
  ⟨⟨(h.cell 0).trans rfl, (h.cell 1).trans rfl, (h.cell 2).trans rfl⟩, h.frozen 0, h.frozen 1, h.frozen 2⟩
/-- A struct of three cells stored whole. -/
theorem Blk.put3 {W : World} {B : Nat} {t : TypeId} {a b c : Value} (h : Blk W B t #[a, b, c]) (p q r : Value) :
    ∃ W', ((W.setCell ⟨B, 0, none⟩ p).setCell ⟨B, 1, none⟩ q).setCell ⟨B, 2, none⟩ r = W' ∧ Blk W' B t #[p, q, r] ∧ W.grownBy W' (some B) := by
  refine ⟨_, rfl, ?_, ?_⟩
  · exact ((h.set 0 p).set 1 q).set 2 r
  · exact ((grownBy_set W B 0 p).trans (grownBy_set _ B 1 q)).trans (grownBy_set _ B 2 r)

set_option maxHeartbeats 8000000 in
set_option maxRecDepth 100000 in
theorem refAt_any (mi mb nx : Int) (l : List Nd) (p : List UInt8) (v : Value) (w : World) (hv : Nds w v l) (hp : p.length ≤ 100000) :
    Calls Tryz.prog 90 #[.agg (fsC mi mb nx v), .string ⟨p.toArray⟩] w fun e w' => e = .returned (.tuple #[.agg (spC (atP l p).1), .int .i64 (atP l p).2]) ∧ Below w.heap.size w w' := by
  obtain ⟨a, ca, rfl⟩ := nds_slice hv
  have HV := Lib.hid hv
  have bF := (Blk.new w 24 (fsC mi mb nx (.slice a l.length ca))).alloc (.cells (spC zeroS) 37)
  have bR := Blk.new (w.alloc (.cells (fsC mi mb nx (.slice a l.length ca)) 24)) 37 (spC zeroS)
  have hB0 : Below w.heap.size w ((w.alloc (.cells (fsC mi mb nx (.slice a l.length ca)) 24)).alloc (.cells (spC zeroS) 37)) := ((Below.refl _ w).alloc (Nat.le_refl _) _).alloc (by simp) _
  simp only [World.size_alloc] at bR
  have hct := namesB_count p
  clear hv
  go_enter Tryz.func90, Tryz.ntmps90
  go_wp2_with fail
  refine (refPlain_any p _ hp).mono ?_
  rintro e w1 ⟨vn, rfl, hst, b1⟩
  replace bF := bF.next b1
  replace bR := bR.next b1
  have hB1 := hB0.trans (b1.mono hB0.size)
  have hl1 : w.heap.size + 2 ≤ w1.heap.size := by have := b1.size; simp at this; omega
  clear hB0 b1
  cases hpl : plainB p with
  | none =>
    have HN : Hid (atP l p = (zeroS, 9)) := by (show _ = _); unfold atP; rw [hpl]
    rw [hpl] at hst
    obtain ⟨an, cn, rfl, _⟩ := hst
    obtain ⟨⟨r0, r1, r2⟩, e0, e1, e2⟩ := bR.three
    obtain ⟨W', hW', hb3, hg3⟩ := bR.put3 (.int .i64 0) (.string ⟨#[]⟩) (.int .i64 0)
    have hbl := below_grown hB1 hg3 (Nat.le_refl _) (by omega)
    go_wp2
    obtain ⟨⟨x0, x1, x2⟩, _⟩ := hb3.three
    refine bodyPost_ret (v := .tuple #[.agg #[.int .i64 0, .string ⟨#[]⟩, .int .i64 0], .int .i64 9]) (by simp [results, Tryz.f90, go_sem, x0, x1, x2]) rfl ?_
    exact ⟨by rw [HN.out], hbl⟩
  | some ns =>
    have HN : Hid (atP l p = atN l rootS ns) := by (show _ = _); unfold atP; rw [hpl]
    have hnl : ns.length ≤ 100000 := by have := (plainB_yes hpl).2.2; rw [← this]; omega
    rw [hpl] at hst
    obtain ⟨an, cn, rfl, _, HA0⟩ := hst
    simp only [Option.getD_some] at HA0
    have HA := Lib.hid HA0
    clear HA0 hpl hct
    have hS := alloc_below w1 (.cells (spC rootS) 37)
    have bS := Blk.new w1 37 (spC rootS)
    have hB2 := hB1.trans (hS.mono hB1.size)
    have bF2 := bF.next hS
    have bR2 := bR.next hS
    have HAL : Hid (Below w1.heap.size w1 (w1.alloc (.cells (spC rootS) 37))) := hS
    clear bF bR
    go_wp2
    go_loopw [9] (fun s9 wr => ∃ (k : Nat) (s : Sp), k ≤ ns.length ∧ s9 = .int .i64 k ∧ Aside (atN l s (ns.drop k) = atN l rootS ns) ∧ Below w.heap.size w wr ∧ Below w1.heap.size w1 wr ∧ Aside (Blk wr w.heap.size 24 (fsC mi mb nx (.slice a l.length ca))) ∧ Aside (Blk wr (w.heap.size + 1) 37 (spC zeroS)) ∧ Aside (Blk wr w1.heap.size 37 (spC s))) (fun s9 _ => ns.length - (intOf s9).toNat)
    case atStart => exact ⟨0, rootS, Nat.zero_le _, rfl, rfl, hB2, hS, bF2, bR2, bS⟩
    case round =>
      clear hB2 hS bF2 bR2 bS hB1
      obtain ⟨k, s, hk, rfl, HT, hbw, hbw1, HF, HR, HS⟩ := hrel
      obtain ⟨⟨p0, p1, p2, p3⟩, _⟩ := HF.out.four
      obtain ⟨⟨r0, r1, r2⟩, e0, e1, e2⟩ := HR.out.three
      obtain ⟨⟨s0, s1, s2⟩, _⟩ := HS.out.three
      by_cases hlt : k < ns.length
      · obtain ⟨b, o, rfl, hb, hcl⟩ := HA.out (by omega)
        have c0 := (hbw1.cell (p := ⟨b, o + k, none⟩) hb).trans (hcl k hlt)
        clear hcl
        have hdrop : ns.drop k = ns[k] :: ns.drop (k + 1) := List.drop_eq_getElem_cons hlt
        have hT := HT.out
        rw [hdrop] at hT
        clear HT hdrop
        obtain ⟨sd, sn, si⟩ := s
        dsimp only at s0 s1 s2
        by_cases h0 : si = 0
        · subst h0
          rw [at_gone rfl] at hT
          have HN2 : Hid (atP l p = (zeroS, 1)) := by (show _ = _); rw [HN.out, ← hT]
          obtain ⟨W', hW', hb3, hg3⟩ := HR.out.put3 (.int .i64 0) (.string ⟨#[]⟩) (.int .i64 0)
          have hbl := below_grown hbw hg3 (Nat.le_refl _) (by omega)
          clear hT
          go_wp2
          obtain ⟨⟨x0, x1, x2⟩, _⟩ := hb3.three
          refine bodyPost_ret (v := .tuple #[.agg #[.int .i64 0, .string ⟨#[]⟩, .int .i64 0], .int .i64 1]) (by simp [results, Tryz.f90, go_sem, x0, x1, x2]) rfl ?_
          exact ⟨by rw [HN2.out], hbl⟩
        · have hG := refGetT_any mi mb nx si l _ wr (HV.out.below hbw)
          have hEG := get_ents (HV.out.below hbw).all si
          have hon : (getN l si).kind = 2 → atN l (stepS l si ns[k]) (ns.drop (k + 1)) = atN l rootS ns := fun h => by rw [← hT, at_on h0 h]
          have hfile : (getN l si).kind ≠ 2 → atP l p = (zeroS, 3) := fun h => by rw [HN.out, ← hT, at_file h0 h]
          unfold stepS at hon
          obtain ⟨ag, ng, cg, hgs⟩ := get_slice HV.out si
          clear hT
          generalize ns[k] = n at *
          generalize getN l si = G at *
          generalize hasN l si = r at *
          obtain ⟨gi, gk, gl, gd, gp, ge, gn⟩ := G
          dsimp only at hgs hEG hon hfile
          subst hgs
          have HON := Lib.hid hon
          have HFI := Lib.hid hfile
          clear hon hfile
          go_wp2_with fail
          refine hG.mono ?_
          rintro e w2 ⟨rfl, b2⟩
          clear hG p0 p1 p2 p3 r0 r1 r2 e0 e1 e2 s0 s1 s2
          have b3 := alloc_below w2 (.cells (ndC ⟨gi, gk, gl, gd, gp, .slice ag ng cg, gn⟩) 42)
          have b4 := b2.trans (b3.mono b2.size)
          have hb4 := hbw.trans (b4.mono hbw.size)
          have hb41 := hbw1.trans (b4.mono hbw1.size)
          have HF4 := Lib.hid (HF.out.next b4)
          have HR4 := Lib.hid (HR.out.next b4)
          have HS4 := Lib.hid (HS.out.next b4)
          obtain ⟨⟨r0, r1, r2⟩, e0, e1, e2⟩ := HR4.out.three
          replace hEG := (hEG.below b2).below b3
          have c1 := (b4.cell (p := ⟨b, o + k, none⟩) (Nat.lt_of_lt_of_le hb hbw1.size)).trans c0
          clear b3 c0
          have X := Blk.new w2 42 (ndC ⟨gi, gk, gl, gd, gp, .slice ag ng cg, gn⟩)
          by_cases hk2 : gk = 2
          · subst hk2
            have HT2 := Lib.hid (HON.out rfl)
            clear HON HFI
            go_upto_region 13 with fail
            generalize w2.alloc (.cells (ndC ⟨gi, 2, gl, gd, gp, .slice ag ng cg, gn⟩) 42) = w3 at *
            obtain ⟨⟨x0, x1, x2, x3, x4, x5⟩, _⟩ := X.six
            dsimp only at x0 x1 x2 x3 x4 x5
            have k0 : (0 : Int) ≤ (k : Int) := by omega
            have k1 : (k : Int) < (ns.length : Int) := by omega
            have hEQ : ∀ q, Ents (w3.drewN q) (.slice ag ng cg) gn := fun q => hEG.below (below_drewN (Below.refl _ _) q)
            go_quiet ((go_at_call 68; exact Calls.quiet_of_same ((refFind_any gn n _ _ (hEQ _)).mono fun _ _ h => ⟨h.1, h.2.symm⟩)))
            clear hEQ
            generalize hwd : w3.drewN _ = wd at *
            have hbd : Below w3.heap.size w3 wd := by rw [← hwd]; exact below_drewN (Below.refl _ _) _
            clear hwd x0 x1 x2 x3 x4 x5 r0 r1 r2 e0 e1 e2
            have c2 := (hbd.cell (p := ⟨b, o + k, none⟩) (Nat.lt_of_lt_of_le hb hb41.size)).trans c1
            have hS5 := HS4.out.next hbd
            have X5 := X.next hbd
            obtain ⟨⟨x0, x1, x2, x3, x4, x5⟩, _⟩ := X5.six
            dsimp only at x0 x1 x2 x3 x4 x5
            obtain ⟨⟨s0, s1, s2⟩, f0, f1, f2⟩ := hS5.three
            dsimp only at s0 s1 s2
            have b5 := b4.trans (hbd.mono b4.size)
            go_upto_region 14 with fail
            go_still_tail 8, (by kernel_rfl)
            change wpList _ _ _ _ _ wd.drew
            have hbd6 : Below wd.heap.size wd wd.drew := (Below.refl _ _).drew
            have hS6 := hS5.next hbd6
            generalize wd.drew = we at *
            obtain ⟨⟨s0', s1', s2'⟩, f0', f1', f2'⟩ := hS6.three
            dsimp only at s0' s1' s2'
            obtain ⟨W', hW', hb3', hg3'⟩ := hS6.put3 (.int .i64 gi) (.string ⟨n.toArray⟩) (.int .i64 (numB gn n))
            have b6 := b5.trans (hbd6.mono b5.size)
            have hbw6 := hbw.trans (b6.mono hbw.size)
            have hbw61 := hbw1.trans (b6.mono hbw1.size)
            have hblA := below_grown hbw6 hg3' (Nat.le_refl _) (by have := hb41.size; omega)
            have hblB := below_grown hbw61 hg3' (Nat.le_refl _) (Nat.le_refl _)
            have HF6 := Lib.hid (((HF4.out.next hbd).next hbd6).kept hg3' (by simp; omega))
            have HR6 := Lib.hid (((HR4.out.next hbd).next hbd6).kept hg3' (by simp; omega))
            go_wp2
            go_roundw
            case rel => exact ⟨k + 1, ⟨gi, n, numB gn n⟩, by omega, by go_num, HT2.out, hblA, hblB, HF6.out, HR6.out, hb3'⟩
            case measure => simp [intOf]; omega
          · have HN2 := Lib.hid (HFI.out hk2)
            obtain ⟨W', hW', hb3, hg3⟩ := HR4.out.put3 (.int .i64 0) (.string ⟨#[]⟩) (.int .i64 0)
            have hbl := below_grown hb4 hg3 (Nat.le_refl _) (by omega)
            clear HON HFI
            go_wp2
            obtain ⟨⟨x0, x1, x2⟩, _⟩ := hb3.three
            refine bodyPost_ret (v := .tuple #[.agg #[.int .i64 0, .string ⟨#[]⟩, .int .i64 0], .int .i64 3]) (by simp [results, Tryz.f90, go_sem, x0, x1, x2]) rfl ?_
            exact ⟨by rw [HN2.out], hbl⟩
      · obtain rfl : k = ns.length := by omega
        have HN2 : Hid (atP l p = (s, 0)) := by (show _ = _); rw [HN.out, ← HT.out, List.drop_length]; rfl
        obtain ⟨sd, sn, si⟩ := s
        dsimp only at s0 s1 s2
        obtain ⟨W', hW', hb3, hg3⟩ := HR.out.put3 (.int .i64 sd) (.string ⟨sn.toArray⟩) (.int .i64 si)
        have hbl := below_grown hbw hg3 (Nat.le_refl _) (by omega)
        go_wp2
        obtain ⟨⟨x0, x1, x2⟩, _⟩ := hb3.three
        refine bodyPost_ret (v := .tuple #[.agg #[.int .i64 sd, .string ⟨sn.toArray⟩, .int .i64 si], .int .i64 0]) (by simp [results, Tryz.f90, go_sem, x0, x1, x2]) rfl ?_
        exact ⟨by rw [HN2.out], hbl⟩
end Go.Proofs.YtdgedcfenpmaoaaGreat

/- Walks: the document's Get of a plain path. -/
set_option linter.unusedVariables false
set_option linter.unusedSimpArgs false
namespace Go.Proofs.YtdgedcfenpmaoaaGreat
open Go.RowKit

theorem getP_err {l : List Nd} {p : List UInt8} (h : (atP l p).2 ≠ 0) : getP l p = (zeroN, (atP l p).2) := by unfold getP; rw [if_pos h]
theorem getP_none {l : List Nd} {p : List UInt8} (h : (atP l p).2 = 0) (h2 : (atP l p).1.ino = 0) : getP l p = (zeroN, 1) := by unfold getP; rw [if_neg (by simp [h]), if_pos h2]
theorem getP_some {l : List Nd} {p : List UInt8} (h : (atP l p).2 = 0) (h2 : (atP l p).1.ino ≠ 0) : getP l p = (getN l (atP l p).1.ino, 0) := by unfold getP; rw [if_neg (by simp [h]), if_neg h2]
theorem get_slice0 {w : World} {v : Value} {l : List Nd} (h : Nds w v l) (p : List UInt8) : ∃ a n c, (getP l p).1.ev = .slice a n c := by
  by_cases h1 : (atP l p).2 = 0
  · by_cases h2 : (atP l p).1.ino = 0
    · rw [getP_none h1 h2]; exact ⟨_, _, _, rfl⟩
    · rw [getP_some h1 h2]; exact get_slice h _
  · rw [getP_err h1]; exact ⟨_, _, _, rfl⟩

set_option maxHeartbeats 4000000 in
theorem refGetP_any (mi mb nx : Int) (l : List Nd) (p : List UInt8) (v : Value) (w : World) (hv : Nds w v l) (hp : p.length ≤ 100000) :
    Calls Tryz.prog 67 #[.agg (fsC mi mb nx v), .string ⟨p.toArray⟩] w fun e w' => e = .returned (.tuple #[.agg (ndC (getP l p).1), .int .i64 (getP l p).2]) ∧ Below w.heap.size w w' := by
  obtain ⟨a, ca, rfl⟩ := nds_slice hv
  have bF := (Blk.new w 24 (fsC mi mb nx (.slice a l.length ca))).alloc (.cells #[.int .i64 0, .int .i64 0, .int .i64 0, .string ⟨#[]⟩, .int .i64 0, .slice none 0 0] 42)
  have bR : Blk ((w.alloc (.cells (fsC mi mb nx (.slice a l.length ca)) 24)).alloc (.cells #[.int .i64 0, .int .i64 0, .int .i64 0, .string ⟨#[]⟩, .int .i64 0, .slice none 0 0] 42)) _ 42 (ndC zeroN) := Blk.new (w.alloc (.cells (fsC mi mb nx (.slice a l.length ca)) 24)) 42 (ndC zeroN)
  have hB0 : Below w.heap.size w ((w.alloc (.cells (fsC mi mb nx (.slice a l.length ca)) 24)).alloc (.cells #[.int .i64 0, .int .i64 0, .int .i64 0, .string ⟨#[]⟩, .int .i64 0, .slice none 0 0] 42)) := ((Below.refl _ w).alloc (Nat.le_refl _) _).alloc (by simp) _
  simp only [World.size_alloc] at bR
  have nV := hv.below hB0
  have hA := refAt_any mi mb nx l p _ _ nV hp
  have h1 := getP_err (l := l) (p := p)
  have h2 := getP_none (l := l) (p := p)
  have h3 := getP_some (l := l) (p := p)
  have HV := Lib.hid hv
  clear hv
  generalize atP l p = q at *
  obtain ⟨⟨sd, sn, si⟩, er⟩ := q
  dsimp only at hA h1 h2 h3
  have H1 := Lib.hid h1
  have H2 := Lib.hid h2
  have H3 := Lib.hid h3
  clear h1 h2 h3
  obtain ⟨⟨p0, p1, p2, p3⟩, _⟩ := bF.four
  go_enter Tryz.func67, Tryz.ntmps67
  go_wp2_with fail
  refine hA.mono ?_
  rintro e w1 ⟨rfl, b1⟩
  clear hA p0 p1 p2 p3
  have b2 := alloc_below w1 (.cells (spC ⟨sd, sn, si⟩) 37)
  have b3 := b1.trans (b2.mono b1.size)
  have hB := hB0.trans (b3.mono hB0.size)
  have bF2 := bF.next b3
  have bR2 := bR.next b3
  have bS := Blk.new w1 37 (spC ⟨sd, sn, si⟩)
  obtain ⟨⟨q0, q1, q2, q3, q4, q5⟩, e0, e1, e2, e3, e4, e5⟩ := bR2.six
  simp only [zeroN] at q0 q1 q2 q3 q4 q5
  clear b1 b2 bF bR nV
  by_cases her : er = 0
  · subst her
    by_cases hsi : si = 0
    · subst hsi
      have HN := Lib.hid (H2.out rfl rfl)
      obtain ⟨W', hW', hb6, hg6⟩ := bR2.put6 zeroN
      have hbl := below_grown hB hg6 (Nat.le_refl _) (by omega)
      simp only [zeroN] at hW'
      clear H1 H2 H3
      go_wp2
      obtain ⟨⟨r0, r1, r2, r3, r4, r5⟩, _⟩ := hb6.six
      refine bodyPost_ret (v := .tuple #[.agg (ndC zeroN), .int .i64 1]) (by simp [results, Tryz.f67, go_sem, r0, r1, r2, r3, r4, r5, zeroN]) rfl ?_
      exact ⟨by rw [HN.out], hbl⟩
    · have HN := Lib.hid (H3.out rfl hsi)
      clear H1 H2 H3
      have hG := refGetT_any mi mb nx si l _ _ (HV.out.below hB)
      obtain ⟨ag, ng, cg, hgs⟩ := get_slice HV.out si
      generalize getN l si = G at *
      generalize hasN l si = r at *
      obtain ⟨gi, gk, gl, gd, gp, ge, gn⟩ := G
      dsimp only at hgs
      subst hgs
      obtain ⟨⟨p0, p1, p2, p3⟩, _⟩ := bF2.four
      obtain ⟨⟨s0, s1, s2⟩, _⟩ := bS.three
      dsimp only at s0 s1 s2
      go_wp2_with fail
      refine hG.mono ?_
      rintro e w4 ⟨rfl, b4⟩
      clear hG p0 p1 p2 p3 s0 s1 s2 q0 q1 q2 q3 q4 q5 e0 e1 e2 e3 e4 e5
      have b5 := alloc_below w4 (.cells (ndC ⟨gi, gk, gl, gd, gp, .slice ag ng cg, gn⟩) 42)
      have b6 := b4.trans (b5.mono b4.size)
      have hB6 := hB.trans (b6.mono hB.size)
      have bR6 := bR2.next b6
      have bX := Blk.new w4 42 (ndC ⟨gi, gk, gl, gd, gp, .slice ag ng cg, gn⟩)
      obtain ⟨⟨x0, x1, x2, x3, x4, x5⟩, _⟩ := bX.six
      dsimp only at x0 x1 x2 x3 x4 x5
      obtain ⟨⟨q0, q1, q2, q3, q4, q5⟩, e0, e1, e2, e3, e4, e5⟩ := bR6.six
      simp only [zeroN] at q0 q1 q2 q3 q4 q5
      obtain ⟨W', hW', hb6, hg6⟩ := bR6.put6 ⟨gi, gk, gl, gd, gp, .slice ag ng cg, gn⟩
      have hbl := below_grown hB6 hg6 (Nat.le_refl _) (by omega)
      dsimp only at hW'
      go_wp2
      obtain ⟨⟨r0, r1, r2, r3, r4, r5⟩, _⟩ := hb6.six
      refine bodyPost_ret (v := .tuple #[.agg (ndC ⟨gi, gk, gl, gd, gp, .slice ag ng cg, gn⟩), .int .i64 0]) (by simp [results, Tryz.f67, go_sem, r0, r1, r2, r3, r4, r5]) rfl ?_
      exact ⟨by rw [HN.out], hbl⟩
  · have HN := Lib.hid (H1.out her)
    obtain ⟨W', hW', hb6, hg6⟩ := bR2.put6 zeroN
    have hbl := below_grown hB hg6 (Nat.le_refl _) (by omega)
    simp only [zeroN] at hW'
    clear H1 H2 H3
    go_wp2
    obtain ⟨⟨r0, r1, r2, r3, r4, r5⟩, _⟩ := hb6.six
    refine bodyPost_ret (v := .tuple #[.agg (ndC zeroN), .int .i64 er]) (by simp [results, Tryz.f67, go_sem, r0, r1, r2, r3, r4, r5, zeroN]) rfl ?_
    exact ⟨by rw [HN.out], hbl⟩
end Go.Proofs.YtdgedcfenpmaoaaGreat

/- Walks: the document's Put and Take of plain paths. -/
set_option linter.unusedVariables false
set_option linter.unusedSimpArgs false
namespace Go.Proofs.YtdgedcfenpmaoaaGreat
open Go.RowKit

theorem refWithoutS_any (l : List Ent) (n : List UInt8) (v : Value) (w : World) (hv : Ents w v l) (hs : sortP l) (hl : l.length ≤ 1000000) :
    Calls Tryz.prog 43 #[v, .string ⟨n.toArray⟩] w (OwnEnts w (withoutB l n)) := by
  have := refWithout_any l n v w hv hl
  rwa [without_eq n hs] at this
theorem nd_set5 (i k ln : Int) (d : List UInt8) (p : Int) (v u : Value) (n m : List Ent) : (ndC ⟨i, k, ln, d, p, v, n⟩).setIfInBounds 5 u = ndC ⟨i, k, ln, d, p, u, m⟩ := rfl

end Go.Proofs.YtdgedcfenpmaoaaGreat

/- Walks: the document's Unname. -/
set_option linter.unusedVariables false
set_option linter.unusedSimpArgs false
namespace Go.Proofs.YtdgedcfenpmaoaaGreat
open Go.RowKit

theorem nd_set2 (i k ln m : Int) (d : List UInt8) (p : Int) (v : Value) (n : List Ent) : (ndC ⟨i, k, ln, d, p, v, n⟩).setIfInBounds 2 (.int .i64 m) = ndC ⟨i, k, m, d, p, v, n⟩ := rfl
theorem unL_last {l : List Nd} {d : Int} {n : List UInt8} {i : Int} {ev : Value} (h : (getN l i).links - 1 = 0) : unL l d n i ev = dropN (setN l (lessD (getN l d) n ev)) i := by unfold unL; rw [if_pos h]
theorem unL_more {l : List Nd} {d : Int} {n : List UInt8} {i : Int} {ev : Value} (h : ¬ (getN l i).links - 1 = 0) : unL l d n i ev = setN (setN l (lessD (getN l d) n ev)) (linkX (getN l i) ((getN l i).links - 1)) := by unfold unL; rw [if_neg h]

set_option maxHeartbeats 8000000 in
set_option maxRecDepth 100000 in
theorem refUnname_any (mi mb nx : Int) (l : List Nd) (s : Sp) (v : Value) (w : World) (hv : Nds w v l) (hr : riseP l) (hso : sortP (getN l s.dir).ents) (hel : (getN l s.dir).ents.length ≤ 1000) (hl : l.length ≤ 1000) (hln : -4611686018427387904 ≤ (getN l s.ino).links ∧ (getN l s.ino).links ≤ 4611686018427387904) :
    Calls Tryz.prog 21 #[.agg (fsC mi mb nx v), .agg (spC s)] w fun e w' => ∃ y ev, e = .returned (.agg (fsC mi mb nx y)) ∧ MadeFs w v l w' y (unL l s.dir s.name s.ino ev) ∧ Below w.heap.size w w' := by
  obtain ⟨a, ca, rfl⟩ := nds_slice hv
  obtain ⟨sd, sn, si⟩ := s
  dsimp only at hso hel hln ⊢
  have bF := ((Blk.new w 24 (fsC mi mb nx (.slice a l.length ca))).alloc (.cells (spC ⟨sd, sn, si⟩) 37)).alloc (.cells (fsC 0 0 0 (.slice none 0 0)) 24)
  have bS := (Blk.new (w.alloc (.cells (fsC mi mb nx (.slice a l.length ca)) 24)) 37 (spC ⟨sd, sn, si⟩)).alloc (.cells (fsC 0 0 0 (.slice none 0 0)) 24)
  have bR := Blk.new ((w.alloc (.cells (fsC mi mb nx (.slice a l.length ca)) 24)).alloc (.cells (spC ⟨sd, sn, si⟩) 37)) 24 (fsC 0 0 0 (.slice none 0 0))
  have hB0 : Below w.heap.size w (((w.alloc (.cells (fsC mi mb nx (.slice a l.length ca)) 24)).alloc (.cells (spC ⟨sd, sn, si⟩) 37)).alloc (.cells (fsC 0 0 0 (.slice none 0 0)) 24)) := (((Below.refl _ w).alloc (Nat.le_refl _) _).alloc (by simp) _).alloc (by simp; omega) _
  simp only [World.size_alloc] at bS bR
  have HV := Lib.hid hv
  clear hv
  have hG := refGetT_any mi mb nx sd l _ _ (HV.out.below hB0)
  have hEG := fun W (h : EntsAll W l) => get_ents h sd
  have hEX := fun W (h : EntsAll W l) => get_ents h si
  have hGX := fun W (h : Nds W (.slice a l.length ca) l) => refGetT_any mi mb nx si l _ W h
  have hP0 := fun ev h => unL_last (l := l) (d := sd) (n := sn) (i := si) (ev := ev) h
  have hP1 := fun ev h => unL_more (l := l) (d := sd) (n := sn) (i := si) (ev := ev) h
  unfold lessD at hP0 hP1
  unfold linkX at hP1
  obtain ⟨ag, ng, cg, hgs⟩ := get_slice HV.out sd
  obtain ⟨ax, nxx, cx, hxs⟩ := get_slice HV.out si
  generalize hasN l si = hs2 at *
  generalize hasN l sd = hs1 at *
  generalize getN l si = X at *
  generalize getN l sd = G at *
  obtain ⟨gi, gk, gl, gd, gp, ge, gn⟩ := G
  obtain ⟨xi, xk, xl, xd, xp, xe, xn⟩ := X
  dsimp only at hgs hxs hEG hEX hP0 hP1 hso hel hln
  subst hgs hxs
  have HP0 := Lib.hid hP0
  have HP1 := Lib.hid hP1
  have HEG := Lib.hid hEG
  have HEX := Lib.hid hEX
  clear hP0 hP1 hEG hEX
  obtain ⟨⟨p0, p1, p2, p3⟩, _⟩ := bF.four
  obtain ⟨⟨s0, s1, s2⟩, _⟩ := bS.three
  dsimp only at s0 s1 s2
  go_enter Tryz.func21, Tryz.ntmps21
  go_wp2_with fail
  refine hG.mono ?_
  rintro e w1 ⟨rfl, b1⟩
  clear hG p0 p1 p2 p3 s0 s1 s2
  have b2 := b1.trans ((alloc_below w1 (.cells (ndC ⟨gi, gk, gl, gd, gp, .slice ag ng cg, gn⟩) 42)).mono b1.size)
  have bD := Blk.new w1 42 (ndC ⟨gi, gk, gl, gd, gp, .slice ag ng cg, gn⟩)
  have hDl : w.heap.size + 1 + 1 < w1.heap.size := (bR.next b1).lt
  replace bF := bF.next b2
  replace bS := bS.next b2
  replace bR := bR.next b2
  replace hB0 := hB0.trans (b2.mono hB0.size)
  clear b1 b2
  obtain ⟨⟨p0, p1, p2, p3⟩, _⟩ := bF.four
  obtain ⟨⟨s0, s1, s2⟩, _⟩ := bS.three
  dsimp only at s0 s1 s2
  go_wp2_with fail
  refine (hGX _ (HV.out.below hB0)).mono ?_
  rintro e w2 ⟨rfl, b1⟩
  clear hGX p0 p1 p2 p3 s0 s1 s2
  have b2 := b1.trans ((alloc_below w2 (.cells (ndC ⟨xi, xk, xl, xd, xp, .slice ax nxx cx, xn⟩) 42)).mono b1.size)
  have bX := Blk.new w2 42 (ndC ⟨xi, xk, xl, xd, xp, .slice ax nxx cx, xn⟩)
  have hXl : w1.heap.size < w2.heap.size := (bD.next b1).lt
  replace bF := bF.next b2
  replace bS := bS.next b2
  replace bR := bR.next b2
  replace bD := bD.next b2
  replace hB0 := hB0.trans (b2.mono hB0.size)
  clear b1 b2
  obtain ⟨⟨x0, x1, x2, x3, x4, x5⟩, _⟩ := bD.six
  obtain ⟨⟨s0, s1, s2⟩, _⟩ := bS.three
  dsimp only at s0 s1 s2 x0 x1 x2 x3 x4 x5
  have hWi := refWithoutS_any gn sn _ _ (HEG.out _ (HV.out.below hB0).all) hso (by omega)
  go_wp2_with fail
  refine hWi.mono ?_
  rintro e w3 ⟨vn, rfl, hown, b3⟩
  clear hWi s0 s1 s2 x0 x1 x2 x3 x4 x5
  obtain ⟨an, cn, rfl⟩ := own_slice hown
  have hoB : w2.heap.size < (w2.alloc (.cells (ndC ⟨xi, xk, xl, xd, xp, .slice ax nxx cx, xn⟩) 42)).heap.size := by simp
  replace bF := bF.next b3
  replace bS := bS.next b3
  replace bR := bR.next b3
  replace bD := bD.next b3
  replace bX := bX.next b3
  replace hB0 := hB0.trans (b3.mono hB0.size)
  clear b3
  generalize withoutB gn sn = m at *
  obtain ⟨⟨x0, x1, x2, x3, x4, x5⟩, f0, f1, f2, f3, f4, f5⟩ := bD.six
  dsimp only at x0 x1 x2 x3 x4 x5
  have bD5 := bD.set 5 (.slice an m.length cn)
  rw [nd_set5 gi gk gl gd gp (.slice ag ng cg) (.slice an m.length cn) gn m] at bD5
  have bF5 := bF.other (B2 := w1.heap.size) (i := 5) (by omega) (.slice an m.length cn)
  have bS5 := bS.other (B2 := w1.heap.size) (i := 5) (by omega) (.slice an m.length cn)
  have bR5 := bR.other (B2 := w1.heap.size) (i := 5) (by omega) (.slice an m.length cn)
  have bX5 := bX.other (B2 := w1.heap.size) (i := 5) (by omega) (.slice an m.length cn)
  have hB5 := hB0.setCell (p := ⟨w1.heap.size, 5, none⟩) (by show w.heap.size ≤ w1.heap.size; omega) (.slice an m.length cn)
  generalize (w2.alloc (.cells (ndC ⟨xi, xk, xl, xd, xp, .slice ax nxx cx, xn⟩) 42)).heap.size = NB at *
  have hown5 := World.ownsRow.kept hown (grownBy_set w3 w1.heap.size 5 (.slice an m.length cn)) (own_not hown (by omega))
  generalize hw5 : World.setCell w3 ⟨w1.heap.size, 5, none⟩ (.slice an m.length cn) = w5 at *
  clear bF bS bR bD bX hB0 hown
  generalize w1.heap.size = BD at *
  generalize w2.heap.size = BX at *
  have hwx : IntKind.i64.wrap (xl - 1) = xl - 1 := by rw [IntKind.wrap_i64]; omega
  obtain ⟨⟨y0, y1, y2, y3, y4, y5⟩, g0, g1, g2, g3, g4, g5⟩ := bX5.six
  dsimp only at y0 y1 y2 y3 y4 y5
  have bX6 := bX5.set 2 (.int .i64 (xl - 1))
  rw [nd_set2 xi xk xl (xl - 1)] at bX6
  have bF6 := bF5.other (B2 := BX) (i := 2) (by omega) (.int .i64 (xl - 1))
  have bS6 := bS5.other (B2 := BX) (i := 2) (by omega) (.int .i64 (xl - 1))
  have bR6 := bR5.other (B2 := BX) (i := 2) (by omega) (.int .i64 (xl - 1))
  have bD6 := bD5.other (B2 := BX) (i := 2) (by omega) (.int .i64 (xl - 1))
  have hB6 := hB5.setCell (p := ⟨BX, 2, none⟩) (by show w.heap.size ≤ BX; omega) (.int .i64 (xl - 1))
  have hown6 := World.ownsRow.kept hown5 (grownBy_set w5 BX 2 (.int .i64 (xl - 1))) (own_not hown5 (by omega))
  generalize hw6 : World.setCell w5 ⟨BX, 2, none⟩ (.int .i64 (xl - 1)) = w6 at *
  clear bF5 bS5 bR5 bD5 bX5 hB5 hown5
  obtain ⟨⟨p0, p1, p2, p3⟩, _⟩ := bF6.four
  obtain ⟨⟨d0, d1, d2, d3, d4, d5⟩, _⟩ := bD6.six
  dsimp only at d0 d1 d2 d3 d4 d5
  have hS1 := refSetT_any mi mb nx l ⟨gi, gk, gl, gd, gp, .slice an m.length cn, m⟩ _ _ (HV.out.below hB6) (own_ents hown6) hr (by omega)
  have hr1 : riseP (setN l ⟨gi, gk, gl, gd, gp, .slice an m.length cn, m⟩) := set_rise _ hr
  have hl1 := setN_len l ⟨gi, gk, gl, gd, gp, .slice an m.length cn, m⟩
  have hmem1 : ∀ z ∈ setN l ⟨gi, gk, gl, gd, gp, .slice an m.length cn, m⟩, z = ⟨gi, gk, gl, gd, gp, .slice an m.length cn, m⟩ ∨ z ∈ l := fun z hz => mem_setN hz
  have HQ0 := Lib.hid (fun h => HP0.out (.slice an m.length cn) h)
  have HQ1 := Lib.hid (fun h => HP1.out (.slice an m.length cn) h)
  clear HP0 HP1
  generalize setN l ⟨gi, gk, gl, gd, gp, .slice an m.length cn, m⟩ = l1 at *
  have HM1 := Lib.hid hmem1
  clear hmem1
  go_wp2_with fail
  refine hS1.mono ?_
  rintro e w7 ⟨v7, rfl, hnew⟩
  obtain ⟨a7, c7, rfl⟩ := own_slice hnew.1
  have b7 := hnew.2
  have hown7 := hnew.1
  have hRl : w.heap.size + 1 + 1 < w6.heap.size := bR6.lt
  have hFl : w.heap.size < w6.heap.size := bF6.lt
  have bF7 := bF6.next b7
  have bR7 := bR6.next b7
  have bS7 := bS6.next b7
  have bX7 := bX6.next b7
  have hB7 := hB6.trans (b7.mono hB6.size)
  have hownE := own_keep hown6 b7
  have hsz7 := b7.size
  clear hS1 hnew b7 p0 p1 p2 p3 d0 d1 d2 d3 d4 d5 y0 y1 y2 y3 y4 y5 x0 x1 x2 x3 x4 x5 bF6 bR6 bS6 bX6 bD6 hB6 hown6 f0 f1 f2 f3 f4 f5 g0 g1 g2 g3 g4 g5
  obtain ⟨_, f0, f1, f2, f3⟩ := bF7.four
  obtain ⟨w8, hw8, bF8, hg8⟩ := bF7.put4 (.int .i64 mi) (.int .i64 mb) (.int .i64 nx) (.slice a7 l1.length c7)
  have hsz8 := Nat.le_trans hsz7 hg8.size
  have bR8 := bR7.kept hg8 (by simp; omega)
  have bS8 := bS7.kept hg8 (by simp)
  have bX8 := bX7.kept hg8 (by simp; omega)
  have hB8 := below_grown hB7 hg8 (Nat.le_refl _) (Nat.le_refl _)
  have hown8 := hown7.kept hg8 (own_not hown7 hFl)
  have hownE8 := hownE.kept hg8 (own_not hownE (by omega))
  have hN8 : Nds w8 (.slice a7 l1.length c7) l1 := own_nds hown8 fun z hz => (HM1.out z hz).elim (fun h => by rw [h]; exact own_ents hownE8) (fun h => (HV.out.below hB8).all z h)
  generalize w6.heap.size = B7 at *
  clear hsz7 bF7 bR7 bS7 bX7 hB7 hown7 hownE hg8
  obtain ⟨⟨p0, p1, p2, p3⟩, _⟩ := bF8.four
  obtain ⟨⟨s0, s1, s2⟩, _⟩ := bS8.three
  obtain ⟨⟨x0, x1, x2, x3, x4, x5⟩, _⟩ := bX8.six
  dsimp only at s0 s1 s2 x0 x1 x2 x3 x4 x5
  by_cases h0 : xl - 1 = 0
  · have HN := Lib.hid (HQ0.out h0)
    have hz : ((xl - 1 : Int) == 0) = true := by rw [h0]; rfl
    have hDr := refDropT_any mi mb nx si l1 _ _ hN8 (by omega)
    rw [dropN_eq _ _ hr1] at hDr
    clear h0 HQ0 HQ1 hN8
    go_wp2_with fail
    refine hDr.mono ?_
    rintro e w9 ⟨v9, rfl, hnew⟩
    obtain ⟨a9, c9, rfl⟩ := own_slice hnew.1
    have b9 := hnew.2
    have hB9 := hB8.trans (b9.mono hB8.size)
    have bR9 := bR8.next b9
    have hRl8 := bR8.lt
    have hown9 := hnew.1
    have hownE9 := own_keep hownE8 b9
    clear p0 p1 p2 p3 s0 s1 s2 x0 x1 x2 x3 x4 x5
    obtain ⟨_, e0, e1, e2, e3⟩ := bR9.four
    obtain ⟨W', hW', hb4, hg4⟩ := bR9.put4 (.int .i64 mi) (.int .i64 mb) (.int .i64 nx) (.slice a9 (dropN l1 si).length c9)
    have hbl := below_grown hB9 hg4 (Nat.le_refl _) (by omega)
    have hNW : MadeFs w (.slice a l.length ca) l W' (.slice a9 (dropN l1 si).length c9) (dropN l1 si) := fun W hkW hvW => by
      have hEW := own_ents (own_kept (hownE9.kept hg4 (own_not hownE9 (by omega))) hkW (by omega))
      refine own_nds (own_kept (hown9.kept hg4 (own_not hown9 hRl8)) hkW (by omega)) fun z hz => ?_
      rcases HM1.out z (mem_dropN hz) with rfl | h
      · exact hEW
      · exact hvW.all z h
    clear hDr hnew hB8 bF8 bR8 bS8 bX8 hown8 hownE8 b9 hB9 bR9 hown9 hownE9
    go_wp2
    obtain ⟨⟨r0, r1, r2, r3⟩, _⟩ := hb4.four
    refine bodyPost_ret (v := .agg (fsC mi mb nx (.slice a9 (dropN l1 si).length c9))) (by simp [results, Tryz.f21, go_sem, r0, r1, r2, r3]) rfl ?_
    exact ⟨_, .slice an m.length cn, rfl, by rw [HN.out]; exact hNW, hbl⟩
  · have HN := Lib.hid (HQ1.out h0)
    have hz : ((xl - 1 : Int) == 0) = false := by rw [beq_eq_false_iff_ne]; exact h0
    have hSe := refSetT_any mi mb nx l1 ⟨xi, xk, xl - 1, xd, xp, .slice ax nxx cx, xn⟩ _ _ hN8 (HEX.out _ (HV.out.below hB8).all) hr1 (by omega)
    clear h0 HQ0 HQ1 hN8
    go_wp2_with fail
    refine hSe.mono ?_
    rintro e w9 ⟨v9, rfl, hnew⟩
    obtain ⟨a9, c9, rfl⟩ := own_slice hnew.1
    have b9 := hnew.2
    have hB9 := hB8.trans (b9.mono hB8.size)
    have bR9 := bR8.next b9
    have hRl8 := bR8.lt
    have hown9 := hnew.1
    have hownE9 := own_keep hownE8 b9
    clear p0 p1 p2 p3 s0 s1 s2 x0 x1 x2 x3 x4 x5
    obtain ⟨_, e0, e1, e2, e3⟩ := bR9.four
    obtain ⟨W', hW', hb4, hg4⟩ := bR9.put4 (.int .i64 mi) (.int .i64 mb) (.int .i64 nx) (.slice a9 (setN l1 ⟨xi, xk, xl - 1, xd, xp, .slice ax nxx cx, xn⟩).length c9)
    have hbl := below_grown hB9 hg4 (Nat.le_refl _) (by omega)
    have hNW : MadeFs w (.slice a l.length ca) l W' (.slice a9 (setN l1 ⟨xi, xk, xl - 1, xd, xp, .slice ax nxx cx, xn⟩).length c9) (setN l1 ⟨xi, xk, xl - 1, xd, xp, .slice ax nxx cx, xn⟩) := fun W hkW hvW => by
      have hEW := own_ents (own_kept (hownE9.kept hg4 (own_not hownE9 (by omega))) hkW (by omega))
      refine own_nds (own_kept (hown9.kept hg4 (own_not hown9 hRl8)) hkW (by omega)) fun z hz => ?_
      rcases mem_setN hz with rfl | h
      · exact HEX.out W hvW.all
      rcases HM1.out z h with rfl | h
      · exact hEW
      · exact hvW.all z h
    clear hSe hnew hB8 bF8 bR8 bS8 bX8 hown8 hownE8 b9 hB9 bR9 hown9 hownE9
    go_wp2
    obtain ⟨⟨r0, r1, r2, r3⟩, _⟩ := hb4.four
    refine bodyPost_ret (v := .agg (fsC mi mb nx (.slice a9 (setN l1 ⟨xi, xk, xl - 1, xd, xp, .slice ax nxx cx, xn⟩).length c9))) (by simp [results, Tryz.f21, go_sem, r0, r1, r2, r3]) rfl ?_
    exact ⟨_, .slice an m.length cn, rfl, by rw [HN.out]; exact hNW, hbl⟩
end Go.Proofs.YtdgedcfenpmaoaaGreat
