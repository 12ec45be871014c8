/- Walks: the document's rule 3. -/
import Derived.Test.YtobepdmpacdakaaGreatQWalkB07
import Derived.Deep.RegionHeld3
import Derived.Deep.Cut
import Derived.Deep.CutRange
set_option linter.unusedVariables false
set_option linter.unusedSimpArgs false
namespace Go.Proofs.YtobepdmpacdakaaGreat
open Go.RowKit

theorem get_slice {w : World} {v : Value} {l : List Nd} (h : Nds w v l) (i : Int) : ∃ a n c, (getN l i).ev = .slice a n c := by
  obtain ⟨a, c, e, _⟩ := get_ents h.all i
  exact ⟨_, _, _, e⟩

set_option maxHeartbeats 8000000 in
set_option maxRecDepth 100000 in
theorem refThird_any (mi mb nx : Int) (l : List Nd) (v : Value) (w : World) (hv : Nds w v l) (hl : l.length ≤ 1000000) :
    Calls Tryz.prog 48 #[.agg (fsC mi mb nx v)] w fun e w' => e = .returned (.bool (thirdB l)) ∧ Below w.heap.size w w' := by
  obtain ⟨a, ca, rfl, hc, hm, hea, hna, HA0⟩ := id hv
  unfold maxLen at hm
  have HA := Lib.hid HA0
  have HV := Lib.hid hv
  clear HA0 hea hv
  have b0 := Blk.new w 24 (fsC mi mb nx (.slice a l.length ca))
  have hB0 := alloc_below w (.cells (fsC mi mb nx (.slice a l.length ca)) 24)
  go_enter Tryz.func48, Tryz.ntmps48
  go_wp2
  go_loopw [3] (fun s3 wr => ∃ k : Nat, k ≤ l.length ∧ s3 = .int .i64 k ∧ Aside ((l.take k).all (thirdX l) = true) ∧ Below w.heap.size w wr ∧ Aside (Blk wr w.heap.size 24 (fsC mi mb nx (.slice a l.length ca)))) (fun s3 _ => l.length - (intOf s3).toNat)
  case atStart => exact ⟨0, Nat.zero_le _, rfl, by (show _ = _); simp, hB0, b0⟩
  case round =>
    clear b0 hB0
    obtain ⟨k, hk, rfl, HT, hbw, HB⟩ := hrel
    have p3 := HB.out.four.1.2.2.2
    by_cases hlt : k < l.length
    · obtain ⟨b, o, rfl, hb, hcl⟩ := HA.out (by omega)
      have HCL := Lib.hid (hcl k hlt)
      clear hcl
      have hno : thirdX l l[k] = false → thirdB l = false := all_no hlt
      have hye : thirdX l l[k] = true → (l.take (k + 1)).all (thirdX l) = true := allT_next hlt HT.out
      have hE := HV.out.all _ (List.getElem_mem hlt)
      generalize l[k] = y at *
      have HNO := Lib.hid hno
      have HYE := Lib.hid hye
      clear hno hye HT
      obtain ⟨yi, yk, yl, yd, yp, ye, yn⟩ := y
      dsimp only at hE
      obtain ⟨ae, ne, rfl, hE1, hE2, hE3⟩ := id hE
      unfold maxLen at hE2
      have HE := Lib.hid hE3
      clear hE3 hE
      have k0 : (0 : Int) ≤ (k : Int) := by omega
      have k1 : (k : Int) < (l.length : Int) := by omega
      go_wp2
      go_loopw [4] (fun s4 wr => ∃ m : Nat, m ≤ yn.length ∧ s4 = .int .i64 m ∧ Aside ((yn.take m).all (fun e => hasN l e.2) = true) ∧ Below w.heap.size w wr ∧ Aside (Blk wr w.heap.size 24 (fsC mi mb nx (.slice (some ⟨b, o, none⟩) l.length ca)))) (fun s4 _ => yn.length - (intOf s4).toNat)
      case atStart => exact ⟨0, Nat.zero_le _, rfl, by (show _ = _); simp, hbw, HB.out⟩
      case round =>
        clear hbw HB p3
        obtain ⟨m, hm2, rfl, HM, hbt, HBt⟩ := hrel
        have p3 := HBt.out.four.1.2.2.2
        obtain ⟨c0, c1, c2, c3, c4, c5⟩ := HCL.out.below hbt hb
        dsimp only at c0 c1 c2 c3 c4 c5
        by_cases hmlt : m < yn.length
        · obtain ⟨be, oe, rfl, hbe, hce⟩ := HE.out (by omega)
          have hd1 := (hce m hmlt).2
          clear hce
          have m0 : (0 : Int) ≤ (m : Int) := by omega
          have m1 : (m : Int) < (yn.length : Int) := by omega
          have HD := Lib.hid hd1
          have hno2 : hasN l yn[m].2 = false → thirdB l = false := fun h => HNO.out (all_no (p := fun e : Ent => hasN l e.2) hmlt h)
          have hye2 : hasN l yn[m].2 = true → (yn.take (m + 1)).all (fun e => hasN l e.2) = true := allT_next (p := fun e : Ent => hasN l e.2) hmlt HM.out
          generalize yn[m].2 = z at *
          have HNO2 := Lib.hid hno2
          have HYE2 := Lib.hid hye2
          clear hno2 hye2 hd1 HM
          have hdr : Below wr.heap.size wr wr.drew := (Below.refl _ _).drew
          have hdr2 : Below wr.heap.size wr (wr.alloc (.cells #[.int .i64 0, .int .i64 0, .int .i64 0, .string ⟨#[]⟩, .int .i64 0, .slice none 0 0] 45)).drew := (alloc_below wr _).drew
          have hGc : ∀ W, Below wr.heap.size wr W → Calls Tryz.prog 21 #[.agg (fsC mi mb nx (.slice (some ⟨b, o, none⟩) l.length ca)), .int .i64 z] W fun e w' => e = .returned (.tuple #[.agg (ndC (getN l z)), .bool (hasN l z)]) ∧ Below W.heap.size W w' :=
            fun W hW => refGetT_any mi mb nx z l _ _ (HV.out.below (hbt.trans (hW.mono hbt.size)))
          have HMK : ∀ W, Below wr.heap.size wr W → (W.cell? ⟨w.heap.size, 0, none⟩ = some (.int .i64 mi) ∧ W.cell? ⟨w.heap.size, 1, none⟩ = some (.int .i64 mb) ∧ W.cell? ⟨w.heap.size, 2, none⟩ = some (.int .i64 nx) ∧ W.cell? ⟨w.heap.size, 3, none⟩ = some (.slice (some ⟨b, o, none⟩) l.length ca) ∧
              W.cell? ⟨b, o + k * 6 + 5, none⟩ = some (.slice (some ⟨be, oe, none⟩) yn.length ne) ∧ W.cell? ⟨be, oe + m * 2 + 1, none⟩ = some (.int .i64 z)) := by
            intro W h
            obtain ⟨⟨x0, x1, x2, x3⟩, _⟩ := (HBt.out.next h).four
            have h2 := hbt.trans (h.mono hbt.size)
            exact ⟨x0, x1, x2, x3, (HCL.out.below h2 hb).2.2.2.2.2, (h2.cell (p := ⟨be, oe + m * 2 + 1, none⟩) hbe).trans HD.out⟩
          obtain ⟨ag, ng, cg, hgs⟩ := get_slice HV.out z
          generalize getN l z = G at *
          obtain ⟨gi, gk, gl, gd, gp, ge, gn⟩ := G
          dsimp only at hgs
          subst hgs
          generalize hr : hasN l z = r at *
          have hG1 := hGc _ hdr
          have hG2 := hGc _ hdr2
          have hG3 := hGc (wr.drew.alloc (.cells #[.int .i64 0, .int .i64 0, .int .i64 0, .string ⟨#[]⟩, .int .i64 0, .slice none 0 0] 45)) (hdr.alloc hdr.size _)
          have hq := hdr
          clear c0 c1 c2 c3 c4 hr
          go_upto_region 7 with fail
          go_cut [5, 6] from 25 to 41 (fun s5 s6 wc => s6 = .bool r ∧ Below wr.heap.size wr wc)
          case first =>
            clear p3 c5
            go_region_held3 (fun W => W.cell? ⟨w.heap.size, 0, none⟩ = some (.int .i64 mi) ∧ W.cell? ⟨w.heap.size, 1, none⟩ = some (.int .i64 mb) ∧ W.cell? ⟨w.heap.size, 2, none⟩ = some (.int .i64 nx) ∧ W.cell? ⟨w.heap.size, 3, none⟩ = some (.slice (some ⟨b, o, none⟩) l.length ca) ∧
              W.cell? ⟨b, o + k * 6 + 5, none⟩ = some (.slice (some ⟨be, oe, none⟩) yn.length ne) ∧ W.cell? ⟨be, oe + m * 2 + 1, none⟩ = some (.int .i64 z))
              (first | with_reducible exact HMK _ hq | with_reducible exact HMK _ (hq.alloc hq.size _) | with_reducible exact HMK _ hdr2 | with_reducible exact HMK _ (below_grown hq hgW (Nat.le_refl _) (Nat.le_refl _)))
              (first
                | (go_at_call 21; with_reducible refine hG1.mono ?_; rintro e w6 ⟨rfl, b6⟩; have hq := hq.trans (b6.mono hq.size))
                | (go_at_call 21; (first | with_reducible refine hG3.mono ?_ | with_reducible refine hG2.mono ?_); rintro e w6 ⟨rfl, b6⟩; have hbx : Blk w6 wr.heap.size 45 (ndC zeroN) := Blk.next (W := wr.drew.alloc (.cells #[.int .i64 0, .int .i64 0, .int .i64 0, .string ⟨#[]⟩, .int .i64 0, .slice none 0 0] 45)) (Blk.new wr.drew 45 (ndC zeroN)) b6; have hq := (hq.alloc hq.size (.cells #[.int .i64 0, .int .i64 0, .int .i64 0, .string ⟨#[]⟩, .int .i64 0, .slice none 0 0] 45)).trans (b6.mono (hq.alloc hq.size (.cells #[.int .i64 0, .int .i64 0, .int .i64 0, .string ⟨#[]⟩, .int .i64 0, .slice none 0 0] 45)).size); obtain ⟨⟨x0, x1, x2, x3, x4, x5⟩, f0, f1, f2, f3, f4, f5⟩ := hbx.six; simp only [zeroN] at x0 x1 x2 x3 x4 x5; obtain ⟨W', hW', hbW, hgW⟩ := hbx.put6 ⟨gi, gk, gl, gd, gp, .slice ag ng cg, gn⟩; dsimp only at hW'))
            all_goals (go_wp2_with fail; go_meet)
            all_goals first
              | exact ⟨rfl, hq.alloc hq.size _⟩
              | exact ⟨rfl, below_grown hq hgW (Nat.le_refl _) (Nat.le_refl _)⟩
          case rest =>
            obtain ⟨rfl, hbc⟩ := hcut
            have hbt2 := hbt.trans (hbc.mono hbt.size)
            have HB2 := HBt.out.next hbc
            cases r
            · have HN := Lib.hid (HNO2.out rfl)
              clear hGc hG1 hG2 hG3 HMK
              go_wp2
              go_ret
              exact ⟨ret_bool (by rw [HN.out]), hbt2⟩
            · have HM2 := Lib.hid (HYE2.out rfl)
              clear hGc hG1 hG2 hG3 HMK
              go_wp2
              go_roundw
              case rel => exact ⟨m + 1, by omega, by go_num, HM2.out, hbt2, HB2⟩
              case measure => simp [intOf]; omega
        · obtain rfl : m = yn.length := by omega
          have HT2 := Lib.hid (HYE.out (allT_end HM.out))
          clear HNO HYE
          go_wp2
          go_roundw
          case rel => exact ⟨k + 1, by omega, by go_num, HT2.out, hbt, HBt.out⟩
          case measure => simp [intOf]; omega
    · obtain rfl : k = l.length := by omega
      have HN : Hid (thirdB l = true) := allT_end HT.out
      go_wp2
      go_ret
      exact ⟨ret_bool (by rw [HN.out]), hbw⟩
end Go.Proofs.YtobepdmpacdakaaGreat
