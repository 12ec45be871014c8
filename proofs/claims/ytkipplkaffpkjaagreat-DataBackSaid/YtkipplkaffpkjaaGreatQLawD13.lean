import Derived.Test.YtkipplkaffpkjaaGreatQLawBase13
import Derived.Test.YtkipplkaffpkjaaGreatQMWalkH04
import Derived.Test.YtkipplkaffpkjaaGreatQMWalkB08
import Derived.Deep.Cut
import Derived.Deep.CutRange
import Derived.Deep.RegionHeld3
set_option linter.unusedVariables false
set_option linter.unusedSimpArgs false
/- For every sound file system, and a base, a path and data that are short: what is written is read by each path of the walk that comes to the file, and by no other; the file system stays sound; what was there, written back, makes it as it was (no condition). -/
set_option linter.unusedVariables false
set_option linter.unusedSimpArgs false
namespace Go.Proofs.YtkipplkaffpkjaaGreat
open Go.ChangeShapes Go.WideShapes Go.ChangeAt Go.RowKit
open Go.ChangeMaps (open_string shut_string)
set_option linter.unusedVariables false

set_option maxHeartbeats 8000000 in
set_option maxRecDepth 100000 in
theorem lawBack13 (mi mb nx : Int) (l : List Nd) (base p d : List UInt8) (v : Value) (w : World) (hv : Nds w v l) :
    Calls Tryz.prog 6 #[.agg (fsC mi mb nx v), .string ⟨base.toArray⟩, .string ⟨p.toArray⟩, .string ⟨d.toArray⟩] w fun e w' => e = .returned (.bool true) ∧ Below w.heap.size w w' := by
  obtain ⟨a, ca, rfl⟩ := nds_slice hv
  have bF := Blk.new w 24 (fsC mi mb nx (.slice a l.length ca))
  have hB := alloc_below w (.cells (fsC mi mb nx (.slice a l.length ca)) 24)
  have nV := hv.below hB
  have HV := Lib.hid hv
  clear hv
  cases hf : fit13B mi mb nx l base p d
  · go_enter Tryz.func6, Tryz.ntmps6
    go_wp2_with fail; refine (awake13 _).mono ?_; rintro e w1 ⟨rfl, b⟩
    (replace bF := bF.next b; replace nV := nV.below b; replace hB := hB.trans (b.mono hB.size))
    obtain ⟨⟨p0, p1, p2, p3⟩, _⟩ := bF.four
    go_wp2_with fail; refine (fits13_any mi mb nx l base p d _ _ nV).mono ?_; rintro e w2 ⟨rfl, b2⟩
    (replace bF := bF.next b2; replace nV := nV.below b2; replace hB := hB.trans (b2.mono hB.size))
    rw [hf]
    go_wp2_with fail; refine (awake13 _).mono ?_; rintro e w3 ⟨rfl, b3⟩
    go_wp2
    go_ret
    exact ⟨rfl, hB.trans (b3.mono hB.size)⟩
  obtain ⟨hok, hsh, hdl⟩ := fit13_parts hf
  obtain ⟨hbl, hpl⟩ := short13 hsh
  have hR := fun W hW => Read13_any mi mb nx l base p (.slice a l.length ca) W hW (ok_s hok) (by omega) (by omega)
  by_cases hq : (readF l base p).2 = 0
  case neg =>
    have hb := read_bad hq
    generalize readF l base p = R at *
    obtain ⟨rd, rq⟩ := R
    dsimp only at hb hq
    subst hb
    have hq2 : (rq != 0) = true := by simpa using hq
    go_enter Tryz.func6, Tryz.ntmps6
    go_wp2_with fail; refine (awake13 _).mono ?_; rintro e w1 ⟨rfl, b⟩
    (replace bF := bF.next b; replace nV := nV.below b; replace hB := hB.trans (b.mono hB.size))
    obtain ⟨⟨p0, p1, p2, p3⟩, _⟩ := bF.four
    go_wp2_with fail; refine (fits13_any mi mb nx l base p d _ _ nV).mono ?_; rintro e w2 ⟨rfl, b2⟩
    (replace bF := bF.next b2; replace nV := nV.below b2; replace hB := hB.trans (b2.mono hB.size))
    rw [hf]
    clear b b2 p0 p1 p2 p3
    obtain ⟨⟨p0, p1, p2, p3⟩, _⟩ := bF.four
    go_wp2_with fail
    refine (hR _ nV).mono ?_
    rintro e w3 ⟨rfl, b3⟩
    go_wp2
    go_ret
    exact ⟨rfl, hB.trans (b3.mono hB.size)⟩
  obtain ⟨i, dd, dn, hsk, hi, hk, hst, hwas⟩ := read_ok (ok_s hok) hq
  have hW1 := fun W hW => Write13_any mi mb nx l base p d (.slice a l.length ca) W hW (ok_s hok) (by omega) (by omega) (by omega)
  rw [write_of hi hst hk] at hW1
  have HHR := Lib.hid (show readF l base p = ((getN l i).data, 0) from Prod.ext hwas hq)
  rw [HHR.out] at hR
  clear hq hwas
  by_cases hs : (setF mi mb l i d).2 = 0
  case neg =>
    rw [set_bad hs] at hW1
    clear hs
    generalize (getN l i).data = was at *
    go_enter Tryz.func6, Tryz.ntmps6
    go_wp2_with fail; refine (awake13 _).mono ?_; rintro e w1 ⟨rfl, b⟩
    (replace bF := bF.next b; replace nV := nV.below b; replace hB := hB.trans (b.mono hB.size))
    obtain ⟨⟨p0, p1, p2, p3⟩, _⟩ := bF.four
    go_wp2_with fail; refine (fits13_any mi mb nx l base p d _ _ nV).mono ?_; rintro e w2 ⟨rfl, b2⟩
    (replace bF := bF.next b2; replace nV := nV.below b2; replace hB := hB.trans (b2.mono hB.size))
    rw [hf]
    clear b b2 p0 p1 p2 p3
    obtain ⟨⟨p0, p1, p2, p3⟩, _⟩ := bF.four
    go_wp2_with fail
    refine (hR _ nV).mono ?_
    rintro e w3 ⟨rfl, b3⟩
    (replace bF := bF.next b3; replace nV := nV.below b3; replace hB := hB.trans (b3.mono hB.size))
    clear b3 p0 p1 p2 p3 hR
    obtain ⟨⟨p0, p1, p2, p3⟩, _⟩ := bF.four
    go_wp2_with fail
    refine (hW1 _ nV).mono ?_
    rintro e u1 ⟨y1, rfl, hM1, b3⟩
    have n1 := hM1.now nV b3
    (try dsimp only at n1)
    obtain ⟨a1, c1, rfl⟩ := nds_slice n1
    have s3 := alloc_below u1 (.cells (fsC mi mb nx (.slice a1 l.length c1)) 24)
    have bA := Blk.new u1 24 (fsC mi mb nx (.slice a1 l.length c1))
    replace n1 := n1.below s3
    have b5 := b3.trans (s3.mono b3.size)
    (replace bF := bF.next b5; replace nV := nV.below b5; replace hB := hB.trans (b5.mono hB.size))
    clear b3 s3 b5 p0 p1 p2 p3 hM1 hW1
    obtain ⟨⟨p0, p1, p2, p3⟩, _⟩ := bF.four
    obtain ⟨⟨f0, f1, f2, f3⟩, _⟩ := bA.four
    have hS1 := refTab_any mi mb nx mi mb nx l l _ _ _ nV n1
    rw [tab_alike (onesB_refl l)] at hS1
    go_wp2_with fail
    refine hS1.mono ?_
    rintro e w8 ⟨rfl, b8⟩
    go_wp2
    go_ret
    exact ⟨rfl, hB.trans (b8.mono hB.size)⟩
  obtain ⟨he, hfit⟩ := set_good hs
  rw [he] at hW1
  clear hs he
  have hsnd := ok_sound hok
  have hokL := data_ok (d := d) hok hi hk hfit hdl
  have A := data_alike (data := d) hsnd hi hk
  have hlen := data_len (data := d) hsnd hi
  have hla := list_alike A hlen
  clear hlen
  have HRE := Lib.hid (fun (k : Nat) (hkl : k < (listN l).length) => read_entry (d := d) hok hi hk hkl)
  have HWB := Lib.hid (write_back (d := d) hok hi hk hsk)
  have HDB := Lib.hid (data_back (data := d) hsnd hi)
  have hsl := slim_few (ok_parts hok).1
  have hsL := slim_few (ok_parts hokL).1
  have hll := list_slim hsnd hsl
  have HLF := Lib.hid (fun W hW => refList_any mi mb nx l (.slice a l.length ca) W hW (fun x hx => (hsl.each x hx).2.2) (by have := hsl.len; omega) (by omega))
  have HLG := Lib.hid (fun y W hW => refList_any mi mb nx (dataL l i d) y W hW (fun x hx => (hsL.each x hx).2.2) (by have := hsL.len; omega) (by rw [hla]; omega))
  have HCG := Lib.hid (fun y W hW => refCheck_any mi mb nx (dataL l i d) y W hW (by have := hsL.len; omega) (fun x hx => ⟨fun e he => Nat.le_trans ((hsL.each x hx).2.2 e he) (by decide), Nat.le_trans (hsL.each x hx).2.1 (by decide)⟩) (by have := hsL.pairs; omega) (by have := hsL.bytes; omega))
  have HRG := Lib.hid (fun y (q : List UInt8) W hW (hq : q.length ≤ 20000) => Read13_any mi mb nx (dataL l i d) [47] q y W hW (ok_s hokL) (by decide) hq)
  have HWG := Lib.hid (fun y W hW => Write13_any mi mb nx (dataL l i d) base p (getN l i).data y W hW (ok_s hokL) (by omega) (by omega) (by have := (few_get (ok_parts hok).1 i).2.1; omega))
  have HST := Lib.hid (fun W hW => refStat_any mi mb nx l base p true (.slice a l.length ca) W hW (fun j => (calm_get (calm_of hok) j).2.2.1) (by omega) (by omega))
  have hck := sound_check (data_sound (data := d) hsnd hi hk hfit)
  have HKD := Lib.hid (fun (j : Int) (hj : j = i) => (show (getN l j).kind = 1 by rw [hj]; exact hk))
  rw [hst] at HST
  rw [hck] at HCG
  rw [hla] at HLG
  obtain ⟨ax, nxe, cx, hxs⟩ := get_slice HV.out i
  have hxi := (get_mem hi).2
  generalize dataL l i d = L at *
  have hX : ∀ x : Nd, x.data = (getN l i).data → x.data = (getN l i).data := fun _ h => h
  clear hX
  generalize hXX : getN l i = X at HHR HST HWG HWB HDB hR hxs hxi
  obtain ⟨xi, xk, xl, xd, xp, xe, xn⟩ := X
  dsimp only at hxs hxi
  subst hxs hxi
  dsimp only at hR
  go_enter Tryz.func6, Tryz.ntmps6
  go_wp2_with fail; refine (awake13 _).mono ?_; rintro e w1 ⟨rfl, b⟩
  (replace bF := bF.next b; replace nV := nV.below b; replace hB := hB.trans (b.mono hB.size))
  obtain ⟨⟨p0, p1, p2, p3⟩, _⟩ := bF.four
  go_wp2_with fail; refine (fits13_any mi mb nx l base p d _ _ nV).mono ?_; rintro e w2 ⟨rfl, b2⟩
  (replace bF := bF.next b2; replace nV := nV.below b2; replace hB := hB.trans (b2.mono hB.size))
  rw [hf]
  clear b b2 p0 p1 p2 p3
  obtain ⟨⟨p0, p1, p2, p3⟩, _⟩ := bF.four
  go_wp2_with fail
  refine (hR _ nV).mono ?_
  rintro e w3 ⟨rfl, b3⟩
  (replace bF := bF.next b3; replace nV := nV.below b3; replace hB := hB.trans (b3.mono hB.size))
  clear b3 p0 p1 p2 p3 hR
  obtain ⟨⟨p0, p1, p2, p3⟩, _⟩ := bF.four
  go_wp2_with fail
  refine (hW1 _ nV).mono ?_
  rintro e u1 ⟨y1, rfl, hM1, b3⟩
  have n1 := hM1.now nV b3
  (try dsimp only at n1)
  obtain ⟨a1, c1, rfl⟩ := nds_slice n1
  have s3 := alloc_below u1 (.cells (fsC mi mb nx (.slice a1 L.length c1)) 24)
  have bA := Blk.new u1 24 (fsC mi mb nx (.slice a1 L.length c1))
  replace n1 := n1.below s3
  have b5 := b3.trans (s3.mono b3.size)
  (replace bF := bF.next b5; replace nV := nV.below b5; replace hB := hB.trans (b5.mono hB.size))
  clear b3 s3 b5 p0 p1 p2 p3 hM1 hW1
  obtain ⟨⟨p0, p1, p2, p3⟩, _⟩ := bF.four
  go_wp2_with fail
  refine (HST.out _ nV).mono ?_
  rintro e w4 ⟨rfl, b3⟩
  have s3 := alloc_below w4 (.cells (ndC ⟨xi, xk, xl, xd, xp, .slice ax nxe cx, xn⟩) 29)
  have bX := Blk.new w4 29 (ndC ⟨xi, xk, xl, xd, xp, .slice ax nxe cx, xn⟩)
  have b5 := b3.trans (s3.mono b3.size)
  replace bA := bA.next b5
  replace n1 := n1.below b5
  (replace bF := bF.next b5; replace nV := nV.below b5; replace hB := hB.trans (b5.mono hB.size))
  clear b3 s3 b5 p0 p1 p2 p3 HST
  obtain ⟨⟨p0, p1, p2, p3⟩, _⟩ := bF.four
  go_wp2_with fail
  refine (HLF.out _ nV).mono ?_
  rintro e w5 ⟨v5, rfl, hown5, b5⟩
  obtain ⟨a5, c5, rfl⟩ := own_slice hown5
  have hE5 := own_ents hown5
  replace bA := bA.next b5
  replace bX := bX.next b5
  replace n1 := n1.below b5
  (replace bF := bF.next b5; replace nV := nV.below b5; replace hB := hB.trans (b5.mono hB.size))
  clear b5 hown5 p0 p1 p2 p3 HLF
  obtain ⟨⟨f0, f1, f2, f3⟩, _⟩ := bA.four
  go_wp2_with fail
  refine (HLG.out _ _ n1).mono ?_
  rintro e w6 ⟨v6, rfl, hown6, b5⟩
  have hE6 := own_ents hown6
  replace hE5 := hE5.below b5
  replace bA := bA.next b5
  replace bX := bX.next b5
  replace n1 := n1.below b5
  (replace bF := bF.next b5; replace nV := nV.below b5; replace hB := hB.trans (b5.mono hB.size))
  clear b5 hown6 f0 f1 f2 f3 HLG
  have hSS := refSameS_any _ _ _ _ _ hE5 hE6
  rw [decide_eq_true rfl] at hSS
  go_wp2_with fail
  refine hSS.mono ?_
  rintro e w7 ⟨rfl, b5⟩
  replace hE5 := hE5.below b5
  replace bA := bA.next b5
  replace bX := bX.next b5
  replace n1 := n1.below b5
  (replace bF := bF.next b5; replace nV := nV.below b5; replace hB := hB.trans (b5.mono hB.size))
  clear b5 hSS hE6
  obtain ⟨⟨f0, f1, f2, f3⟩, _⟩ := bA.four
  go_wp2_with fail
  refine (HCG.out _ _ n1).mono ?_
  rintro e w9 ⟨rfl, b5⟩
  replace hE5 := hE5.below b5
  replace bA := bA.next b5
  replace bX := bX.next b5
  replace n1 := n1.below b5
  (replace bF := bF.next b5; replace nV := nV.below b5; replace hB := hB.trans (b5.mono hB.size))
  clear b5 HCG f0 f1 f2 f3
  generalize hLl : listN l = Ll at *
  obtain ⟨a5', c5', e5, hb5, hm5, hE5⟩ := hE5
  simp only [Value.slice.injEq] at e5
  obtain ⟨rfl, _, rfl⟩ := e5
  have HE := Lib.hid hE5
  have HRE2 := Lib.hid (fun (k : Nat) (hkl : k < Ll.length) => (show ∀ (_ : Ll[k].1.length ≤ 4095) (_ : (getN l Ll[k].2).kind = 1), readF L [47] Ll[k].1 = (if Ll[k].2 = xi then d else (getN l Ll[k].2).data, 0) by subst hLl; exact HRE.out k hkl))
  clear hE5 HRE hLl
  unfold maxLen at hm5
  go_wp2
  go_loopw [16] (fun s16 wr => ∃ k : Nat, k ≤ Ll.length ∧ s16 = .int .i64 k ∧ Below w9.heap.size w9 wr) (fun s16 _ => Ll.length - (intOf s16).toNat)
  case atStart => exact ⟨0, Nat.zero_le _, rfl, Below.refl _ _⟩
  case round =>
    obtain ⟨k, hkle, rfl, hbw⟩ := hrel
    by_cases hlt : k < Ll.length
    · obtain ⟨b, o, rfl, hb, hcl⟩ := HE.out (by omega)
      have hc := hcl k hlt
      have hread := HRE2.out k hlt
      clear hcl
      generalize Ll[k] = q at *
      obtain ⟨qp, qz⟩ := q
      dsimp only at hc hread
      have k0 : (0 : Int) ≤ (k : Int) := by omega
      have k1 : (k : Int) < (Ll.length : Int) := by omega
      have c0 := (hbw.cell (p := ⟨b, o + k * 2, none⟩) hb).trans hc.1
      by_cases hlong : 4095 < qp.length
      · go_wp2
        go_roundw
        case rel => exact ⟨k + 1, by omega, by go_num, hbw⟩
        case measure => simp [intOf]; omega
      have hread2 := hread (by omega)
      have hf1 : qz = xi → readF L [47] qp = (d, 0) := fun e => by rw [hread2 (by rw [e]; exact hk), if_pos e]
      have hf2 : qz ≠ xi → (getN l qz).kind = 1 → (readF L [47] qp).1 = (getN l qz).data := fun e hk1 => by rw [hread2 hk1, if_neg e]
      have hRd := fun W hW => HRG.out (.slice a1 L.length c1) qp W hW (by omega)
      clear hread hread2
      have hGt := fun W hW => refGetT_any mi mb nx qz l (.slice a l.length ca) W hW
      obtain ⟨ag, ng, cg, hgs⟩ := get_slice HV.out qz
      generalize readF L [47] qp = RD at *
      obtain ⟨rd, re⟩ := RD
      generalize hGG : getN l qz = G at hGt hgs hf2
      generalize hasN l qz = hs at *
      obtain ⟨gi, gk, gl, gd, gp, ge, gn⟩ := G
      dsimp only at hgs hf1 hf2 hRd
      subst hgs
      have HF1 := Lib.hid hf1
      have HF2 := Lib.hid hf2
      have HC := Lib.hid hc
      clear hf1 hf2 hc hGG
      have hD3 : Below w.heap.size w wr := hB.trans (hbw.mono hB.size)
      have hdr : Below wr.heap.size wr wr.drew := (Below.refl _ _).drew
      have hdr2 : Below wr.heap.size wr (wr.alloc (.cells #[.int .i64 0, .int .i64 0, .int .i64 0, .string ⟨#[]⟩, .int .i64 0, .slice none 0 0] 29)).drew := (alloc_below wr _).drew
      have hN : ∀ W, Below wr.heap.size wr W → Nds W (.slice a l.length ca) l := fun W hW => HV.out.below (hD3.trans (hW.mono hD3.size))
      have HMK : ∀ W, Below wr.heap.size wr W → (W.cell? ⟨w.heap.size, 0, none⟩ = some (.int .i64 mi) ∧ W.cell? ⟨w.heap.size, 1, none⟩ = some (.int .i64 mb) ∧ W.cell? ⟨w.heap.size, 2, none⟩ = some (.int .i64 nx) ∧ W.cell? ⟨w.heap.size, 3, none⟩ = some (.slice a l.length ca) ∧ W.cell? ⟨b, o + k * 2 + 1, none⟩ = some (.int .i64 qz)) := by
        intro W h
        have h2 := hbw.trans (h.mono hbw.size)
        obtain ⟨⟨x0, x1, x2, x3⟩, _⟩ := (bF.next h2).four
        exact ⟨x0, x1, x2, x3, (h2.cell (p := ⟨b, o + k * 2 + 1, none⟩) hb).trans HC.out.2⟩
      have hG1 := hGt _ (hN _ hdr)
      have hG2 := hGt _ (hN _ hdr2)
      have hG3 := hGt (wr.drew.alloc (.cells #[.int .i64 0, .int .i64 0, .int .i64 0, .string ⟨#[]⟩, .int .i64 0, .slice none 0 0] 29)) (hN _ (hdr.alloc hdr.size _))
      have hq := hdr
      go_upto_region 17 with fail
      clear c0
      go_cut [17, 18] from 94 to 103 (fun s17 s18 wc => ∃ BX, s17 = .pointer (some ⟨BX, 0, none⟩) ∧ s18 = .bool hs ∧ Below wr.heap.size wr wc ∧ Aside (Blk wc BX 29 (ndC ⟨gi, gk, gl, gd, gp, .slice ag ng cg, gn⟩)))
      case first =>
        go_region_held3 (fun W => W.cell? ⟨w.heap.size, 0, none⟩ = some (.int .i64 mi) ∧ W.cell? ⟨w.heap.size, 1, none⟩ = some (.int .i64 mb) ∧ W.cell? ⟨w.heap.size, 2, none⟩ = some (.int .i64 nx) ∧ W.cell? ⟨w.heap.size, 3, none⟩ = some (.slice a l.length ca) ∧ W.cell? ⟨b, o + k * 2 + 1, none⟩ = some (.int .i64 qz))
          (first | with_reducible exact HMK _ hq | with_reducible exact HMK _ (hq.alloc hq.size _) | with_reducible exact HMK _ hdr2 | with_reducible exact HMK _ (below_grown hq hgW (Nat.le_refl _) (Nat.le_refl _)))
          (first
            | (go_at_call 20; with_reducible refine hG1.mono ?_; rintro e w6 ⟨rfl, b6⟩; have hq := hq.trans (b6.mono hq.size))
            | (go_at_call 20; (first | with_reducible refine hG3.mono ?_ | with_reducible refine hG2.mono ?_); rintro e w6 ⟨rfl, b6⟩; have hbx : Blk w6 wr.heap.size 29 (ndC zeroN) := Blk.next (W := wr.drew.alloc (.cells #[.int .i64 0, .int .i64 0, .int .i64 0, .string ⟨#[]⟩, .int .i64 0, .slice none 0 0] 29)) (Blk.new wr.drew 29 (ndC zeroN)) b6; have hq := (hq.alloc hq.size (.cells #[.int .i64 0, .int .i64 0, .int .i64 0, .string ⟨#[]⟩, .int .i64 0, .slice none 0 0] 29)).trans (b6.mono (hq.alloc hq.size (.cells #[.int .i64 0, .int .i64 0, .int .i64 0, .string ⟨#[]⟩, .int .i64 0, .slice none 0 0] 29)).size); obtain ⟨⟨x0, x1, x2, x3, x4, x5⟩, f0, f1, f2, f3, f4, f5⟩ := hbx.six; simp only [zeroN] at x0 x1 x2 x3 x4 x5; obtain ⟨W', hW', hbW, hgW⟩ := hbx.put6 ⟨gi, gk, gl, gd, gp, .slice ag ng cg, gn⟩; dsimp only at hW'))
        all_goals (go_wp2_with fail; go_meet)
        all_goals first
          | exact ⟨_, rfl, rfl, hq.alloc hq.size _, Blk.new w6 29 (ndC ⟨gi, gk, gl, gd, gp, .slice ag ng cg, gn⟩)⟩
          | exact ⟨_, rfl, rfl, below_grown hq hgW (Nat.le_refl _) (Nat.le_refl _), hbW⟩
      case rest =>
      rename World => wx
      obtain ⟨BX, rfl, rfl, hbc, HX⟩ := hcut
      clear hG1 hG2 hG3 hq hdr hdr2 hGt HMK hN
      have hbw2 := hbw.trans (hbc.mono hbw.size)
      have hdr : Below wx.heap.size wx wx.drew := (Below.refl _ _).drew
      have hq := hdr
      have hN1 : ∀ W, Below wx.heap.size wx W → Nds W (.slice a1 L.length c1) L := fun W hW => n1.below (hbw2.trans (hW.mono hbw2.size))
      have HMK2 : ∀ W, Below wx.heap.size wx W → (W.cell? ⟨u1.heap.size, 0, none⟩ = some (.int .i64 mi) ∧ W.cell? ⟨u1.heap.size, 1, none⟩ = some (.int .i64 mb) ∧ W.cell? ⟨u1.heap.size, 2, none⟩ = some (.int .i64 nx) ∧ W.cell? ⟨u1.heap.size, 3, none⟩ = some (.slice a1 L.length c1) ∧ W.cell? ⟨b, o + k * 2, none⟩ = some (.string ⟨qp.toArray⟩)) := by
        intro W h
        have h2 := hbw2.trans (h.mono hbw2.size)
        obtain ⟨⟨x0, x1, x2, x3⟩, _⟩ := (bA.next h2).four
        exact ⟨x0, x1, x2, x3, (h2.cell (p := ⟨b, o + k * 2, none⟩) hb).trans HC.out.1⟩
      go_upto_region 18 with fail
      go_cut [19, 20] from 104 to 113 (fun s19 s20 wc => s19 = .string ⟨rd.toArray⟩ ∧ s20 = .int .i64 re ∧ Below wx.heap.size wx wc)
      case first =>
        go_region_held3 (fun W => W.cell? ⟨u1.heap.size, 0, none⟩ = some (.int .i64 mi) ∧ W.cell? ⟨u1.heap.size, 1, none⟩ = some (.int .i64 mb) ∧ W.cell? ⟨u1.heap.size, 2, none⟩ = some (.int .i64 nx) ∧ W.cell? ⟨u1.heap.size, 3, none⟩ = some (.slice a1 L.length c1) ∧ W.cell? ⟨b, o + k * 2, none⟩ = some (.string ⟨qp.toArray⟩))
          (first | with_reducible exact HMK2 _ hq)
          (first | (go_at_call 12; with_reducible refine (hRd _ (hN1 _ hq)).mono ?_; rintro e w6 ⟨rfl, b6⟩; have hq := hq.trans (b6.mono hq.size)))
        all_goals (go_wp2_with fail; go_meet)
        all_goals exact ⟨rfl, rfl, hq⟩
      case rest =>
      rename World => wy
      obtain ⟨rfl, rfl, hbd⟩ := hcut
      have hbw3 := hbw2.trans (hbd.mono hbw2.size)
      have HX2 := Lib.hid (HX.out.next hbd)
      clear hq hdr hN1 HMK2 HX hRd
      obtain ⟨⟨y0, y1, y2, y3, y4, y5⟩, _⟩ := HX2.out.six
      obtain ⟨⟨x0, x1, x2, x3, x4, x5⟩, _⟩ := (bX.next hbw3).six
      dsimp only at x0 x1 x2 x3 x4 x5 y0 y1 y2 y3 y4 y5
      have d1 := (hbw3.cell (p := ⟨b, o + k * 2 + 1, none⟩) hb).trans HC.out.2
      have hbq : ∀ q, Below w9.heap.size w9 (wy.drewN q) := fun q => below_drewN hbw3 q
      by_cases hz : qz = xi
      · have hr := HF1.out hz
        simp only [Prod.mk.injEq] at hr
        obtain ⟨rfl, rfl⟩ := hr
        subst hz
        clear HF1 HF2
        go_upto_region 19 with fail
        go_quiet (fail)
        go_wp2
        go_roundw
        case rel => exact ⟨k + 1, by omega, by go_num, hbq _⟩
        case measure => simp [intOf]; omega
      · have hz2 : (qz == xi) = false := by simpa using hz
        have hz3 : (qz != xi) = true := by simpa using hz
        by_cases hg1 : gk = 1
        · subst hg1
          obtain rfl := HF2.out hz rfl
          clear HF1 HF2 hz
          go_upto_region 19 with fail
          go_quiet (fail)
          go_wp2
          go_roundw
          case rel => exact ⟨k + 1, by omega, by go_num, hbq _⟩
          case measure => simp [intOf]; omega
        · have hg2 : (gk == 1) = false := by simpa using hg1
          clear HF1 HF2 hz
          go_upto_region 19 with fail
          go_quiet (fail)
          go_wp2
          go_roundw
          case rel => exact ⟨k + 1, by omega, by go_num, hbq _⟩
          case measure => simp [intOf]; omega
    · obtain rfl : k = Ll.length := by omega
      have hWG := HWG.out _ _ (n1.below hbw)
      rw [HWB.out] at hWG
      have hTT : ∀ y W, Nds W y (dataL L xi xd) → Nds W (.slice a l.length ca) l → Calls Tryz.prog 19 #[.agg (fsC mi mb nx y), .agg (fsC mi mb nx (.slice a l.length ca))] W fun e w' => e = .returned (.bool true) ∧ Below W.heap.size W w' := fun y W h1 h2 => by
        have := refTab_any mi mb nx mi mb nx _ _ _ _ _ h1 h2
        rwa [tab_alike (decide_eq_true HDB.out)] at this
      dsimp only at hWG
      generalize dataL L xi xd = M at *
      have hB9 := hB.trans (hbw.mono hB.size)
      have bF9 := bF.next hbw
      obtain ⟨⟨f0, f1, f2, f3⟩, _⟩ := (bA.next hbw).four
      go_wp2_with fail
      refine hWG.mono ?_
      rintro e wa ⟨y2, rfl, hM2, b3⟩
      have n2 := hM2.now (n1.below hbw) b3
      obtain ⟨a2, c2, rfl⟩ := nds_slice n2
      have s3 := alloc_below wa (.cells (fsC mi mb nx (.slice a2 M.length c2)) 24)
      have bK := Blk.new wa 24 (fsC mi mb nx (.slice a2 M.length c2))
      replace n2 := n2.below s3
      have b5 := b3.trans (s3.mono b3.size)
      replace bF9 := bF9.next b5
      replace hB9 := hB9.trans (b5.mono hB9.size)
      clear b3 s3 b5 f0 f1 f2 f3 hM2 hWG
      obtain ⟨⟨f0, f1, f2, f3⟩, _⟩ := bK.four
      obtain ⟨⟨g0, g1, g2, g3⟩, _⟩ := bF9.four
      have hS1 := hTT _ _ n2 (HV.out.below hB9)
      go_wp2_with fail
      refine hS1.mono ?_
      rintro e wb ⟨rfl, b8⟩
      go_wp2
      go_ret
      exact ⟨rfl, hB9.trans (b8.mono hB9.size)⟩

namespace LDataBack
set_option maxRecDepth 100000 in
theorem lifted (os : Os) (started : os.Started) (H : Type) (enc : TypeId × Value → H) :
    ReturnsInHanded {} Tryz.checked os 6 .any (Rows.dataBackSpec.pre6 enc Tryz.prog Tryz.f6 Rows.dataBackRow.domain false) (Rows.dataBackSpec.post enc Tryz.prog Tryz.f6 false true false false) := by
  refine returnsInHanded_of_change (C := Tryz.checked) (by kernel_rfl) started (by kernel_rfl) Tryz.func6
    (ChangeSpec.witness6 (enc := enc) (C := Tryz.checked) false ⟨#[], #[.agg #[.int .i64 0, .int .i64 0, .int .i64 0, .slice none 0 0], .string ByteArray.empty, .string ByteArray.empty, .string ByteArray.empty], []⟩ 8 (by kernel_rfl) (by kernel_rfl) (by kernel_rfl) (by kernel_rfl)) ?_
  intro W base args ds gs before hval0 hW hcnd _
  have hval : ∀ (j : Nat) t v, Tryz.f6.params[j]? = some t → args[j]? = some v → Value.okWide Tryz.prog W .any base t v := hval0
  have hW' := hW
  obtain ⟨p, q, hA0, hV, rfl, hfz, hnd⟩ := hW
  have hA : DataW.TrodAll enc Tryz.prog W 0 (fun _ => true) true Tryz.f6.params.toList args.toList ds p := hA0
  rw [Tryz.params6] at hA hval
  obtain ⟨v0, vs0, d0, ds0, p0, q0, hargs, rfl, rfl, k0, r0⟩ := trodAll_cons hA
  obtain ⟨v1, vs1, d1, ds1, p1, q1, rfl, rfl, rfl, k1, r1⟩ := trodAll_cons r0
  obtain ⟨v2, vs2, d2, ds2, p2, q2, rfl, rfl, rfl, k2, r2⟩ := trodAll_cons r1
  obtain ⟨v3, vs3, d3, ds3, p3, q3, rfl, rfl, rfl, k3, r3⟩ := trodAll_cons r2
  obtain ⟨rfl, rfl, rfl⟩ := trodAll_nil r3
  obtain rfl : args = #[v0, v1, v2, v3] := by cases args; simp_all
  obtain ⟨rfl, rfl⟩ := trodVars_none hV
  have ok0 := hval 0 24 v0 rfl rfl
  have ok1 := hval 1 9 v1 rfl rfl
  have ok2 := hval 2 9 v2 rfl rfl
  have ok3 := hval 3 9 v3 rfl rfl
  have lt0 : ∀ x ∈ p0, x.block < W.heap.size := by obtain ⟨m, hm⟩ := k0; exact DataW.trod_lt m _ _ _ hm
  have lt1 : ∀ x ∈ p1, x.block < W.heap.size := by obtain ⟨m, hm⟩ := k1; exact DataW.trod_lt m _ _ _ hm
  have lt2 : ∀ x ∈ p2, x.block < W.heap.size := by obtain ⟨m, hm⟩ := k2; exact DataW.trod_lt m _ _ _ hm
  have lt3 : ∀ x ∈ p3, x.block < W.heap.size := by obtain ⟨m, hm⟩ := k3; exact DataW.trod_lt m _ _ _ hm
  have C : Calls Tryz.prog 6 #[v0, v1, v2, v3] W fun e w' => e = .returned (.bool true) ∧ Below W.heap.size W w' := by
    clear hA0 hval0 hval hW' hcnd hV hfz hnd
    obtain ⟨mi, mb, nx, x, l, rfl, hx⟩ := fs_of_trod k0 ok0
    obtain ⟨s1, rfl, rfl, rfl, hs1⟩ := open_string Tryz.underlying9 ok1 k1
    obtain ⟨s2, rfl, rfl, rfl, hs2⟩ := open_string Tryz.underlying9 ok2 k2
    obtain ⟨s3, rfl, rfl, rfl, hs3⟩ := open_string Tryz.underlying9 ok3 k3
    rw [str_eta s1, str_eta s2, str_eta s3]
    exact lawBack13 mi mb nx l _ _ _ x W hx
  refine C.mono fun e W' ⟨he, bel⟩ => ?_
  subst he
  exact ⟨_, rfl, _, _, _, [], _, [], hW', trodAll_mk1 (shut_bool Tryz.underlying4 _), (trodAll_cons_mk (Below.trod laidOut (by kernel_rfl) (of_decide_eq_true (by kernel_rfl)) k0 bel lt0) (trodAll_cons_mk (Below.trod laidOut (by kernel_rfl) (of_decide_eq_true (by kernel_rfl)) k1 bel lt1) (trodAll_cons_mk (Below.trod laidOut (by kernel_rfl) (of_decide_eq_true (by kernel_rfl)) k2 bel lt2) (trodAll_cons_mk (Below.trod laidOut (by kernel_rfl) (of_decide_eq_true (by kernel_rfl)) k3 bel lt3) trodAll_mk0)))), rfl, bel.frame _, fun h => by cases h⟩
theorem proved : Rows.DataBackSaid :=
  OpenClaim.holds_of_wide 6 Tryz.f6 rfl rfl rfl rfl rfl rfl rfl ⟨rfl, rfl, rfl, rfl, rfl⟩ rfl rfl rfl rfl rfl (by kernel_rfl) Tryz.func6 (by kernel_rfl)
    (of_decide_eq_true (by kernel_rfl)) (by unfold Func.isWrapper; first | (rw [if_pos (by decide +kernel)]; kernel_rfl) | (rw [if_neg (by decide +kernel)]; exact ⟨rfl, rfl⟩))
    (fun os started H enc _ => lifted os started H enc)
#print axioms proved
end LDataBack
end Go.Proofs.YtkipplkaffpkjaaGreat
