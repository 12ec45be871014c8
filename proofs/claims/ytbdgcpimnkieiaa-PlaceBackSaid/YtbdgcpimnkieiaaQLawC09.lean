/- For every sound file system and every name of at most 300 bytes: package place leads each path of the walk to its inode, by an entry of the directory there, and nothing on from what is no directory (no condition). -/
import Derived.Test.YtbdgcpimnkieiaaQLawB09
import Derived.Test.YtbdgcpimnkieiaaQWalkB08
import Derived.Deep.Cut
import Derived.Deep.CutRange
namespace Go.Proofs.Ytbdgcpimnkieiaa
open Go.ChangeShapes Go.WideShapes Go.ChangeAt Go.RowKit
open Go.ChangeMaps (open_string shut_string)
set_option linter.unusedVariables false

/-- What the statement's loop needs of the walk. -/
structure Lead (l : List Nd) (L : List Ent) : Prop where
  few : L.length ≤ 1601
  short : ∀ q ∈ L, q.1.length ≤ 20000
  at_ : ∀ k (h : k < L.length), ∃ s : Sp, atP l L[k].1 = (s, 0) ∧ getP l L[k].1 = (getN l L[k].2, 0) ∧ s.ino = L[k].2 ∧ (getN l L[k].2).ino = L[k].2 ∧
    (0 < k → hasN l s.dir = true ∧ hasB (getN l s.dir).ents s.name = true ∧ numB (getN l s.dir).ents s.name = L[k].2) ∧
    (∀ name, 0 < k → (getN l L[k].2).kind ≠ 2 → (atP l (L[k].1 ++ 47 :: name)).2 ≠ 0) ∧ (k = 0 → (getN l L[k].2).kind = 2)
theorem lead_of {mi mb nx : Int} {l : List Nd} (h : okB mi mb nx l = true) : Lead l (listN l) := by
  have t := tree_of h
  obtain ⟨f1, f2, f3⟩ := few_ents (ok_parts h).1
  refine ⟨by rw [list_exact t]; omega, ?_, fun k hk => ?_⟩
  · intro q hq
    have := below_paths f3 (l.length + 1) 1 [47] q hq
    simp at this
    omega
  · obtain ⟨ns, s, h1, h2, h3, h4, h5⟩ := list_at t hk
    have ha := list_atP h1 h3
    rw [← h2] at ha
    refine ⟨s, ha.1, ha.2, h3.ino, (get_mem h3.has).2, fun h0 => ?_, fun name h0 hkd => ?_, fun h0 => ?_⟩
    · obtain ⟨g1, g2, _⟩ := h3.some (h4 h0)
      have g3 := num_mem (ents_pair t s.dir) g2
      exact ⟨by unfold isDir at g1; rw [Bool.and_eq_true] at g1; exact g1.1, g3.2, g3.1⟩
    · rw [h2]; exact more_bad h1 h3 hkd name
    · obtain ⟨r, hr⟩ := list_head t
      subst h0
      have : (listN l)[0] = ([47], 1) := by simp [hr]
      rw [this]; exact t.rootDir

set_option maxHeartbeats 8000000 in
set_option maxRecDepth 100000 in
theorem lawBack (mi mb nx : Int) (l : List Nd) (name : List UInt8) (v : Value) (w : World) (hv : Nds w v l) :
    Calls Try.prog 5 #[.agg (fsC mi mb nx v), .string ⟨name.toArray⟩] w fun e w' => e = .returned (.bool true) ∧ Below w.heap.size w w' := by
  obtain ⟨a, ca, rfl⟩ := nds_slice hv
  have bF := Blk.new w 24 (fsC mi mb nx (.slice a l.length ca))
  have hB := alloc_below w (.cells (fsC mi mb nx (.slice a l.length ca)) 24)
  have nV := hv.below hB
  have HV := Lib.hid hv
  clear hv
  cases hok : okB mi mb nx l
  · go_enter Try.func5, Try.ntmps5
    go_wp2_with fail; refine (awake_any _).mono ?_; rintro e w1 ⟨rfl, b⟩
    (replace bF := bF.next b; replace nV := nV.below b; replace hB := hB.trans (b.mono hB.size))
    obtain ⟨⟨p0, p1, p2, p3⟩, _⟩ := bF.four
    go_wp2_with fail; refine (refOk_any mi mb nx l _ _ nV).mono ?_; rintro e w2 ⟨rfl, b2⟩
    (replace bF := bF.next b2; replace nV := nV.below b2; replace hB := hB.trans (b2.mono hB.size))
    rw [hok]
    go_wp2_with fail; refine (awake_any _).mono ?_; rintro e w3 ⟨rfl, b3⟩
    go_wp2
    go_ret
    exact ⟨rfl, hB.trans (b3.mono hB.size)⟩
  by_cases hp : 300 < name.length
  · go_enter Try.func5, Try.ntmps5
    go_wp2_with fail; refine (awake_any _).mono ?_; rintro e w1 ⟨rfl, b⟩
    (replace bF := bF.next b; replace nV := nV.below b; replace hB := hB.trans (b.mono hB.size))
    obtain ⟨⟨p0, p1, p2, p3⟩, _⟩ := bF.four
    go_wp2_with fail; refine (refOk_any mi mb nx l _ _ nV).mono ?_; rintro e w2 ⟨rfl, b2⟩
    (replace bF := bF.next b2; replace nV := nV.below b2; replace hB := hB.trans (b2.mono hB.size))
    rw [hok]
    go_wp2_with fail; refine (awake_any _).mono ?_; rintro e w3 ⟨rfl, b3⟩
    go_wp2
    go_ret
    exact ⟨rfl, hB.trans (b3.mono hB.size)⟩
  have hld := lead_of hok
  have hcalm := calm_of hok
  have hleads := fun q => leads_in hok q
  obtain ⟨f1, f2, f3⟩ := few_ents (ok_parts hok).1
  have hLl : (listN l).length ≤ 1000000 := by have := hld.few; omega
  have hLc := fun w' (h : Nds w' (.slice a l.length ca) l) => refList_any mi mb nx l _ w' h f3 (by omega) hLl
  generalize listN l = L at *
  have HLD := Lib.hid hld
  have hfew := hld.few
  clear hld hLl f1 f3
  go_enter Try.func5, Try.ntmps5
  go_wp2_with fail; refine (awake_any _).mono ?_; rintro e w1 ⟨rfl, b1⟩
  (replace bF := bF.next b1; replace nV := nV.below b1; replace hB := hB.trans (b1.mono hB.size))
  obtain ⟨⟨p0, p1, p2, p3⟩, _⟩ := bF.four
  go_wp2_with fail; refine (refOk_any mi mb nx l _ _ nV).mono ?_; rintro e w2 ⟨rfl, b2⟩
  (replace bF := bF.next b2; replace nV := nV.below b2; replace hB := hB.trans (b2.mono hB.size))
  rw [hok]
  clear p0 p1 p2 p3
  obtain ⟨⟨p0, p1, p2, p3⟩, _⟩ := bF.four
  have hLc2 := hLc _ nV
  go_wp2_with fail
  refine hLc2.mono ?_
  rintro e w3 ⟨y, rfl, hown, b3⟩
  (replace bF := bF.next b3; replace nV := nV.below b3; replace hB := hB.trans (b3.mono hB.size))
  have hE := own_ents hown
  obtain ⟨ay, cy, rfl, hE1, hE2, hE3⟩ := id hE
  unfold maxLen at hE2
  have HE := Lib.hid hE3
  clear hLc hLc2 p0 p1 p2 p3 b1 b2 b3 hown hE hE3
  go_wp2
  go_loopw [6] (fun s6 wr => ∃ k : Nat, k ≤ L.length ∧ s6 = .int .i64 k ∧ Below w3.heap.size w3 wr) (fun s6 _ => L.length - (intOf s6).toNat)
  case atStart => exact ⟨0, Nat.zero_le _, rfl, Below.refl _ _⟩
  case round =>
    obtain ⟨k, hk, rfl, hbw⟩ := hrel
    by_cases hlt : k < L.length
    · obtain ⟨b, o, rfl, hb, hcl⟩ := HE.out (by omega)
      have hc := hcl k hlt
      have hA := HLD.out.at_ k hlt
      have hsh := HLD.out.short _ (List.getElem_mem hlt)
      clear hcl
      generalize L[k] = q at *
      obtain ⟨qp, qz⟩ := q
      dsimp only at hc hA hsh
      obtain ⟨⟨sd, sn, si⟩, e1, e2, e3, e4, e5, e6, e7⟩ := hA
      dsimp only at e3 e5
      subst e3
      have hAt : ∀ W, Nds W (.slice a l.length ca) l → Calls Try.prog 8 #[.agg (fsC mi mb nx (.slice a l.length ca)), .string ⟨qp.toArray⟩] W fun e w' => e = .returned (.tuple #[.agg (spC ⟨sd, sn, si⟩), .int .i64 0]) ∧ Below W.heap.size W w' := fun W hW => by
        have := At_any mi mb nx l qp _ W hW (by omega) hcalm
        rwa [e1] at this
      have hGt : ∀ W, Nds W (.slice a l.length ca) l → Calls Try.prog 10 #[.agg (fsC mi mb nx (.slice a l.length ca)), .string ⟨qp.toArray⟩] W fun e w' => e = .returned (.tuple #[.agg (ndC (getN l si)), .int .i64 0]) ∧ Below W.heap.size W w' := fun W hW => by
        have := GetP_any mi mb nx l qp _ W hW (by omega) hcalm (hleads qp)
        rwa [e2] at this
      have hMt : ∀ W (r : List UInt8), r.length ≤ 40000 → Nds W (.slice a l.length ca) l → Calls Try.prog 8 #[.agg (fsC mi mb nx (.slice a l.length ca)), .string ⟨r.toArray⟩] W fun e w' => e = .returned (.tuple #[.agg (spC (atP l r).1), .int .i64 (atP l r).2]) ∧ Below W.heap.size W w' := fun W r hr hW => At_any mi mb nx l r _ W hW (by omega) hcalm
      obtain ⟨ag, ng, cg, hgs⟩ := get_slice HV.out si
      have hbad := fun h0 hkd => e6 name h0 hkd
      clear e1 e2 e6
      generalize getN l si = G at *
      obtain ⟨gi, gk, gl, gd, gp, ge, gn⟩ := G
      dsimp only at hgs e4 e7 hbad
      subst hgs e4
      have HBAD := Lib.hid hbad
      have HC := Lib.hid hc
      have H5 := Lib.hid e5
      have H7 := Lib.hid e7
      clear hbad hc e5 e7
      have k0 : (0 : Int) ≤ (k : Int) := by omega
      have k1 : (k : Int) < (L.length : Int) := by omega
      have hD3 : Below w.heap.size w wr := hB.trans (hbw.mono hB.size)
      have hdr : Below wr.heap.size wr wr.drew := (Below.refl _ _).drew
      have hdr2 : Below wr.heap.size wr (wr.alloc (.cells #[.int .i64 0, .int .i64 0, .int .i64 0, .string ⟨#[]⟩, .int .i64 0, .slice none 0 0] 36)).drew := (alloc_below wr _).drew
      have hN : ∀ W, Below wr.heap.size wr W → Nds W (.slice a l.length ca) l := fun W hW => HV.out.below (hD3.trans (hW.mono hD3.size))
      have HMK : ∀ W, Below wr.heap.size wr W → (W.cell? ⟨w.heap.size, 0, none⟩ = some (.int .i64 mi) ∧ W.cell? ⟨w.heap.size, 1, none⟩ = some (.int .i64 mb) ∧ W.cell? ⟨w.heap.size, 2, none⟩ = some (.int .i64 nx) ∧ W.cell? ⟨w.heap.size, 3, none⟩ = some (.slice a l.length ca) ∧ W.cell? ⟨b, o + k * 2, none⟩ = some (.string ⟨qp.toArray⟩)) := by
        intro W h
        have h2 := hbw.trans (h.mono hbw.size)
        obtain ⟨⟨x0, x1, x2, x3⟩, _⟩ := (bF.next h2).four
        exact ⟨x0, x1, x2, x3, (h2.cell (p := ⟨b, o + k * 2, none⟩) hb).trans HC.out.1⟩
      have hG1 := hGt _ (hN _ hdr)
      have hG2 := hGt _ (hN _ hdr2)
      have hG3 := hGt (wr.drew.alloc (.cells #[.int .i64 0, .int .i64 0, .int .i64 0, .string ⟨#[]⟩, .int .i64 0, .slice none 0 0] 36)) (hN _ (hdr.alloc hdr.size _))
      have hq := hdr
      go_upto_region 7 with fail
      go_cut [7, 8] from 39 to 48 (fun s7 s8 wc => ∃ BX, s7 = .pointer (some ⟨BX, 0, none⟩) ∧ s8 = .int .i64 0 ∧ Below wr.heap.size wr wc ∧ Aside (Blk wc BX 36 (ndC ⟨gi, gk, gl, gd, gp, .slice ag ng cg, gn⟩)))
      case first =>
        go_region_held3 (fun W => W.cell? ⟨w.heap.size, 0, none⟩ = some (.int .i64 mi) ∧ W.cell? ⟨w.heap.size, 1, none⟩ = some (.int .i64 mb) ∧ W.cell? ⟨w.heap.size, 2, none⟩ = some (.int .i64 nx) ∧ W.cell? ⟨w.heap.size, 3, none⟩ = some (.slice a l.length ca) ∧ W.cell? ⟨b, o + k * 2, none⟩ = some (.string ⟨qp.toArray⟩))
          (first | with_reducible exact HMK _ hq | with_reducible exact HMK _ (hq.alloc hq.size _) | with_reducible exact HMK _ hdr2 | with_reducible exact HMK _ (below_grown hq hgW (Nat.le_refl _) (Nat.le_refl _)))
          (first
            | (go_at_call 10; with_reducible refine hG1.mono ?_; rintro e w6 ⟨rfl, b6⟩; have hq := hq.trans (b6.mono hq.size))
            | (go_at_call 10; (first | with_reducible refine hG3.mono ?_ | with_reducible refine hG2.mono ?_); rintro e w6 ⟨rfl, b6⟩; have hbx : Blk w6 wr.heap.size 36 (ndC zeroN) := Blk.next (W := wr.drew.alloc (.cells #[.int .i64 0, .int .i64 0, .int .i64 0, .string ⟨#[]⟩, .int .i64 0, .slice none 0 0] 36)) (Blk.new wr.drew 36 (ndC zeroN)) b6; have hq := (hq.alloc hq.size (.cells #[.int .i64 0, .int .i64 0, .int .i64 0, .string ⟨#[]⟩, .int .i64 0, .slice none 0 0] 36)).trans (b6.mono (hq.alloc hq.size (.cells #[.int .i64 0, .int .i64 0, .int .i64 0, .string ⟨#[]⟩, .int .i64 0, .slice none 0 0] 36)).size); obtain ⟨⟨x0, x1, x2, x3, x4, x5⟩, f0, f1, f2, f3, f4, f5⟩ := hbx.six; simp only [zeroN] at x0 x1 x2 x3 x4 x5; obtain ⟨W', hW', hbW, hgW⟩ := hbx.put6 ⟨gi, gk, gl, gd, gp, .slice ag ng cg, gn⟩; dsimp only at hW'))
        all_goals (go_wp2_with fail; go_meet)
        all_goals first
          | exact ⟨_, rfl, rfl, hq.alloc hq.size _, Blk.new w6 36 (ndC ⟨gi, gk, gl, gd, gp, .slice ag ng cg, gn⟩)⟩
          | exact ⟨_, rfl, rfl, below_grown hq hgW (Nat.le_refl _) (Nat.le_refl _), hbW⟩
      case rest =>
        rename World => wx
        obtain ⟨BX, rfl, rfl, hbc, HX⟩ := hcut
        clear hG1 hG2 hG3 hq hdr hdr2 hGt
        have hdr : Below wx.heap.size wx wx.drew := (Below.refl _ _).drew
        have hdr2 : Below wx.heap.size wx (wx.alloc (.cells (spC zeroS) 28)).drew := (alloc_below wx _).drew
        have hN2 : ∀ W, Below wx.heap.size wx W → Nds W (.slice a l.length ca) l := fun W hW => hN _ (hbc.trans (hW.mono hbc.size))
        have HMK2 : ∀ W, Below wx.heap.size wx W → (W.cell? ⟨w.heap.size, 0, none⟩ = some (.int .i64 mi) ∧ W.cell? ⟨w.heap.size, 1, none⟩ = some (.int .i64 mb) ∧ W.cell? ⟨w.heap.size, 2, none⟩ = some (.int .i64 nx) ∧ W.cell? ⟨w.heap.size, 3, none⟩ = some (.slice a l.length ca) ∧ W.cell? ⟨b, o + k * 2, none⟩ = some (.string ⟨qp.toArray⟩)) := fun W hW => HMK _ (hbc.trans (hW.mono hbc.size))
        have hG1 := hAt _ (hN2 _ hdr)
        have hG2 := hAt _ (hN2 _ hdr2)
        have hG3 := hAt (wx.drew.alloc (.cells (spC zeroS) 28)) (hN2 _ (hdr.alloc hdr.size _))
        have hq := hdr
        clear HMK
        go_upto_region 8 with fail
        go_cut [9, 10] from 49 to 58 (fun s9 s10 wc => ∃ BS, s9 = .pointer (some ⟨BS, 0, none⟩) ∧ s10 = .int .i64 0 ∧ Below wx.heap.size wx wc ∧ Aside (Blk wc BS 28 (spC ⟨sd, sn, gi⟩)))
        case first =>
          go_region_held3 (fun W => W.cell? ⟨w.heap.size, 0, none⟩ = some (.int .i64 mi) ∧ W.cell? ⟨w.heap.size, 1, none⟩ = some (.int .i64 mb) ∧ W.cell? ⟨w.heap.size, 2, none⟩ = some (.int .i64 nx) ∧ W.cell? ⟨w.heap.size, 3, none⟩ = some (.slice a l.length ca) ∧ W.cell? ⟨b, o + k * 2, none⟩ = some (.string ⟨qp.toArray⟩))
            (first | with_reducible exact HMK2 _ hq | with_reducible exact HMK2 _ (hq.alloc hq.size _) | with_reducible exact HMK2 _ hdr2 | with_reducible exact HMK2 _ (below_grown hq hgW (Nat.le_refl _) (Nat.le_refl _)))
            (first
              | (go_at_call 8; with_reducible refine hG1.mono ?_; rintro e w6 ⟨rfl, b6⟩; have hq := hq.trans (b6.mono hq.size))
              | (go_at_call 8; (first | with_reducible refine hG3.mono ?_ | with_reducible refine hG2.mono ?_); rintro e w6 ⟨rfl, b6⟩; have hbx : Blk w6 wx.heap.size 28 (spC zeroS) := Blk.next (W := wx.drew.alloc (.cells (spC zeroS) 28)) (Blk.new wx.drew 28 (spC zeroS)) b6; have hq := (hq.alloc hq.size (.cells (spC zeroS) 28)).trans (b6.mono (hq.alloc hq.size (.cells (spC zeroS) 28)).size); obtain ⟨⟨x0, x1, x2⟩, f0, f1, f2⟩ := hbx.three; dsimp only at x0 x1 x2; obtain ⟨W', hW', hbW, hgW⟩ := hbx.put3 (.int .i64 sd) (.string ⟨sn.toArray⟩) (.int .i64 gi)))
          all_goals (go_wp2_with fail; go_meet)
          all_goals first
            | exact ⟨_, rfl, rfl, hq.alloc hq.size _, Blk.new w6 28 (spC ⟨sd, sn, gi⟩)⟩
            | exact ⟨_, rfl, rfl, below_grown hq hgW (Nat.le_refl _) (Nat.le_refl _), hbW⟩
        case rest =>
          obtain ⟨BS, rfl, rfl, hbd, HS⟩ := hcut
          have hbe := hbc.trans (hbd.mono hbc.size)
          have HX2 := Lib.hid (HX.out.next hbd)
          have hN3 : ∀ W, Below wc.heap.size wc W → Nds W (.slice a l.length ca) l := fun W hW => hN _ (hbe.trans (hW.mono hbe.size))
          have hbw3 := hbw.trans (hbe.mono hbw.size)
          clear hG1 hG2 hG3 hq hdr hdr2 HMK2 HX hN2 hN hAt
          obtain ⟨⟨x0, x1, x2, x3, x4, x5⟩, _⟩ := HX2.out.six
          obtain ⟨⟨s0, s1, s2⟩, _⟩ := HS.out.three
          dsimp only at x0 x1 x2 x3 x4 x5 s0 s1 s2
          have d0 := (hbw3.cell (p := ⟨b, o + k * 2, none⟩) hb).trans HC.out.1
          have d1 := (hbw3.cell (p := ⟨b, o + k * 2 + 1, none⟩) hb).trans HC.out.2
          go_upto_region 9 with fail
          go_quiet (fail)
          generalize hwd : wc.drewN _ = wd at *
          have hbq : Below wc.heap.size wc wd := by rw [← hwd]; exact below_drewN (Below.refl _ _) _
          have HX3 := Lib.hid (HX2.out.next hbq)
          have HS3 := Lib.hid (HS.out.next hbq)
          have hbw4 := hbw3.trans (hbq.mono hbw3.size)
          have hN4 : ∀ W, Below wd.heap.size wd W → Nds W (.slice a l.length ca) l := fun W hW => hN3 _ (hbq.trans (hW.mono hbq.size))
          clear hwd x0 x1 x2 x3 x4 x5 s0 s1 s2 d0 d1 HX2 HS hN3 hbw3 hbq hD3 hbc hbd hbe hbw
          have e16 : (ByteArray.mk qp.toArray ++ ByteArray.mk #[47] ++ ByteArray.mk name.toArray) = ⟨(qp ++ 47 :: name).toArray⟩ := by rw [cat47B, catB]; simp
          have e18 : (ByteArray.mk #[47] ++ ByteArray.mk name.toArray) = ⟨(47 :: name).toArray⟩ := by rw [show (#[47] : Array UInt8) = [47].toArray from rfl, catB]; simp
          have n1 : (ByteArray.mk qp.toArray).size ≤ 20000 := by simpa [ByteArray.size] using hsh
          have n2 : (ByteArray.mk name.toArray).size ≤ 300 := by simp [ByteArray.size]; omega
          obtain ⟨⟨x0, x1, x2, x3, x4, x5⟩, _⟩ := HX3.out.six
          obtain ⟨⟨s0, s1, s2⟩, _⟩ := HS3.out.three
          dsimp only at x0 x1 x2 x3 x4 x5 s0 s1 s2
          have d0 := (hbw4.cell (p := ⟨b, o + k * 2, none⟩) hb).trans HC.out.1
          obtain ⟨⟨p0, p1, p2, p3⟩, _⟩ := (bF.next hbw4).four
          by_cases h0 : 0 < k
          · have g0 : (0 : Int) < (k : Int) := by omega
            have hRG := refGetT_any mi mb nx sd l _ _ (hN4 _ (Below.refl _ _))
            have hED := get_ents (hN4 _ (Below.refl _ _)).all sd
            obtain ⟨f5, f6, f7⟩ := H5.out h0
            obtain ⟨ad, nd, cd, hds⟩ := get_slice HV.out sd
            rw [f5] at hRG
            generalize getN l sd = D at *
            obtain ⟨di, dk, dl, dd, dp, de, dn⟩ := D
            dsimp only at hds hED f6 f7
            subst hds
            have hbad := HBAD.out h0
            have HB2 := Lib.hid hbad
            clear HBAD H5 H7 hbad f5
            go_wp2_with fail
            refine hRG.mono ?_
            rintro e w6 ⟨rfl, b6⟩
            clear hRG p0 p1 p2 p3 x0 x1 x2 x3 x4 x5 s0 s1 s2 d0
            have b7 := alloc_below w6 (.cells (ndC ⟨di, dk, dl, dd, dp, .slice ad nd cd, dn⟩) 36)
            have bD := Blk.new w6 36 (ndC ⟨di, dk, dl, dd, dp, .slice ad nd cd, dn⟩)
            have b8 := b6.trans (b7.mono b6.size)
            have hED8 := (hED.below b6).below b7
            have hFI := refFind_any dn sn _ _ hED8
            rw [f6, f7] at hFI
            have bX8 := HX3.out.next b8
            have bS8 := HS3.out.next b8
            have hbw8 := hbw4.trans (b8.mono hbw4.size)
            obtain ⟨⟨x0, x1, x2, x3, x4, x5⟩, _⟩ := bX8.six
            obtain ⟨⟨s0, s1, s2⟩, _⟩ := bS8.three
            obtain ⟨⟨y0, y1, y2, y3, y4, y5⟩, _⟩ := bD.six
            dsimp only at x0 x1 x2 x3 x4 x5 s0 s1 s2 y0 y1 y2 y3 y4 y5
            have d0 := (hbw8.cell (p := ⟨b, o + k * 2, none⟩) hb).trans HC.out.1
            obtain ⟨⟨p0, p1, p2, p3⟩, _⟩ := (bF.next hbw8).four
            have hM := hMt _ (qp ++ 47 :: name) (by simp; omega) (hN4 _ b8)
            rw [← e16] at hM
            clear hED hED8 f6 f7 e18 b6 b7 e16
            generalize atP l (qp ++ 47 :: name) = z at *
            obtain ⟨⟨zd, zn, zi⟩, ze⟩ := z
            dsimp only at hM
            go_wp2_with fail
            refine hFI.mono ?_
            rintro e wz ⟨rfl, hwz⟩
            subst hwz
            clear hFI
            go_wp2_with fail
            refine hM.mono ?_
            rintro e w9 ⟨rfl, b9⟩
            clear hM p0 p1 p2 p3 x0 x1 x2 x3 x4 x5 s0 s1 s2 d0 y0 y1 y2 y3 y4 y5
            have b10 := b9.trans ((alloc_below w9 (.cells (spC ⟨zd, zn, zi⟩) 28)).mono b9.size)
            have hbwX := hbw8.trans (b10.mono hbw8.size)
            obtain ⟨⟨x0, x1, x2, x3, x4, x5⟩, _⟩ := (bX8.next b10).six
            dsimp only at x0 x1 x2 x3 x4 x5
            by_cases hk2 : gk = 2
            · subst hk2
              clear HB2
              go_wp2
              go_roundw
              case rel => exact ⟨k + 1, by omega, by go_num, hbwX⟩
              case measure => simp [intOf]; omega
            · have hze : ¬ ze = 0 := HB2.out hk2
              have hz2 : (ze == 0) = false := by simpa using hze
              have hz3 : (gk != 2) = true := by simpa using hk2
              go_wp2
              go_roundw
              case rel => exact ⟨k + 1, by omega, by go_num, hbwX⟩
              case measure => simp [intOf]; omega
          · have g0 : ¬ (0 : Int) < (k : Int) := by omega
            have hk2 := H7.out (by omega)
            subst hk2
            have hM := hMt _ (47 :: name) (by simp; omega) (hN4 _ (Below.refl _ _))
            rw [← e18] at hM
            clear HBAD H5 H7 e16 e18
            generalize atP l (47 :: name) = z at *
            obtain ⟨⟨zd, zn, zi⟩, ze⟩ := z
            dsimp only at hM
            go_wp2_with fail
            refine hM.mono ?_
            rintro e w9 ⟨rfl, b9⟩
            clear hM p0 p1 p2 p3 x0 x1 x2 x3 x4 x5 s0 s1 s2 d0
            have b10 := b9.trans ((alloc_below w9 (.cells (spC ⟨zd, zn, zi⟩) 28)).mono b9.size)
            have hbwX := hbw4.trans (b10.mono hbw4.size)
            obtain ⟨⟨x0, x1, x2, x3, x4, x5⟩, _⟩ := (HX3.out.next b10).six
            dsimp only at x0 x1 x2 x3 x4 x5
            go_wp2
            go_roundw
            case rel => exact ⟨k + 1, by omega, by go_num, hbwX⟩
            case measure => simp [intOf]; omega
    · obtain rfl : k = L.length := by omega
      go_wp2
      go_ret
      exact ⟨rfl, hB.trans (hbw.mono hB.size)⟩

namespace LPlaceBack
set_option maxRecDepth 100000 in
theorem lifted (os : Os) (started : os.Started) (H : Type) (enc : TypeId × Value → H) :
    ReturnsInHanded {} Try.checked os 5 .any (Rows.placeBackSpec.pre6 enc Try.prog Try.f5 Rows.placeBackRow.domain false) (Rows.placeBackSpec.post enc Try.prog Try.f5 false true false false) := by
  refine returnsInHanded_of_change (C := Try.checked) (by kernel_rfl) started (by kernel_rfl) Try.func5
    (ChangeSpec.witness6 (enc := enc) (C := Try.checked) false ⟨#[], #[.agg #[.int .i64 0, .int .i64 0, .int .i64 0, .slice none 0 0], .string ByteArray.empty], []⟩ 8 (by kernel_rfl) (by kernel_rfl) (by kernel_rfl) (by kernel_rfl)) ?_
  intro W base args ds gs before hval0 hW hcnd _
  have hval : ∀ (j : Nat) t v, Try.f5.params[j]? = some t → args[j]? = some v → Value.okWide Try.prog W .any base t v := hval0
  have hW' := hW
  obtain ⟨p, q, hA0, hV, rfl, hfz, hnd⟩ := hW
  have hA : DataW.TrodAll enc Try.prog W 0 (fun _ => true) true Try.f5.params.toList args.toList ds p := hA0
  rw [Try.params5] at hA hval
  obtain ⟨v0, vs0, d0, ds0, p0, q0, hargs, rfl, rfl, k0, r0⟩ := trodAll_cons hA
  obtain ⟨v1, vs1, d1, ds1, p1, q1, rfl, rfl, rfl, k1, r1⟩ := trodAll_cons r0
  obtain ⟨rfl, rfl, rfl⟩ := trodAll_nil r1
  obtain rfl : args = #[v0, v1] := by cases args; simp_all
  obtain ⟨rfl, rfl⟩ := trodVars_none hV
  have ok0 := hval 0 24 v0 rfl rfl
  have ok1 := hval 1 9 v1 rfl rfl
  have lt0 : ∀ x ∈ p0, x.block < W.heap.size := by obtain ⟨m, hm⟩ := k0; exact DataW.trod_lt m _ _ _ hm
  have lt1 : ∀ x ∈ p1, x.block < W.heap.size := by obtain ⟨m, hm⟩ := k1; exact DataW.trod_lt m _ _ _ hm
  have C : Calls Try.prog 5 #[v0, v1] W fun e w' => e = .returned (.bool true) ∧ Below W.heap.size W w' := by
    clear hA0 hval0 hval hW' hcnd hV hfz hnd
    obtain ⟨mi, mb, nx, x, l, rfl, hx⟩ := fs_of_trod k0 ok0
    obtain ⟨s, rfl, rfl, rfl, hs⟩ := open_string Try.underlying9 ok1 k1
    rw [str_eta s]
    exact lawBack mi mb nx l _ x W hx
  refine C.mono fun e W' ⟨he, bel⟩ => ?_
  subst he
  exact ⟨_, rfl, _, _, _, [], _, [], hW', trodAll_mk1 (shut_bool Try.underlying4 _), (trodAll_cons_mk (Below.trod laidOut (by kernel_rfl) (of_decide_eq_true (by kernel_rfl)) k0 bel lt0) (trodAll_cons_mk (Below.trod laidOut (by kernel_rfl) (of_decide_eq_true (by kernel_rfl)) k1 bel lt1) trodAll_mk0)), rfl, bel.frame _, fun h => by cases h⟩
theorem proved : Rows.PlaceBackSaid :=
  OpenClaim.holds_of_wide 5 Try.f5 rfl rfl rfl rfl rfl rfl rfl ⟨rfl, rfl, rfl, rfl, rfl⟩ rfl rfl rfl rfl rfl (by kernel_rfl) Try.func5 (by kernel_rfl)
    (of_decide_eq_true (by kernel_rfl)) (by unfold Func.isWrapper; first | (rw [if_pos (by decide +kernel)]; kernel_rfl) | (rw [if_neg (by decide +kernel)]; exact ⟨rfl, rfl⟩))
    (fun os started H enc _ => lifted os started H enc)
#print axioms proved
end LPlaceBack
end Go.Proofs.Ytbdgcpimnkieiaa
