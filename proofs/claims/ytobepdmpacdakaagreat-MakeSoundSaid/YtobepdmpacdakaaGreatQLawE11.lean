/- MakeSound: whatever is made, the file system stays sound, the path leads to what was made, and each path that there was leads where it led; what is refused changes nothing (no condition). -/
import Derived.Test.YtobepdmpacdakaaGreatQLawBase11
import Derived.Test.YtobepdmpacdakaaGreatQAwake11
import Derived.Test.YtobepdmpacdakaaGreatQB
import Derived.Test.YtobepdmpacdakaaGreatQLawBase05
import Derived.Test.YtobepdmpacdakaaGreatQWalkH05
import Derived.Test.YtobepdmpacdakaaGreatQWalkF07
import Derived.Test.YtobepdmpacdakaaGreatQWalkA08
import Derived.Deep.Cut
import Derived.Deep.CutRange
import Derived.Laws.StructEq
set_option linter.unusedVariables false
set_option linter.unusedSimpArgs false
namespace Go.Proofs.YtobepdmpacdakaaGreat
open Go.ChangeShapes Go.WideShapes Go.ChangeAt Go.RowKit
open Go.ChangeMaps (open_string shut_string)
set_option linter.unusedVariables false

set_option maxHeartbeats 16000000 in
set_option maxRecDepth 100000 in
theorem lawSound11 (mi mb nx : Int) (l : List Nd) (base p data : List UInt8) (kd : Nat) (hkd : kd < 256) (v : Value) (w : World) (hv : Nds w v l) :
    Calls Tryz.prog 7 #[.agg (fsC mi mb nx v), .string ⟨base.toArray⟩, .string ⟨p.toArray⟩, .string ⟨data.toArray⟩, .int .u8 (kd : Int)] w fun e w' => e = .returned (.bool true) ∧ Below w.heap.size w w' := by
  obtain ⟨a, ca, rfl⟩ := nds_slice hv
  have bF := Blk.new w 24 (fsC mi mb nx (.slice a l.length ca))
  have hB := alloc_below w (.cells (fsC mi mb nx (.slice a l.length ca)) 24)
  have nV := hv.below hB
  have HV := Lib.hid hv
  clear hv
  cases hf : fit11B mi mb nx l base p data
  · go_enter Tryz.func7, Tryz.ntmps7
    go_wp2_with fail; refine (awake11 _).mono ?_; rintro e w1 ⟨rfl, b⟩
    (replace bF := bF.next b; replace nV := nV.below b; replace hB := hB.trans (b.mono hB.size))
    obtain ⟨⟨p0, p1, p2, p3⟩, _⟩ := bF.four
    go_wp2_with fail; refine (fits11_any mi mb nx l base p data _ _ nV).mono ?_; rintro e w2 ⟨rfl, b2⟩
    (replace bF := bF.next b2; replace nV := nV.below b2; replace hB := hB.trans (b2.mono hB.size))
    rw [hf]
    go_wp2_with fail; refine (awake11 _).mono ?_; rintro e w3 ⟨rfl, b3⟩
    go_wp2
    go_ret
    exact ⟨rfl, hB.trans (b3.mono hB.size)⟩
  obtain ⟨hok, hnx, hsh, hdl⟩ := fit11_parts hf
  obtain ⟨hbl0, hpl⟩ := short11 hsh
  have hft := fit_of hok
  have hfew := hft.few
  obtain ⟨f1, f2, f3⟩ := few_ents (ok_parts hok).1
  have hLl : (listN l).length ≤ 1601 := by rw [list_exact (tree_of hok)]; omega
  have hMk := fun W hW => Mkdir_any mi mb nx l base p (.slice a l.length ca) W hW hok hnx (by omega) (by omega)
  have hCr := fun W hW => Create_any mi mb nx l base p data (.slice a l.length ca) W hW hok hnx (by omega) (by omega) (by omega)
  have hSy := fun W hW => Symlink_any mi mb nx l base data p (.slice a l.length ca) W hW hok hnx (by omega) (by omega) (by omega)
  have hTM := fun ev => made_put (base := base) (p := p) (data := []) (k := 2) (rf := 0) (ev := ev) (data2 := data) hok hnx hft.calm hft.few (.inr (.inl rfl)) (fun _ => rfl) (fun h => (by cases h)) (fun h => absurd rfl h) (fun _ => rfl) (by simp) (fun h => absurd rfl h)
  have hTC := fun ev => made_put (base := base) (p := p) (data := data) (k := 1) (rf := 4) (ev := ev) (data2 := data) hok hnx hft.calm hft.few (.inl rfl) (fun h => (by cases h)) (fun h => (by cases h)) (fun _ => by decide) (fun h => (by cases h)) hdl (fun _ => rfl)
  have hTS := fun ev => made_sym (base := base) (p := p) (t := data) (ev := ev) hok hnx hft.calm hft.few hdl
  have hRL := fun W hW => refList_any mi mb nx l (.slice a l.length ca) W hW f3 (by omega) (by omega)
  generalize hLe : listN l = Ll at *
  have HLe := Lib.hid hLe
  clear hLe
  have HTM := Lib.hid hTM
  have HTC := Lib.hid hTC
  have HTS := Lib.hid hTS
  have HMk := Lib.hid hMk
  have HCr := Lib.hid hCr
  have HSy := Lib.hid hSy
  have HRL := Lib.hid hRL
  clear hTM hTC hTS hMk hCr hSy hRL hft f1 f2 f3
  go_enter Tryz.func7, Tryz.ntmps7
  go_wp2_with fail; refine (awake11 _).mono ?_; rintro e w1 ⟨rfl, b1⟩
  (replace bF := bF.next b1; replace nV := nV.below b1; replace hB := hB.trans (b1.mono hB.size))
  obtain ⟨⟨p0, p1, p2, p3⟩, _⟩ := bF.four
  go_wp2_with fail; refine (fits11_any mi mb nx l base p data _ _ nV).mono ?_; rintro e w2 ⟨rfl, b2⟩
  (replace bF := bF.next b2; replace nV := nV.below b2; replace hB := hB.trans (b2.mono hB.size))
  rw [hf]
  clear p0 p1 p2 p3
  obtain ⟨⟨p0, p1, p2, p3⟩, _⟩ := bF.four
  go_upto_if 39 with (fail)
  clear p0 p1 p2 p3 b1 b2
  have bG := Blk.new w2 24 (fsC mi mb nx (.slice a l.length ca))
  have b3 := alloc_below w2 (.cells (fsC mi mb nx (.slice a l.length ca)) 24)
  have hlt2 := bF.lt
  have hlt3 := bG.lt
  (replace bF := bF.next b3; replace nV := nV.below b3; replace hB := hB.trans (b3.mono hB.size))
  clear b3
  generalize w2.alloc (.cells (fsC mi mb nx (.slice a l.length ca)) 24) = w3 at *
  generalize w2.heap.size = BG at *
  obtain ⟨⟨p0, p1, p2, p3⟩, _⟩ := bF.four
  go_cut [12, 13] from 34 to 64 (fun s12 s13 wc => ∃ (K q z : Int) (y : Value) (L : List Nd), s12 = .int .i64 q ∧ s13 = .int .i64 K ∧ Aside (Blk wc w.heap.size 24 (fsC mi mb nx (.slice a l.length ca)) ∧ Blk wc BG 24 (fsC mi mb z y) ∧ Nds wc y L ∧ Nds wc (.slice a l.length ca) l ∧ MadeT mi mb nx l base p data K ((z, L), q) ∧ Below w.heap.size w wc))
  case first =>
    rcases (show kd % 3 = 0 ∨ kd % 3 = 1 ∨ kd % 3 = 2 by omega) with h3 | h3 | h3
    · have hk3 : (kd : Int) % 3 = 0 := by omega
      have hk4 : (kd : Int).tmod 3 = 0 := by rw [Int.tmod_eq_emod_of_nonneg (by omega)]; exact hk3
      go_wp2_with fail
      refine (HCr.out _ nV).mono ?_
      rintro e w4 ⟨y, ev, rfl, hM, b4⟩
      have hT := HTC.out ev
      have n4 := hM.now nV b4
      generalize putF mi mb nx l base p 1 data 4 ev = Z at *
      obtain ⟨⟨z, L⟩, q⟩ := Z
      dsimp only at n4 hM
      obtain ⟨ay, cy, rfl⟩ := nds_slice n4
      have bG4 := bG.next b4
      have bF4 := bF.next b4
      have hB4 := hB.trans (b4.mono hB.size)
      clear p0 p1 p2 p3
      obtain ⟨⟨r0, r1, r2, r3⟩, e0, e1, e2, e3⟩ := bG4.four
      obtain ⟨W', hW', hb4, hg4⟩ := bG4.put4 (.int .i64 mi) (.int .i64 mb) (.int .i64 z) (.slice ay L.length cy)
      have hbl := below_grown hB4 hg4 (Nat.le_refl _) (by omega)
      have hNF := HV.out.below hbl
      have hNL := hM W' (Kept.grown hg4 hlt3) hNF
      have hFk := bF4.kept hg4 (by simp; omega)
      clear hM n4 nV
      go_wp2_with fail
      go_meet
      exact ⟨1, q, z, _, L, rfl, rfl, hFk, hb4, hNL, hNF, hT, hbl⟩
    · have hk3 : (kd : Int) % 3 = 1 := by omega
      have hk4 : (kd : Int).tmod 3 = 1 := by rw [Int.tmod_eq_emod_of_nonneg (by omega)]; exact hk3
      go_wp2_with fail
      refine (HMk.out _ nV).mono ?_
      rintro e w4 ⟨y, ev, rfl, hM, b4⟩
      have hT := HTM.out ev
      have n4 := hM.now nV b4
      generalize putF mi mb nx l base p 2 [] 0 ev = Z at *
      obtain ⟨⟨z, L⟩, q⟩ := Z
      dsimp only at n4 hM
      obtain ⟨ay, cy, rfl⟩ := nds_slice n4
      have bG4 := bG.next b4
      have bF4 := bF.next b4
      have hB4 := hB.trans (b4.mono hB.size)
      clear p0 p1 p2 p3
      obtain ⟨⟨r0, r1, r2, r3⟩, e0, e1, e2, e3⟩ := bG4.four
      obtain ⟨W', hW', hb4, hg4⟩ := bG4.put4 (.int .i64 mi) (.int .i64 mb) (.int .i64 z) (.slice ay L.length cy)
      have hbl := below_grown hB4 hg4 (Nat.le_refl _) (by omega)
      have hNF := HV.out.below hbl
      have hNL := hM W' (Kept.grown hg4 hlt3) hNF
      have hFk := bF4.kept hg4 (by simp; omega)
      clear hM n4 nV
      go_wp2_with fail
      go_meet
      exact ⟨2, q, z, _, L, rfl, rfl, hFk, hb4, hNL, hNF, hT, hbl⟩
    · have hk3 : (kd : Int) % 3 = 2 := by omega
      have hk4 : (kd : Int).tmod 3 = 2 := by rw [Int.tmod_eq_emod_of_nonneg (by omega)]; exact hk3
      go_wp2_with fail
      refine (HSy.out _ nV).mono ?_
      rintro e w4 ⟨y, ev, rfl, hM, b4⟩
      have hT := HTS.out ev
      have n4 := hM.now nV b4
      generalize symF mi mb nx l base data p ev = Z at *
      obtain ⟨⟨z, L⟩, q⟩ := Z
      dsimp only at n4 hM
      obtain ⟨ay, cy, rfl⟩ := nds_slice n4
      have bG4 := bG.next b4
      have bF4 := bF.next b4
      have hB4 := hB.trans (b4.mono hB.size)
      clear p0 p1 p2 p3
      obtain ⟨⟨r0, r1, r2, r3⟩, e0, e1, e2, e3⟩ := bG4.four
      obtain ⟨W', hW', hb4, hg4⟩ := bG4.put4 (.int .i64 mi) (.int .i64 mb) (.int .i64 z) (.slice ay L.length cy)
      have hbl := below_grown hB4 hg4 (Nat.le_refl _) (by omega)
      have hNF := HV.out.below hbl
      have hNL := hM W' (Kept.grown hg4 hlt3) hNF
      have hFk := bF4.kept hg4 (by simp; omega)
      clear hM n4 nV
      go_wp2_with fail
      go_meet
      exact ⟨3, q, z, _, L, rfl, rfl, hFk, hb4, hNL, hNF, hT, hbl⟩
  case rest =>
    obtain ⟨K, q, z, y, L, rfl, rfl, HQ⟩ := hcut
    obtain ⟨bF4, bG4, nG, nF, hT, hB4⟩ := HQ.out
    clear HQ bF bG nV hB p0 p1 p2 p3 HTM HTC HTS HMk HCr HSy
    obtain ⟨ay, cy, rfl⟩ := nds_slice nG
    rename World => w4
    obtain ⟨⟨p0, p1, p2, p3⟩, _⟩ := bF4.four
    obtain ⟨⟨r0, r1, r2, r3⟩, _⟩ := bG4.four
    by_cases hq : q = 0
    · subst hq
      obtain ⟨g1, ⟨sd, sn, g2⟩, g3, g4, g5, g6, g7, g8, g9, g10⟩ := hT.good rfl
      dsimp only at g1 g2 g3 g4 g5 g6 g7 g8 g9 g10
      rw [HLe.out] at g8 g9
      have hSk := refSeek_any mi mb z L base p false _ _ nG g10.get (by omega) (by omega)
      rw [g2] at hSk
      have hGt := fun W hW => refGetT_any mi mb z nx L (.slice ay L.length cy) W hW
      have hCk := fun W hW => refCheck_any mi mb z L (.slice ay L.length cy) W hW (by have := g10.len; omega) (fun x hx => ⟨fun e he => Nat.le_trans (g10.short x hx e he) (by decide), Nat.le_trans (g10.data x hx) (by decide)⟩) (by have := g10.pairs; omega) (by have := g10.bytes; omega)
      have hLG := fun W hW => refList_any mi mb z L (.slice ay L.length cy) W hW g10.short (by have := g10.len; omega) (by omega)
      have hxs := fun W hW => get_slice (w := W) (v := .slice ay L.length cy) (l := L) hW nx
      have hge := greed_all Ll (listN L) 0 (Nat.zero_le _) g8
      have hLG2 : (listN L).length ≤ 1602 := by omega
      generalize listN L = Lg at *
      rw [g1] at hCk
      rw [g3] at hGt
      have hxs := hxs _ nG
      generalize getN L nx = X at *
      obtain ⟨xi, xk, xl, xd, xp, xe, xn⟩ := X
      obtain ⟨ax, nxe, cx, hxe⟩ := hxs
      dsimp only at g4 g5 g6 hxe
      subst hxe g4 g5
      have hlen : ((L.length : Int) != (l.length : Int) + 1) = false := by simp; omega
      have hLL : ((Lg.length : Int) == (Ll.length : Int) + 1) = true := by simp; omega
      have HG6 := Lib.hid g6
      have HGE := Lib.hid hge
      have HG9 := Lib.hid g9
      have HCk := Lib.hid hCk
      have HLG := Lib.hid hLG
      have HGt := Lib.hid hGt
      clear g1 g2 g3 g6 g7 g8 g9 g10 hT hge hCk hLG hGt
      go_wp2_with fail
      refine hSk.mono ?_
      rintro e w5 ⟨rfl, b5⟩
      clear hSk p0 p1 p2 p3 r0 r1 r2 r3
      have s5 := alloc_below w5 (.cells (spC ⟨sd, sn, xi⟩) 37)
      have bS := Blk.new w5 37 (spC ⟨sd, sn, xi⟩)
      have b6 := b5.trans (s5.mono b5.size)
      replace bF4 := bF4.next b6
      replace bG4 := bG4.next b6
      replace nG := nG.below b6
      replace nF := nF.below b6
      replace hB4 := hB4.trans (b6.mono hB4.size)
      clear b5 s5 b6
      obtain ⟨⟨r0, r1, r2, r3⟩, _⟩ := bG4.four
      obtain ⟨⟨s0, s1, s2⟩, _⟩ := bS.three
      dsimp only at s0 s1 s2
      go_wp2_with fail
      refine (HGt.out _ nG).mono ?_
      rintro e w6 ⟨rfl, b6⟩
      clear r0 r1 r2 r3 s0 s1 s2 bS
      have s6 := alloc_below w6 (.cells (ndC ⟨xi, xk, xl, xd, xp, .slice ax nxe cx, xn⟩) 45)
      have bX := Blk.new w6 45 (ndC ⟨xi, xk, xl, xd, xp, .slice ax nxe cx, xn⟩)
      have b7 := b6.trans (s6.mono b6.size)
      replace bF4 := bF4.next b7
      replace bG4 := bG4.next b7
      replace nG := nG.below b7
      replace nF := nF.below b7
      replace hB4 := hB4.trans (b7.mono hB4.size)
      clear b6 s6 b7 HGt
      obtain ⟨⟨r0, r1, r2, r3⟩, _⟩ := bG4.four
      go_wp2_with fail
      refine (HCk.out _ nG).mono ?_
      rintro e w7 ⟨rfl, b7⟩
      clear r0 r1 r2 r3 HCk
      replace bF4 := bF4.next b7
      replace bG4 := bG4.next b7
      replace bX := bX.next b7
      replace nG := nG.below b7
      replace nF := nF.below b7
      replace hB4 := hB4.trans (b7.mono hB4.size)
      clear b7
      obtain ⟨⟨p0, p1, p2, p3⟩, _⟩ := bF4.four
      obtain ⟨⟨r0, r1, r2, r3⟩, _⟩ := bG4.four
      obtain ⟨⟨x0, x1, x2, x3, x4, x5⟩, _⟩ := bX.six
      dsimp only at x0 x1 x2 x3 x4 x5
      go_upto_region 17 with fail
      go_cut [133] from 105 to 132 (fun s133 wc => s133 = .bool false ∧ wc = w7)
      case first =>
        by_cases hk2 : xk = 2
        · subst hk2
          go_wp2_with fail
          go_meet
          exact ⟨rfl, rfl⟩
        · obtain rfl := HG6.out hk2
          have hk3 : (xk != 2) = true := by simpa using hk2
          go_wp2_with fail
          go_meet
          exact ⟨rfl, rfl⟩
      case rest =>
      obtain ⟨rfl, hwc⟩ := hcut
      subst hwc
      clear x0 x1 x2 x3 x4 x5 bX
      go_wp2_with fail
      refine (HRL.out _ nF).mono ?_
      rintro e w8 ⟨v8, rfl, hown8, b8⟩
      obtain ⟨a8, c8, rfl⟩ := own_slice hown8
      clear p0 p1 p2 p3 r0 r1 r2 r3
      replace bG4 := bG4.next b8
      replace nG := nG.below b8
      replace hB4 := hB4.trans (b8.mono hB4.size)
      have hE8 := own_ents hown8
      clear b8 hown8 bF4 nF HRL
      obtain ⟨⟨r0, r1, r2, r3⟩, _⟩ := bG4.four
      go_wp2_with fail
      refine (HLG.out _ nG).mono ?_
      rintro e w9 ⟨v9, rfl, hown9, b9⟩
      obtain ⟨a9, c9, rfl⟩ := own_slice hown9
      clear r0 r1 r2 r3
      replace hE8 := hE8.below b9
      replace hB4 := hB4.trans (b9.mono hB4.size)
      have hE9 := own_ents hown9
      clear b9 hown9 bG4 nG HLG
      obtain ⟨a8', c8', e8, hb8, hm8, hE8⟩ := hE8
      obtain ⟨a9', c9', e9, hb9, hm9, hE9⟩ := hE9
      simp only [Value.slice.injEq] at e8 e9
      obtain ⟨rfl, _, rfl⟩ := e8
      obtain ⟨rfl, _, rfl⟩ := e9
      have HE8 := Lib.hid hE8
      have HE9 := Lib.hid hE9
      clear hE8 hE9
      unfold maxLen at hm8 hm9
      go_wp2
      go_loopw [20, 21] (fun s20 s21 wr => ∃ k : Nat, k ≤ Lg.length ∧ s21 = .int .i64 k ∧ s20 = .int .i64 (greedN Ll (Lg.take k) 0 : Nat) ∧ Below w9.heap.size w9 wr) (fun _ s21 _ => Lg.length - (intOf s21).toNat)
      case atStart => exact ⟨0, Nat.zero_le _, rfl, rfl, Below.refl _ _⟩
      case round =>
        obtain ⟨k, hk, rfl, rfl, hbw⟩ := hrel
        by_cases hlt : k < Lg.length
        · have hgn := greed_next (l := Ll) hlt
          have hgl := greed_le Ll (Lg.take k) 0 (Nat.zero_le _)
          generalize greedN Ll (Lg.take k) 0 = n at *
          obtain ⟨b9, o9, rfl, hlt9, hx9⟩ := HE9.out (by omega)
          have c3 : wr.cell? ⟨b9, o9 + k * 2, none⟩ = some (.string ⟨Lg[k].1.toArray⟩) := (hbw.cell (p := ⟨b9, o9 + k * 2, none⟩) hlt9).trans (hx9 k hlt).1
          have c4 : wr.cell? ⟨b9, o9 + k * 2 + 1, none⟩ = some (.int .i64 Lg[k].2) := (hbw.cell (p := ⟨b9, o9 + k * 2 + 1, none⟩) hlt9).trans (hx9 k hlt).2
          clear hx9
          have k0 : (0 : Int) ≤ (k : Int) := by omega
          have k1 : (k : Int) < (Lg.length : Int) := by omega
          generalize Lg[k] = m at *
          obtain ⟨m1, m2⟩ := m
          dsimp only at c3 c4
          by_cases hn : n < Ll.length
          · obtain ⟨b8, o8, rfl, hlt8, hx8⟩ := HE8.out (by omega)
            have c1 : wr.cell? ⟨b8, o8 + n * 2, none⟩ = some (.string ⟨Ll[n].1.toArray⟩) := (hbw.cell (p := ⟨b8, o8 + n * 2, none⟩) hlt8).trans (hx8 n hn).1
            have c2 : wr.cell? ⟨b8, o8 + n * 2 + 1, none⟩ = some (.int .i64 Ll[n].2) := (hbw.cell (p := ⟨b8, o8 + n * 2 + 1, none⟩) hlt8).trans (hx8 n hn).2
            clear hx8
            have k2 : (0 : Int) ≤ (n : Int) := by omega
            have k3 : (n : Int) < (Ll.length : Int) := by omega
            rw [List.getElem?_eq_getElem hn] at hgn
            generalize Ll[n] = t at *
            obtain ⟨t1, t2⟩ := t
            dsimp only at c1 c2
            cases he : m1 == t1
            · have HN : Hid (greedN Ll (Lg.take (k + 1)) 0 = n) := by
                show _ = _
                rw [hgn, if_neg]
                intro h
                cases h
                simp at he
              clear hgn
              go_wp2
              go_quiet (fail)
              go_wp2
              go_roundw
              case rel => exact ⟨k + 1, by omega, by go_num, by rw [HN.out], below_drewN hbw _⟩
              case measure => simp [intOf]; omega
            · cases he2 : m2 == t2
              · have HN : Hid (greedN Ll (Lg.take (k + 1)) 0 = n) := by
                  show _ = _
                  rw [hgn, if_neg]
                  intro h
                  cases h
                  simp at he2
                clear hgn
                go_wp2
                go_quiet (fail)
                go_wp2
                go_roundw
                case rel => exact ⟨k + 1, by omega, by go_num, by rw [HN.out], below_drewN hbw _⟩
                case measure => simp [intOf]; omega
              · have HN : Hid (greedN Ll (Lg.take (k + 1)) 0 = n + 1) := by
                  show _ = _
                  rw [beq_iff_eq] at he he2
                  rw [hgn, if_pos (by rw [he, he2])]
                clear hgn
                go_wp2
                go_quiet (fail)
                go_wp2
                go_roundw
                case rel => exact ⟨k + 1, by omega, by go_num, by rw [HN.out]; go_num, below_drewN hbw _⟩
                case measure => simp [intOf]; omega
          · have HN : Hid (greedN Ll (Lg.take (k + 1)) 0 = n) := by
              show _ = _
              rw [hgn, List.getElem?_eq_none (by omega), if_neg (by simp)]
            clear hgn
            have k3 : ¬ (n : Int) < (Ll.length : Int) := by omega
            go_wp2
            go_quiet (fail)
            go_wp2
            go_roundw
            case rel => exact ⟨k + 1, by omega, by go_num, by rw [HN.out], below_drewN hbw _⟩
            case measure => simp [intOf]; omega
        · obtain rfl : k = Lg.length := by omega
          rw [List.take_length, HGE.out]
          go_wp2
          go_ret
          exact ⟨rfl, hB4.trans (hbw.mono hB4.size)⟩
    · have hbad := hT.bad hq
      simp only [Prod.mk.injEq] at hbad
      obtain ⟨rfl, rfl⟩ := hbad
      have hq2 : (q != 0) = true := by simpa using hq
      have hSm := refTab_any mi mb z mi mb z L L _ _ _ nG nF
      rw [tab_ones (onesB_refl L)] at hSm
      clear hT
      go_wp2_with fail
      refine hSm.mono ?_
      rintro e w5 ⟨rfl, b5⟩
      go_wp2
      go_ret
      exact ⟨rfl, hB4.trans (b5.mono hB4.size)⟩

namespace LMakeSound
set_option maxRecDepth 100000 in
theorem lifted (os : Os) (started : os.Started) (H : Type) (enc : TypeId × Value → H) :
    ReturnsInHanded {} Tryz.checked os 7 .any (Rows.makeSoundSpec.pre6 enc Tryz.prog Tryz.f7 Rows.makeSoundRow.domain false) (Rows.makeSoundSpec.post enc Tryz.prog Tryz.f7 false true false false) := by
  refine returnsInHanded_of_change (C := Tryz.checked) (by kernel_rfl) started (by kernel_rfl) Tryz.func7
    (ChangeSpec.witness6 (enc := enc) (C := Tryz.checked) false ⟨#[], #[.agg #[.int .i64 0, .int .i64 0, .int .i64 0, .slice none 0 0], .string ByteArray.empty, .string ByteArray.empty, .string ByteArray.empty, .int .u8 0], []⟩ 8 (by kernel_rfl) (by kernel_rfl) (by kernel_rfl) (by kernel_rfl)) ?_
  intro W base args ds gs before hval0 hW hcnd _
  have hval : ∀ (j : Nat) t v, Tryz.f7.params[j]? = some t → args[j]? = some v → Value.okWide Tryz.prog W .any base t v := hval0
  have hW' := hW
  obtain ⟨p, q, hA0, hV, rfl, hfz, hnd⟩ := hW
  have hA : DataW.TrodAll enc Tryz.prog W 0 (fun _ => true) true Tryz.f7.params.toList args.toList ds p := hA0
  rw [Tryz.params7] at hA hval
  obtain ⟨v0, vs0, d0, ds0, p0, q0, hargs, rfl, rfl, k0, r0⟩ := trodAll_cons hA
  obtain ⟨v1, vs1, d1, ds1, p1, q1, rfl, rfl, rfl, k1, r1⟩ := trodAll_cons r0
  obtain ⟨v2, vs2, d2, ds2, p2, q2, rfl, rfl, rfl, k2, r2⟩ := trodAll_cons r1
  obtain ⟨v3, vs3, d3, ds3, p3, q3, rfl, rfl, rfl, k3, r3⟩ := trodAll_cons r2
  obtain ⟨v4, vs4, d4, ds4, p4, q4, rfl, rfl, rfl, k4, r4⟩ := trodAll_cons r3
  obtain ⟨rfl, rfl, rfl⟩ := trodAll_nil r4
  obtain rfl : args = #[v0, v1, v2, v3, v4] := by cases args; simp_all
  obtain ⟨rfl, rfl⟩ := trodVars_none hV
  have ok0 := hval 0 24 v0 rfl rfl
  have ok1 := hval 1 9 v1 rfl rfl
  have ok2 := hval 2 9 v2 rfl rfl
  have ok3 := hval 3 9 v3 rfl rfl
  have ok4 := hval 4 5 v4 rfl rfl
  have lt0 : ∀ x ∈ p0, x.block < W.heap.size := by obtain ⟨m, hm⟩ := k0; exact DataW.trod_lt m _ _ _ hm
  have lt1 : ∀ x ∈ p1, x.block < W.heap.size := by obtain ⟨m, hm⟩ := k1; exact DataW.trod_lt m _ _ _ hm
  have lt2 : ∀ x ∈ p2, x.block < W.heap.size := by obtain ⟨m, hm⟩ := k2; exact DataW.trod_lt m _ _ _ hm
  have lt3 : ∀ x ∈ p3, x.block < W.heap.size := by obtain ⟨m, hm⟩ := k3; exact DataW.trod_lt m _ _ _ hm
  have lt4 : ∀ x ∈ p4, x.block < W.heap.size := by obtain ⟨m, hm⟩ := k4; exact DataW.trod_lt m _ _ _ hm
  have C : Calls Tryz.prog 7 #[v0, v1, v2, v3, v4] W fun e w' => e = .returned (.bool true) ∧ Below W.heap.size W w' := by
    clear hA0 hval0 hval hW' hcnd hV hfz hnd
    obtain ⟨mi, mb, nx, x, l, rfl, hx⟩ := fs_of_trod k0 ok0
    obtain ⟨s, rfl, rfl, rfl, hs⟩ := open_string Tryz.underlying9 ok1 k1
    obtain ⟨s2, rfl, rfl, rfl, hs2⟩ := open_string Tryz.underlying9 ok2 k2
    obtain ⟨s3, rfl, rfl, rfl, hs3⟩ := open_string Tryz.underlying9 ok3 k3
    obtain ⟨t, rfl, rfl, rfl, ht⟩ := open_int Tryz.underlying5 ok4 k4
    rw [str_eta s, str_eta s2, str_eta s3]
    have hb := bounds_u8 ht
    obtain ⟨n, rfl⟩ := Int.eq_ofNat_of_zero_le hb.1
    exact lawSound11 mi mb nx l _ _ _ n (by omega) x W hx
  refine C.mono fun e W' ⟨he, bel⟩ => ?_
  subst he
  exact ⟨_, rfl, _, _, _, [], _, [], hW', trodAll_mk1 (shut_bool Tryz.underlying4 _), (trodAll_cons_mk (Below.trod laidOut (by kernel_rfl) (of_decide_eq_true (by kernel_rfl)) k0 bel lt0) (trodAll_cons_mk (Below.trod laidOut (by kernel_rfl) (of_decide_eq_true (by kernel_rfl)) k1 bel lt1) (trodAll_cons_mk (Below.trod laidOut (by kernel_rfl) (of_decide_eq_true (by kernel_rfl)) k2 bel lt2) (trodAll_cons_mk (Below.trod laidOut (by kernel_rfl) (of_decide_eq_true (by kernel_rfl)) k3 bel lt3) (trodAll_cons_mk (Below.trod laidOut (by kernel_rfl) (of_decide_eq_true (by kernel_rfl)) k4 bel lt4) trodAll_mk0))))), rfl, bel.frame _, fun h => by cases h⟩
theorem proved : Rows.MakeSoundSaid :=
  OpenClaim.holds_of_wide 7 Tryz.f7 rfl rfl rfl rfl rfl rfl rfl ⟨rfl, rfl, rfl, rfl, rfl⟩ rfl rfl rfl rfl rfl (by kernel_rfl) Tryz.func7 (by kernel_rfl)
    (of_decide_eq_true (by kernel_rfl)) (by unfold Func.isWrapper; first | (rw [if_pos (by decide +kernel)]; kernel_rfl) | (rw [if_neg (by decide +kernel)]; exact ⟨rfl, rfl⟩))
    (fun os started H enc _ => lifted os started H enc)
#print axioms proved
end LMakeSound
end Go.Proofs.YtobepdmpacdakaaGreat
