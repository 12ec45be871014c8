/- For every list of at most 40 inodes that are set, some of which are dropped: each that is left is got as it was set last, the table's inodes rise, and there are no more (no condition). -/
import Derived.Test.YtjdpkienljenhaaLawBase05
import Derived.Test.YtjdpkienljenhaaLawB05
import Derived.BigQuiet
import Derived.StillTailTactics
import Derived.Deep.RegionHeld3
import Derived.Deep.Cut
import Derived.Deep.CutRange
namespace Go.Proofs.Ytjdpkienljenhaa
open Go.ChangeShapes Go.WideShapes Go.ChangeAt Go.RowKit
open Go.ChangeMaps (open_string shut_string)
set_option linter.unusedVariables false

/-- A slice of bytes that came in: its length, and each of its bytes. -/
def Byts (w : World) (v : Value) (l : List Nat) : Prop :=
  ∃ a cap, v = .slice a l.length cap ∧ l.length ≤ maxLen ∧ (∀ x ∈ l, x < 256) ∧ (0 < l.length → ∃ b off, a = some ⟨b, off, none⟩ ∧ b < w.heap.size ∧ ∀ i (h : i < l.length), w.cell? ⟨b, off + i, none⟩ = some (.int .u8 ((l[i] : Nat) : Int)))
theorem byts_of_trod {H : Type} {enc : TypeId × Value → H} {W : World} {base : Nat} {v : Value} {d : DataW H} {p : List MemPlace}
    (ok : Value.okWide Try.prog W .any base 45 v) (k : DataW.Trod enc Try.prog W 0 (fun _ => true) true 45 v d p) : ∃ l, Byts W v l := by
  obtain ⟨a0, len, cap, rfl⟩ := okWide_slice Try.underlying45 ok
  obtain ⟨fuel, hf⟩ := k
  rcases Deep.open_slice1 Try.underlying45 (by kernel_rfl) hf with ⟨hcs, _⟩ | ⟨a, len', cap', m, n, V, D, Pl, hcs, _, hl, hm, hz, hx, hcell⟩
  · simp [Value.cells] at hcs
    obtain ⟨rfl, rfl, rfl⟩ := hcs
    exact ⟨[], none, 0, rfl, Nat.zero_le _, by simp, fun h => absurd h (by simp)⟩
  · simp [Value.cells] at hcs
    obtain ⟨rfl, rfl, rfl⟩ := hcs
    simp at hz
    subst hz
    have each : ∀ i, i < len → ∃ z : Nat, V i = .int .u8 (z : Int) ∧ z < 256 := by
      intro i hi
      obtain ⟨z, hz, _, hw⟩ := DataW.trod_int Try.underlying5 (hcell i (by omega)).2
      simp only [List.cons.injEq, and_true] at hz
      have hb := bounds_u8 hw
      exact ⟨z.toNat, by rw [hz]; congr 1; omega, by omega⟩
    have hn : ((List.range len).map fun i => (numOf5 (V i)).toNat).length = len := by simp
    refine ⟨(List.range len).map fun i => (numOf5 (V i)).toNat, some a, m, by simp, by rw [hn]; omega, ?_, fun h => ?_⟩
    · intro x hx
      obtain ⟨i, hi, rfl⟩ := List.mem_map.1 hx
      obtain ⟨z, hz, h256⟩ := each i (by simpa using hi)
      rw [hz]; simpa [numOf5] using h256
    · rw [hn] at h
      have c0 := (hcell 0 (by omega)).1
      obtain ⟨b, off, spot⟩ := a
      have hspot : spot = none := by simpa [Addr.add] using World.cell?_spot c0
      subst hspot
      refine ⟨b, off, rfl, ?_, fun i hi => ?_⟩
      · rw [Addr.add_lit] at c0; exact World.block_lt_of_cell? W _ c0
      · rw [hn] at hi
        have ci := (hcell i (by omega)).1
        rw [Addr.add_lit] at ci
        obtain ⟨z, hz, _⟩ := each i hi
        rw [ci]
        simp only [List.getElem_map, List.getElem_range, hz, numOf5, Int.toNat_natCast]

/-- What the outer rounds keep of the lists. -/
def HoldsL (l F K : List Nd) : Prop := HoldsInv F K ∧ (∀ x ∈ F, x ∈ l) ∧ (∀ x ∈ K, x ∈ l)
theorem holdsL_start (l : List Nd) : HoldsL l [] [] := ⟨holds_start, by simp, by simp⟩
theorem holdsL_set {l F K : List Nd} (h : HoldsL l F K) {x : Nd} (hx : x ∈ l) : HoldsL l (setN F x) (K.filter (fun e => e.ino != x.ino) ++ [x]) := by
  refine ⟨holds_set h.1 x, fun z hz => ?_, fun z hz => ?_⟩
  · rcases mem_setN hz with rfl | hz
    · exact hx
    · exact h.2.1 z hz
  · rcases List.mem_append.1 hz with hz | hz
    · exact h.2.2 z (List.mem_filter.1 hz).1
    · rw [List.mem_singleton.1 hz]; exact hx
theorem holdsL_drop {l F K : List Nd} (h : HoldsL l F K) {x : Nd} (hx : x ∈ l) : HoldsL l (dropN (setN F x) x.ino) (K.filter (fun e => e.ino != x.ino)) := by
  refine ⟨holds_drop h.1 x, fun z hz => ?_, fun z hz => h.2.2 z (List.mem_filter.1 hz).1⟩
  exact (holdsL_set h hx).2.1 z (mem_dropN hz)

set_option maxHeartbeats 8000000 in
set_option maxRecDepth 100000 in
theorem lawHolds (l : List Nd) (y : List Nat) (v vy : Value) (w : World) (hv : Nds w v l) (hy : Byts w vy y) (hd : ∀ x ∈ l, x.data.length ≤ 281474976710656) :
    Calls Try.prog 7 #[v, vy] w fun e w' => e = .returned (.bool true) ∧ Below w.heap.size w w' := by
  obtain ⟨i0, hi, hz0, hz1, hz2⟩ := info_parts infoN
  obtain ⟨a, ca, rfl, hc, hm, hea, hna, HA0⟩ := id hv
  obtain ⟨ay, cy, rfl, hym, hy256, HY0⟩ := id hy
  unfold maxLen at hm hym
  have HA := Lib.hid HA0
  have HE := Lib.hid hea
  have HY := Lib.hid HY0
  have H256 := Lib.hid hy256
  have HD := Lib.hid hd
  clear HA0 HY0 hv hy hy256 hd hea
  by_cases hl40 : l.length ≤ 40
  · by_cases hy60 : y.length ≤ 60
    · go_enter Try.func7, Try.ntmps7
      go_wp2_with fail; refine (awake_any _).mono ?_; rintro e w1 ⟨rfl, b1⟩
      go_wp2
      have b0 : Blk (w1.alloc (.cells #[.int .i64 0, .int .i64 0, .int .i64 0, .slice none 0 0] 25)) w1.heap.size 25 (fsC 0 0 0 (.slice none 0 0)) := Blk.new w1 25 (fsC 0 0 0 (.slice none 0 0))
      have hB0 := b1.trans ((alloc_below w1 (.cells #[.int .i64 0, .int .i64 0, .int .i64 0, .slice none 0 0] 25)).mono b1.size)
      have hBf := b1.size
      generalize w1.alloc (.cells #[.int .i64 0, .int .i64 0, .int .i64 0, .slice none 0 0] 25) = A1 at *
      generalize w1.heap.size = Bf at *
      clear b1
      go_loopg [6, 7] l.length (fun g s6 s7 wr => ∃ (k : Nat) (F K : List Nd) (fa : Option Addr) (fc : Nat), k + g = l.length ∧ s7 = .int .i64 k ∧ F.length ≤ k ∧ K.length ≤ k ∧ Below w.heap.size w wr ∧
        Aside (Blk wr Bf 25 (fsC 0 0 0 (.slice fa F.length fc))) ∧ Aside (wr.ownsRow (Bf + 1) 35 6 (.slice fa F.length fc) F.length (ndsV F)) ∧ Aside (wr.ownsRow (Bf + 1) 35 6 s6 K.length (ndsV K)) ∧ Aside (HoldsL l F K))
      case atStart => exact ⟨0, [], [], none, 0, by omega, rfl, Nat.le_refl _, Nat.le_refl _, hB0, b0, World.ownsRow_nil _ _ _ _, World.ownsRow_nil _ _ _ _, holdsL_start l⟩
      case round =>
        clear b0 hB0
        obtain ⟨k, F, K, fa, fc, hkg, rfl, hFk, hKk, hbw, HBF, HOF, HOK, HI⟩ := hrel
        by_cases hlt : k < l.length
        · obtain ⟨G, rfl⟩ : ∃ G, gk = G + 1 := ⟨gk - 1, by omega⟩
          obtain ⟨b, o, rfl, hb, hcl⟩ := HA.out (by omega)
          have hx0 := hcl k hlt
          clear hcl
          have hxm := List.getElem_mem hlt
          have hxe := HE.out _ hxm
          have hxd := HD.out _ hxm
          generalize l[k] = x at *
          obtain ⟨yi, yk, yl, yd, yp, ye, yn⟩ := x
          dsimp only at hxe hxd
          obtain ⟨ae, ne, rfl, _⟩ := id hxe
          have HX0 := Lib.hid hx0
          have HXM := Lib.hid hxm
          have HXE := Lib.hid hxe
          obtain ⟨c0, c1, c2, c3, c4, c5⟩ := hx0.below hbw hb
          dsimp only at c0 c1 c2 c3 c4 c5
          clear hx0 hxm hxe
          have k0 : (0 : Int) ≤ (k : Int) := by omega
          have k1 : (k : Int) < (l.length : Int) := by omega
          have hBlt := HBF.out.lt
          obtain ⟨⟨p0, p1, p2, p3⟩, _⟩ := HBF.out.four
          go_upto_region 8 with fail
          go_still_tail 5, (by kernel_rfl)
          change wpList _ _ _ _ _ wr.drew
          have hB1 : Below w.heap.size w wr.drew := hbw.drew
          have bF : Blk wr.drew Bf 25 (fsC 0 0 0 (.slice fa F.length fc)) := HBF.out
          have oF : wr.drew.ownsRow (Bf + 1) 35 6 (.slice fa F.length fc) F.length (ndsV F) := HOF.out
          have oK := own_keep HOK.out (Below.refl wr.heap.size wr).drew
          generalize wr.drew = w2 at *
          clear c0 c1 c2 c3 c4 c5 p0 p1 p2 p3 HBF HOF HOK hbw hBlt
          have hNF : Nds w2 (.slice fa F.length fc) F := own_nds oF (fun z hz => (HE.out z (HI.out.2.1 z hz)).below hB1)
          have hle := setN_len F ⟨yi, yk, yl, yd, yp, .slice ae yn.length ne, yn⟩
          go_wp2_with fail
          refine (SetN_any 0 0 0 F ⟨yi, yk, yl, yd, yp, .slice ae yn.length ne, yn⟩ _ _ hNF (HXE.out.below hB1) HI.out.1.1 (by omega) (fun z hz => HD.out z (HI.out.2.1 z hz)) hxd).mono ?_
          rintro e w3 ⟨v3, rfl, hnew⟩
          obtain ⟨a3, c3, rfl⟩ := own_slice hnew.1
          have hltF := bF.lt
          replace bF := bF.next hnew.2
          replace oK := own_keep oK hnew.2
          obtain ⟨⟨p0, p1, p2, p3⟩, e0, e1, e2, e3⟩ := bF.four
          obtain ⟨w4, hw4, bF4, hg4⟩ := bF.put4 (.int .i64 0) (.int .i64 0) (.int .i64 0) (.slice a3 (setN F ⟨yi, yk, yl, yd, yp, .slice ae yn.length ne, yn⟩).length c3)
          have hB4 := below_grown (hB1.trans (hnew.2.mono hB1.size)) hg4 (Nat.le_refl _) hBf
          have oF4 := own_base (hnew.1.kept hg4 (own_not hnew.1 hltF)) (base' := Bf + 1) hltF
          have oK4 := oK.kept hg4 (own_not oK (Nat.lt_succ_self _))
          clear hnew bF oK oF hNF hB1 hg4
          go_upto_region 9 with fail
          clear hw4 p0 p1 p2 p3 e0 e1 e2 e3
          go_cut [8] from 28 to 93 (fun s8 wc => (∃ gn : Bool, s8 = .bool gn) ∧ wc = w4)
          case first =>
            by_cases hy1 : k < y.length
            · obtain ⟨by0, oy, rfl, hby, hcy⟩ := HY.out (by omega)
              have e1 : w4.cell? ⟨by0, oy + k, none⟩ = some (.int .u8 (y[k] : Int)) := (hB4.cell (p := ⟨by0, oy + k, none⟩) hby).trans (hcy k hy1)
              have hy2 := H256.out _ (List.getElem_mem hy1)
              clear hcy
              cases h3 : ((y[k] : Int) % 3 == 0)
              · go_wp2_with fail
                go_meet
                exact ⟨⟨_, rfl⟩, rfl⟩
              · go_wp2_with fail
                go_meet
                exact ⟨⟨_, rfl⟩, rfl⟩
            · go_wp2_with fail
              go_meet
              exact ⟨⟨_, rfl⟩, rfl⟩
          case rest =>
            obtain ⟨⟨gn, rfl⟩, hwc⟩ := hcut
            subst hwc
            have HI2 := Lib.hid (holdsL_set HI.out HXM.out)
            have hle2 := dropN_len (setN F ⟨yi, yk, yl, yd, yp, .slice ae yn.length ne, yn⟩) yi
            go_upto_if 52 with (fail)
            go_cut [8] from 28 to 93 (fun s8 wd => s8 = .bool gn ∧ Below w.heap.size w wd ∧ (∃ fa2 fc2, Aside (Blk wd Bf 25 (fsC 0 0 0 (.slice fa2 (cond gn (dropN (setN F ⟨yi, yk, yl, yd, yp, .slice ae yn.length ne, yn⟩) yi) (setN F ⟨yi, yk, yl, yd, yp, .slice ae yn.length ne, yn⟩)).length fc2))) ∧
              Aside (wd.ownsRow (Bf + 1) 35 6 (.slice fa2 (cond gn (dropN (setN F ⟨yi, yk, yl, yd, yp, .slice ae yn.length ne, yn⟩) yi) (setN F ⟨yi, yk, yl, yd, yp, .slice ae yn.length ne, yn⟩)).length fc2) (cond gn (dropN (setN F ⟨yi, yk, yl, yd, yp, .slice ae yn.length ne, yn⟩) yi) (setN F ⟨yi, yk, yl, yd, yp, .slice ae yn.length ne, yn⟩)).length (ndsV (cond gn (dropN (setN F ⟨yi, yk, yl, yd, yp, .slice ae yn.length ne, yn⟩) yi) (setN F ⟨yi, yk, yl, yd, yp, .slice ae yn.length ne, yn⟩))))) ∧
              Aside (∀ (v : Value) (n : Nat) (xs : List Value), wc.ownsRow (Bf + 1) 35 6 v n xs → wd.ownsRow (Bf + 1) 35 6 v n xs))
            case first =>
              cases gn
              · go_wp2_with fail
                go_meet
                exact ⟨rfl, hB4, ⟨_, _, bF4, oF4⟩, fun _ _ _ h => h⟩
              · obtain ⟨⟨p0, p1, p2, p3⟩, _⟩ := bF4.four
                have c0 := (HX0.out.below hB4 hb).1
                dsimp only at c0
                go_upto_region 11 with fail
                go_still_tail 6, (by kernel_rfl)
                change wpList _ _ _ _ _ wc.drew
                have hB5 : Below w.heap.size w wc.drew := hB4.drew
                have bF5 : Blk wc.drew Bf 25 (fsC 0 0 0 (.slice a3 (setN F ⟨yi, yk, yl, yd, yp, .slice ae yn.length ne, yn⟩).length c3)) := bF4
                have oF5 : wc.drew.ownsRow (Bf + 1) 35 6 (.slice a3 (setN F ⟨yi, yk, yl, yd, yp, .slice ae yn.length ne, yn⟩).length c3) (setN F ⟨yi, yk, yl, yd, yp, .slice ae yn.length ne, yn⟩).length (ndsV (setN F ⟨yi, yk, yl, yd, yp, .slice ae yn.length ne, yn⟩)) := oF4
                have hk5 : ∀ (v : Value) (n : Nat) (xs : List Value), wc.ownsRow (Bf + 1) 35 6 v n xs → wc.drew.ownsRow (Bf + 1) 35 6 v n xs := fun _ _ _ h => h
                generalize wc.drew = w5 at *
                have hN5 : Nds w5 (.slice a3 (setN F ⟨yi, yk, yl, yd, yp, .slice ae yn.length ne, yn⟩).length c3) (setN F ⟨yi, yk, yl, yd, yp, .slice ae yn.length ne, yn⟩) := own_nds oF5 (fun z hz => (HE.out z (HI2.out.2.1 z hz)).below hB5)
                clear p0 p1 p2 p3 c0
                go_wp2_with fail
                refine (DropN_any 0 0 0 yi (setN F ⟨yi, yk, yl, yd, yp, .slice ae yn.length ne, yn⟩) _ _ hN5 HI2.out.1.1 (by omega) (fun z hz => HD.out z (HI2.out.2.1 z hz))).mono ?_
                rintro e w6 ⟨v6, rfl, hnew⟩
                obtain ⟨a6, c6, rfl⟩ := own_slice hnew.1
                have hltF5 := bF5.lt
                have bF6 := bF5.next hnew.2
                obtain ⟨⟨p0, p1, p2, p3⟩, e0, e1, e2, e3⟩ := bF6.four
                obtain ⟨w7, hw7, bF7, hg7⟩ := bF6.put4 (.int .i64 0) (.int .i64 0) (.int .i64 0) (.slice a6 (dropN (setN F ⟨yi, yk, yl, yd, yp, .slice ae yn.length ne, yn⟩) yi).length c6)
                have hB7 := below_grown (hB5.trans (hnew.2.mono hB5.size)) hg7 (Nat.le_refl _) hBf
                have oF7 := own_base (hnew.1.kept hg7 (own_not hnew.1 hltF5)) (base' := Bf + 1) hltF5
                have hk7 : ∀ (v : Value) (n : Nat) (xs : List Value), wc.ownsRow (Bf + 1) 35 6 v n xs → w7.ownsRow (Bf + 1) 35 6 v n xs := fun v n xs h => (own_keep (hk5 v n xs h) hnew.2).kept hg7 (own_not (own_keep (hk5 v n xs h) hnew.2) (Nat.lt_succ_self _))
                clear hnew bF6 bF5 oF5 hN5 hg7 hk5
                go_wp2_with fail
                go_meet
                exact ⟨rfl, hB7, ⟨_, _, bF7, oF7⟩, hk7⟩
            case rest =>
              obtain ⟨rfl, hB5, ⟨fa2, fc2, HBF2, HOF2⟩, hkeep⟩ := hcut
              have oK5 := hkeep.out _ _ _ oK4
              obtain ⟨ak, ck, hu⟩ := own_slice oK5
              subst hu
              have hltw : Bf < wc.heap.size := HBF2.out.lt
              have hNK : Nds wc (.slice ak K.length ck) K := own_nds oK5 (fun z hz => (HE.out z (HI.out.2.2 z hz)).below hB5)
              have HEK : Hid (∀ z ∈ K, Ents w z.ev z.ents) := fun z hz => HE.out z (HI.out.2.2 z hz)
              obtain ⟨_, _, hu, hkc, hkm, _, _, HAK0⟩ := hNK
              simp only [Value.slice.injEq] at hu
              obtain ⟨rfl, _, rfl⟩ := hu
              unfold maxLen at hkm
              have HAK := Lib.hid HAK0
              have HIf := Lib.hid (show HoldsL l (cond gn (dropN (setN F ⟨yi, yk, yl, yd, yp, .slice ae yn.length ne, yn⟩) yi) (setN F ⟨yi, yk, yl, yd, yp, .slice ae yn.length ne, yn⟩)) (cond gn (K.filter (fun e => e.ino != yi)) (K.filter (fun e => e.ino != yi) ++ [⟨yi, yk, yl, yd, yp, .slice ae yn.length ne, yn⟩])) from by
                cases gn
                · exact HI2.out
                · exact holdsL_drop HI.out HXM.out)
              have hFl2 : (cond gn (dropN (setN F ⟨yi, yk, yl, yd, yp, .slice ae yn.length ne, yn⟩) yi) (setN F ⟨yi, yk, yl, yd, yp, .slice ae yn.length ne, yn⟩)).length ≤ k + 1 := by cases gn <;> simp only [cond_true, cond_false] <;> omega
              clear HAK0 hkeep oK4 bF4 oF4 hB4 HI2 HI oK5
              generalize cond gn (dropN (setN F ⟨yi, yk, yl, yd, yp, .slice ae yn.length ne, yn⟩) yi) (setN F ⟨yi, yk, yl, yd, yp, .slice ae yn.length ne, yn⟩) = F2 at *
              go_wp2
              go_loopw [9, 10] (fun s9 s10 wi => ∃ m : Nat, m ≤ K.length ∧ s10 = .int .i64 m ∧ Below wc.heap.size wc wi ∧ Aside (wi.ownsRow wc.heap.size 35 6 s9 ((K.take m).filter (fun e => e.ino != yi)).length (ndsV ((K.take m).filter (fun e => e.ino != yi))))) (fun _ s10 _ => K.length - (intOf s10).toNat)
              case atStart => exact ⟨0, Nat.zero_le _, rfl, Below.refl _ _, World.ownsRow_nil _ _ _ _⟩
              case round =>
                obtain ⟨m, hmk, rfl, hbi, HO⟩ := hrel
                have hBi := hB5.trans (hbi.mono hB5.size)
                obtain ⟨c0, c1, c2, c3', c4, c5⟩ := HX0.out.below hBi hb
                dsimp only at c0 c1 c2 c3' c4 c5
                have hsz := hbi.size
                by_cases hmlt : m < K.length
                · obtain ⟨bk, ok, rfl, hbk, hclk⟩ := HAK.out (by omega)
                  obtain ⟨d0, d1, d2, d3, d4, d5⟩ := (hclk m hmlt).below hbi hbk
                  clear hclk
                  obtain ⟨az, cz, hze, _⟩ := HEK.out _ (List.getElem_mem hmlt)
                  have hnx := filtN_next (n := yi) hmlt
                  have hfl : ((K.take m).filter (fun e => e.ino != yi)).length ≤ K.length := Nat.le_trans (List.length_filter_le _ _) (by simp; omega)
                  generalize K[m] = z at *
                  obtain ⟨zi, zk, zl, zd, zp, ze, zn⟩ := z
                  dsimp only at hze d0 d1 d2 d3 d4 d5 hnx
                  subst hze
                  have m0 : (0 : Int) ≤ (m : Int) := by omega
                  have m1 : (m : Int) < (K.length : Int) := by omega
                  have HOq := fun q => own_keep HO.out (below_drewN (Below.refl _ wr) q)
                  have hzq : ∀ q, wc.heap.size ≤ (wr.drewN q).heap.size := fun q => (below_drewN hbi q).size
                  have hbq : ∀ q, Below wc.heap.size wc (wr.drewN q) := fun q => below_drewN hbi q
                  cases he : (zi != yi)
                  · rw [he] at hnx
                    have HT2 := Lib.hid hnx
                    clear hnx
                    go_wp2
                    go_quiet (fail)
                    go_wp2
                    go_roundw
                    case rel => exact ⟨m + 1, by omega, by go_num, hbq _, by (show World.ownsRow _ _ _ _ _ _ _); rw [HT2.out]; simpa using HOq _⟩
                    case measure => simp [intOf]; omega
                  · rw [he] at hnx
                    have HT2 := Lib.hid hnx
                    clear hnx
                    generalize (K.take m).filter (fun e => e.ino != yi) = L at *
                    go_wp2
                    go_quiet (fail)
                    go_wp2_with ((at_builtin; refine wpList_append_new rfl (.tmp 77) (.tmp 82) 23 35 rfl Try.underlying23 hi hz0 hz1 hz2 rfl (by decide) (by decide) wc.heap.size (ndC ⟨zi, zk, zl, zd, zp, .slice az zn.length cz, zn⟩) 1 rfl rfl (HOq _) rfl (ndC_one _ rfl) (by omega) (hzq _) ?_; intro v8 w8 hown8 hb8); have hb9 := (hbq _).trans hb8; clear hbq hzq HOq)
                    have HO2 : Hid (w8.ownsRow wc.heap.size 35 6 v8 (L ++ [(⟨zi, zk, zl, zd, zp, .slice az zn.length cz, zn⟩ : Nd)]).length (ndsV (L ++ [(⟨zi, zk, zl, zd, zp, .slice az zn.length cz, zn⟩ : Nd)]))) := by
                      (show World.ownsRow _ _ _ _ _ _ _); rw [ndsV_append, List.length_append]; exact hown8
                    clear hown8 hb8 HO
                    go_roundw
                    case rel => exact ⟨m + 1, by omega, by go_num, hb9, by (show World.ownsRow _ _ _ _ _ _ _); rw [HT2.out]; simpa using HO2.out⟩
                    case measure => simp [intOf]; omega
                · obtain rfl : m = K.length := by omega
                  have h1 := HO.out
                  rw [List.take_length] at h1
                  have hKl : (K.filter (fun e => e.ino != yi)).length ≤ K.length := List.length_filter_le _ _
                  have H9 := Lib.hid h1
                  clear HO h1
                  generalize K.filter (fun e => e.ino != yi) = L at *
                  cases gn
                  · go_wp2_with ((at_builtin; refine wpList_append_new rfl (.tmp 87) (.tmp 92) 23 35 rfl Try.underlying23 hi hz0 hz1 hz2 rfl (by decide) (by decide) wc.heap.size (ndC ⟨yi, yk, yl, yd, yp, .slice ae yn.length ne, yn⟩) 1 rfl rfl H9.out rfl (ndC_one _ rfl) (by omega) hsz ?_; intro v8 w8 hown8 hb8))
                    have hB8 := hBi.trans (hb8.mono hB5.size)
                    have hbT := hbi.trans hb8
                    have HO8 : Hid (w8.ownsRow (Bf + 1) 35 6 v8 (L ++ [(⟨yi, yk, yl, yd, yp, .slice ae yn.length ne, yn⟩ : Nd)]).length (ndsV (L ++ [(⟨yi, yk, yl, yd, yp, .slice ae yn.length ne, yn⟩ : Nd)]))) := by
                      (show World.ownsRow _ _ _ _ _ _ _); rw [ndsV_append, List.length_append]; exact own_base hown8 hltw
                    clear hown8 hb8 H9 hbi hBi
                    go_roundg G
                    case measure => omega
                    case rel => exact ⟨k + 1, F2, L ++ [(⟨yi, yk, yl, yd, yp, .slice ae yn.length ne, yn⟩ : Nd)], fa2, fc2, by omega, by go_num, hFl2, by simp; omega, hB8, HBF2.out.next hbT, own_keep HOF2.out hbT, HO8.out, HIf.out⟩
                  · go_wp2
                    go_roundg G
                    case measure => omega
                    case rel => exact ⟨k + 1, F2, L, fa2, fc2, by omega, by go_num, hFl2, by omega, hBi, HBF2.out.next hbi, own_keep HOF2.out hbi, own_base H9.out hltw, HIf.out⟩
        · obtain rfl : k = l.length := by omega
          have hNF : Nds wr (.slice fa F.length fc) F := own_nds HOF.out (fun z hz => (HE.out z (HI.out.2.1 z hz)).below hbw)
          have oK5 := HOK.out
          obtain ⟨ak, ck, hu⟩ := own_slice oK5
          subst hu
          have hNK : Nds wr (.slice ak K.length ck) K := own_nds oK5 (fun z hz => (HE.out z (HI.out.2.2 z hz)).below hbw)
          have HEK : Hid (∀ z ∈ K, Ents wr z.ev z.ents) := hNK.all
          obtain ⟨_, _, hu, hkc, hkm, _, _, HAK0⟩ := hNK
          simp only [Value.slice.injEq] at hu
          obtain ⟨rfl, _, rfl⟩ := hu
          unfold maxLen at hkm
          have HAK := Lib.hid HAK0
          have HLEN := Lib.hid (holds_len HI.out.1)
          have HRI := Lib.hid ((riseN_iff F).2 HI.out.1.1)
          have HG : Hid (∀ m (hm : m < K.length), hasN F K[m].ino = true ∧ getN F K[m].ino = K[m]) := fun m hm => holds_get HI.out.1 hm
          have HFD : Hid (∀ z ∈ F, z.data.length ≤ 281474976710656) := fun z hz => HD.out z (HI.out.2.1 z hz)
          have HRP := Lib.hid HI.out.1.1
          have HNF := Lib.hid hNF
          clear HAK0 HOF HOK HI oK5 hNF
          go_wp2
          go_loopg [11] K.length (fun g s11 wt => ∃ m : Nat, m + g = K.length ∧ s11 = .int .i64 m ∧ Below wr.heap.size wr wt)
          case atStart => exact ⟨0, by omega, rfl, Below.refl _ _⟩
          case round =>
            obtain ⟨m, hmg, rfl, hbt⟩ := hrel
            obtain ⟨⟨p0, p1, p2, p3⟩, _⟩ := (HBF.out.next hbt).four
            have hBt := hbw.trans (hbt.mono hbw.size)
            by_cases hmlt : m < K.length
            · obtain ⟨G, rfl⟩ : ∃ G, gk = G + 1 := ⟨gk - 1, by omega⟩
              obtain ⟨bk, ok, rfl, hbk, hclk⟩ := HAK.out (by omega)
              have hz0 := hclk m hmlt
              have hgm := HG.out m hmlt
              have hze0 := HEK.out _ (List.getElem_mem hmlt)
              clear hclk
              generalize K[m] = z at *
              obtain ⟨zi, zk, zl, zd, zp, ze, zn⟩ := z
              dsimp only at hze0 hgm
              obtain ⟨az, cz, rfl, _⟩ := id hze0
              have HZ0 := Lib.hid hz0
              obtain ⟨d0, d1, d2, d3, d4, d5⟩ := hz0.below hbt hbk
              dsimp only at d0 d1 d2 d3 d4 d5
              clear hz0
              have m0 : (0 : Int) ≤ (m : Int) := by omega
              have m1 : (m : Int) < (K.length : Int) := by omega
              have hdr : Below wr.heap.size wr wr.drew := (Below.refl _ _).drew
              have hdr2 : Below wr.heap.size wr (wr.alloc (.cells #[.int .i64 0, .int .i64 0, .int .i64 0, .string ⟨#[]⟩, .int .i64 0, .slice none 0 0] 35)).drew := (alloc_below wr _).drew
              have hGc : ∀ W, Below wr.heap.size wr W → Calls Try.prog 15 #[.agg (fsC 0 0 0 (.slice fa F.length fc)), .int .i64 zi] W fun e w' => e = .returned (.tuple #[.agg #[.int .i64 zi, .int .i64 zk, .int .i64 zl, .string ⟨zd.toArray⟩, .int .i64 zp, .slice az zn.length cz], .bool true]) ∧ Below W.heap.size W w' := by
                intro W hW
                have hG := GetN_any 0 0 0 zi F _ _ (HNF.out.below (hbt.trans (hW.mono hbt.size))) HRP.out (by omega) HFD.out
                rw [hgm.2, hgm.1] at hG
                exact hG
              have HMK : ∀ W, Below wr.heap.size wr W → (W.cell? ⟨Bf, 0, none⟩ = some (.int .i64 0) ∧ W.cell? ⟨Bf, 1, none⟩ = some (.int .i64 0) ∧ W.cell? ⟨Bf, 2, none⟩ = some (.int .i64 0) ∧ W.cell? ⟨Bf, 3, none⟩ = some (.slice fa F.length fc) ∧ W.cell? ⟨bk, ok + m * 6, none⟩ = some (.int .i64 zi)) := by
                intro W h
                obtain ⟨⟨x0, x1, x2, x3⟩, _⟩ := ((HBF.out.next hbt).next h).four
                exact ⟨x0, x1, x2, x3, (HZ0.out.below (hbt.trans (h.mono hbt.size)) hbk).1⟩
              have hG1 := hGc _ hdr
              have hG2 := hGc _ hdr2
              have hG3 := hGc (wr.drew.alloc (.cells #[.int .i64 0, .int .i64 0, .int .i64 0, .string ⟨#[]⟩, .int .i64 0, .slice none 0 0] 35)) (hdr.alloc hdr.size _)
              have hq := hdr
              clear hgm d0 d1 d2 d3 d4 d5 p0 p1 p2 p3
              go_upto_region 24 with fail
              go_cut [12, 13] from 94 to 120 (fun s12 s13 wc => ∃ BX, s12 = .pointer (some ⟨BX, 0, none⟩) ∧ s13 = .bool true ∧ Below wr.heap.size wr wc ∧ Aside (Blk wc BX 35 (ndC ⟨zi, zk, zl, zd, zp, .slice az zn.length cz, zn⟩)))
              case first =>
                go_region_held3 (fun W => W.cell? ⟨Bf, 0, none⟩ = some (.int .i64 0) ∧ W.cell? ⟨Bf, 1, none⟩ = some (.int .i64 0) ∧ W.cell? ⟨Bf, 2, none⟩ = some (.int .i64 0) ∧ W.cell? ⟨Bf, 3, none⟩ = some (.slice fa F.length fc) ∧ W.cell? ⟨bk, ok + m * 6, none⟩ = some (.int .i64 zi))
                  (first | with_reducible exact HMK _ hq | with_reducible exact HMK _ (hq.alloc hq.size _) | with_reducible exact HMK _ hdr2 | with_reducible exact HMK _ (below_grown hq hgW (Nat.le_refl _) (Nat.le_refl _)))
                  (first
                    | (go_at_call 15; with_reducible refine hG1.mono ?_; rintro e w6 ⟨rfl, b6⟩; have hq := hq.trans (b6.mono hq.size))
                    | (go_at_call 15; (first | with_reducible refine hG3.mono ?_ | with_reducible refine hG2.mono ?_); rintro e w6 ⟨rfl, b6⟩; have hbx : Blk w6 wr.heap.size 35 (ndC zeroN) := Blk.next (W := wr.drew.alloc (.cells #[.int .i64 0, .int .i64 0, .int .i64 0, .string ⟨#[]⟩, .int .i64 0, .slice none 0 0] 35)) (Blk.new wr.drew 35 (ndC zeroN)) b6; have hq := (hq.alloc hq.size (.cells #[.int .i64 0, .int .i64 0, .int .i64 0, .string ⟨#[]⟩, .int .i64 0, .slice none 0 0] 35)).trans (b6.mono (hq.alloc hq.size (.cells #[.int .i64 0, .int .i64 0, .int .i64 0, .string ⟨#[]⟩, .int .i64 0, .slice none 0 0] 35)).size); obtain ⟨⟨x0, x1, x2, x3, x4, x5⟩, f0, f1, f2, f3, f4, f5⟩ := hbx.six; simp only [zeroN] at x0 x1 x2 x3 x4 x5; obtain ⟨W', hW', hbW, hgW⟩ := hbx.put6 ⟨zi, zk, zl, zd, zp, .slice az zn.length cz, zn⟩; dsimp only at hW'))
                all_goals (go_wp2_with fail; go_meet)
                all_goals first
                  | exact ⟨_, rfl, rfl, hq.alloc hq.size _, Blk.new w6 35 (ndC ⟨zi, zk, zl, zd, zp, .slice az zn.length cz, zn⟩)⟩
                  | exact ⟨_, rfl, rfl, below_grown hq hgW (Nat.le_refl _) (Nat.le_refl _), hbW⟩
              case rest =>
                obtain ⟨BX, rfl, rfl, hbc, HBX⟩ := hcut
                have hb7 := hbt.trans (hbc.mono hbt.size)
                have hB7 := hbw.trans (hb7.mono hbw.size)
                have bX3 := HBX.out
                clear hbt hBt hbc hdr hdr2 hGc hG1 hG2 hG3 hq HMK
                go_upto_region 25 with fail
                obtain ⟨⟨x0, x1, x2, x3, x4, x5⟩, _⟩ := bX3.six
                obtain ⟨d0, d1, d2, d3, d4, d5⟩ := HZ0.out.below hb7 hbk
                dsimp only at d0 d1 d2 d3 d4 d5 x0 x1 x2 x3 x4 x5
                go_still_tail 8, (by kernel_rfl)
                change wpList _ _ _ _ _ wc.drew
                replace hb7 := hb7.drew
                replace hB7 := hB7.drew
                generalize wc.drew = w7 at *
                clear x0 x1 x2 x3 x4 x5 d0 d1 d2 d3 d4 d5 bX3
                go_wp2_with fail
                refine (one_same ⟨zi, zk, zl, zd, zp, .slice az zn.length cz, zn⟩ _ (hze0.below hb7)).mono ?_
                rintro e w8 ⟨rfl, b8⟩
                have hb9 := hb7.trans (b8.mono hb7.size)
                go_wp2
                go_roundg G
                case measure => omega
                case rel => exact ⟨m + 1, by omega, by go_num, hb9⟩
            · obtain rfl : m = K.length := by omega
              go_wp2_with fail; refine (riseT_any 0 0 0 F _ _ (HNF.out.below hbt) (by omega)).mono ?_; rintro e w9 ⟨rfl, b9⟩
              obtain ⟨⟨q0, q1, q2, q3⟩, _⟩ := ((HBF.out.next hbt).next b9).four
              have hB9 := hBt.trans (b9.mono hBt.size)
              rw [HRI.out]
              go_wp2
              go_ret
              exact ⟨ret_bool (by rw [HLEN.out]; simp), hB9⟩
    · go_enter Try.func7, Try.ntmps7
      go_wp2_with fail; refine (awake_any _).mono ?_; rintro e w1 ⟨rfl, b1⟩
      go_wp2_with fail; refine (awake_any _).mono ?_; rintro e w2 ⟨rfl, b2⟩
      go_wp2
      go_ret
      exact ⟨rfl, b1.trans (b2.mono b1.size)⟩
  · go_enter Try.func7, Try.ntmps7
    go_wp2_with fail; refine (awake_any _).mono ?_; rintro e w1 ⟨rfl, b1⟩
    go_wp2_with fail; refine (awake_any _).mono ?_; rintro e w2 ⟨rfl, b2⟩
    go_wp2
    go_ret
    exact ⟨rfl, b1.trans (b2.mono b1.size)⟩

namespace LTableHolds
set_option maxRecDepth 100000 in
theorem lifted (os : Os) (started : os.Started) (H : Type) (enc : TypeId × Value → H) :
    ReturnsInHanded {} Try.checked os 7 .any (Rows.tableHoldsSpec.pre6 enc Try.prog Try.f7 Rows.tableHoldsRow.domain false) (Rows.tableHoldsSpec.post enc Try.prog Try.f7 false true false false) := by
  refine returnsInHanded_of_change_sized (C := Try.checked) (by kernel_rfl) started (by kernel_rfl) Try.func7
    (ChangeSpec.witness6 (enc := enc) (C := Try.checked) false ⟨#[], #[.slice none 0 0, .slice none 0 0], []⟩ 8 (by kernel_rfl) (by kernel_rfl) (by kernel_rfl) (by kernel_rfl)) ?_
  intro W base args ds gs before hval0 hW hcnd hsz0 _
  have hval : ∀ (j : Nat) t v, Try.f7.params[j]? = some t → args[j]? = some v → Value.okWide Try.prog W .any base t v := hval0
  have hW' := hW
  obtain ⟨p, q, hA0, hV, rfl, hfz, hnd⟩ := hW
  have hA : DataW.TrodAll enc Try.prog W 0 (fun _ => true) true Try.f7.params.toList args.toList ds p := hA0
  have hsz1 : (DataW.weightsEach Try.prog (Try.f7.params.toList ++ Rows.tableHoldsSpec.plain.varTypes Try.prog) (ds ++ gs)).all (· ≤ reachBytes) = true := hsz0
  rw [Try.params7] at hsz1
  rw [Try.params7] at hA hval
  obtain ⟨v0, vs0, d0, ds0, p0, q0, hargs, rfl, rfl, k0, r0⟩ := trodAll_cons hA
  obtain ⟨v1, vs1, d1, ds1, p1, q1, rfl, rfl, rfl, k1, r1⟩ := trodAll_cons r0
  obtain ⟨rfl, rfl, rfl⟩ := trodAll_nil r1
  obtain rfl : args = #[v0, v1] := by cases args; simp_all
  obtain ⟨rfl, rfl⟩ := trodVars_none hV
  have hsz : (DataW.weightsEach Try.prog [23, 45] [d0, d1]).all (· ≤ reachBytes) = true := hsz1
  have ok0 := hval 0 23 v0 rfl rfl
  have ok1 := hval 1 45 v1 rfl rfl
  have lt0 : ∀ x ∈ p0, x.block < W.heap.size := by obtain ⟨m, hm⟩ := k0; exact DataW.trod_lt m _ _ _ hm
  have lt1 : ∀ x ∈ p1, x.block < W.heap.size := by obtain ⟨m, hm⟩ := k1; exact DataW.trod_lt m _ _ _ hm
  have C : Calls Try.prog 7 #[v0, v1] W fun e w' => e = .returned (.bool true) ∧ Below W.heap.size W w' := by
    clear hA0 hval0 hval hW' hcnd hV hfz hnd
    obtain ⟨l, hl, hlw⟩ := nds_of_trod k0 ⟨_, ok0⟩
    obtain ⟨y, hy⟩ := byts_of_trod ok1 k1
    refine lawHolds l y v0 v1 W hl hy (fun x hx => ?_)
    have hm := DataW.weights_mem_each (P := Try.prog) (ts := [23, 45]) (ds := [d0, d1]) (j := 0) rfl rfl _ (hlw x hx).2
    have := List.all_eq_true.1 hsz _ hm
    simp only [decide_eq_true_eq] at this
    exact Nat.le_trans this (by decide)
  refine C.mono fun e W' ⟨he, bel⟩ => ?_
  subst he
  exact ⟨_, rfl, _, _, _, [], _, [], hW', trodAll_mk1 (shut_bool Try.underlying4 _), (trodAll_cons_mk (Below.trod laidOut (by kernel_rfl) (of_decide_eq_true (by kernel_rfl)) k0 bel lt0) (trodAll_cons_mk (Below.trod laidOut (by kernel_rfl) (of_decide_eq_true (by kernel_rfl)) k1 bel lt1) trodAll_mk0)), rfl, bel.frame _, fun h => by cases h⟩
theorem proved : Rows.TableHoldsSaid :=
  OpenClaim.holds_of_wide 7 Try.f7 rfl rfl rfl rfl rfl rfl rfl ⟨rfl, rfl, rfl, rfl, rfl⟩ rfl rfl rfl rfl rfl (by kernel_rfl) Try.func7 (by kernel_rfl)
    (of_decide_eq_true (by kernel_rfl)) (by unfold Func.isWrapper; first | (rw [if_pos (by decide +kernel)]; kernel_rfl) | (rw [if_neg (by decide +kernel)]; exact ⟨rfl, rfl⟩))
    (fun os started H enc _ => lifted os started H enc)
#print axioms proved
end LTableHolds
end Go.Proofs.Ytjdpkienljenhaa
