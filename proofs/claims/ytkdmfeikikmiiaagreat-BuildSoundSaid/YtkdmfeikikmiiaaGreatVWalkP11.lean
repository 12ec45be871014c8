/- Walks: the program's New, Mkdir, Create, Symlink. -/
import Derived.Test.YtkdmfeikikmiiaaGreatVWalkO11
import Derived.Test.YtkdmfeikikmiiaaGreatVMWalkD11
import Derived.Test.YtkdmfeikikmiiaaGreatVMWalkB05
import Derived.Test.YtkdmfeikikmiiaaGreatVMSure14
set_option linter.unusedVariables false
set_option linter.unusedSimpArgs false
namespace Go.Proofs.YtkdmfeikikmiiaaGreat
open Go.RowKit
theorem next_of {mi mb nx : Int} {l : List Nd} (h : okB mi mb nx l = true) : 0 ≤ nx := by
  have hs := ok_sound h
  have h1 := get_mem hs.root
  have := hs.ino _ h1.1
  omega
theorem size_fits (k : Int) (data : List UInt8) (h : data.length ≤ 20000) : -1099511627776 ≤ sizeK k data ∧ sizeK k data ≤ 1099511627776 := by unfold sizeK; split <;> omega
set_option maxHeartbeats 8000000 in
set_option maxRecDepth 100000 in
theorem NewQ_any (mi mb nx k : Int) (l : List Nd) (s : Sp) (data : List UInt8) (v : Value) (w : World) (hv : Nds w v l) (hok : okB mi mb nx l = true) (hnx : nx < 1099511627776) (hdl : data.length ≤ 20000) (hn : s.name.length ≤ 255) :
    Calls Tryz.prog 67 #[.agg (fsC mi mb nx v), .agg (spC s), .int .i64 k, .string ⟨data.toArray⟩] w fun e w' => ∃ y ev, e = .returned (.tuple #[.agg (fsC mi mb (newF mi mb nx l s k data ev).1.1 y), .int .i64 (newF mi mb nx l s k data ev).2]) ∧ MadeFs w v l w' y (newF mi mb nx l s k data ev).1.2 ∧ Below w.heap.size w w' := by
  obtain ⟨a, ca, rfl⟩ := nds_slice hv
  obtain ⟨sd, sn, si⟩ := s
  dsimp only at hn
  have bF := ((Blk.new w 28 (fsC mi mb nx (.slice a l.length ca))).alloc (.cells (spC ⟨sd, sn, si⟩) 81)).alloc (.cells (fsC 0 0 0 (.slice none 0 0)) 28)
  have bS := (Blk.new (w.alloc (.cells (fsC mi mb nx (.slice a l.length ca)) 28)) 81 (spC ⟨sd, sn, si⟩)).alloc (.cells (fsC 0 0 0 (.slice none 0 0)) 28)
  have bR := Blk.new ((w.alloc (.cells (fsC mi mb nx (.slice a l.length ca)) 28)).alloc (.cells (spC ⟨sd, sn, si⟩) 81)) 28 (fsC 0 0 0 (.slice none 0 0))
  have hB0 : Below w.heap.size w (((w.alloc (.cells (fsC mi mb nx (.slice a l.length ca)) 28)).alloc (.cells (spC ⟨sd, sn, si⟩) 81)).alloc (.cells (fsC 0 0 0 (.slice none 0 0)) 28)) := (((Below.refl _ w).alloc (Nat.le_refl _) _).alloc (by simp) _).alloc (by simp; omega) _
  simp only [World.size_alloc] at bS bR
  have HV := Lib.hid hv
  have HC := Lib.hid (calm_of hok)
  have HF := Lib.hid (fit_of hok)
  have HNX := Lib.hid (next_of hok)
  have HEV := Lib.hid (fun ev => newF_may (mi := mi) (mb := mb) (nx := nx) (l := l) (s := ⟨sd, sn, si⟩) (k := k) (data := data) (ev := ev))
  have HFU := Lib.hid (fun ev => newF_full (mi := mi) (mb := mb) (nx := nx) (l := l) (s := ⟨sd, sn, si⟩) (k := k) (data := data) (ev := ev))
  have HOK := Lib.hid (fun ev => newF_ok (mi := mi) (mb := mb) (nx := nx) (l := l) (s := ⟨sd, sn, si⟩) (k := k) (data := data) (ev := ev))
  have hfc := size_fits k data hdl
  clear hv hok
  obtain ⟨⟨p0, p1, p2, p3⟩, _⟩ := bF.four
  obtain ⟨⟨s0, s1, s2⟩, _⟩ := bS.three
  dsimp only at s0 s1 s2
  have hkk : ∀ x : Int, (k = 1 → x = (data.length : Int)) → (k ≠ 1 → x = 0) → x = sizeK k data := by
    intro x h1 h2
    unfold sizeK
    split
    · rename_i h; exact h1 h
    · rename_i h; exact h2 h
  have HKK := Lib.hid hkk
  clear hkk
  generalize hW0 : ((w.alloc (.cells (fsC mi mb nx (.slice a l.length ca)) 28)).alloc (.cells (spC ⟨sd, sn, si⟩) 81)).alloc (.cells (fsC 0 0 0 (.slice none 0 0)) 28) = W0 at *
  go_enter Tryz.func67, Tryz.ntmps67
  go_upto_if 12 with (fail)
  go_cut [10] from 12 (fun s10 wc => wc = W0 ∧ s10 = .int .i64 (sizeK k data))
  case first =>
    by_cases hk1 : k = 1
    · subst hk1
      go_wp2_with fail
      go_meet
      exact ⟨rfl, by rw [← HKK.out data.length (fun _ => rfl) (fun h => absurd rfl h)]⟩
    · go_wp2_with fail
      go_meet
      exact ⟨rfl, by rw [← HKK.out 0 (fun h => absurd h hk1) (fun _ => rfl)]⟩
  case rest =>
    obtain ⟨hwc, rfl⟩ := hcut
    subst hwc
    clear HKK hW0
    rename World => W1
    have hMy := May_any sn W1 (by omega)
    cases hm : mayB sn
    · rw [hm] at hMy
      have HN := Lib.hid (fun ev => HEV.out ev hm)
      clear HEV HFU HOK
      go_wp2_with fail
      refine hMy.mono ?_
      rintro e w1 ⟨rfl, b1⟩
      clear hMy p0 p1 p2 p3 s0 s1 s2
      have bF1 := bF.next b1
      have bR1 := bR.next b1
      have hB1 := hB0.trans (b1.mono hB0.size)
      obtain ⟨⟨p0, p1, p2, p3⟩, _⟩ := bF1.four
      obtain ⟨⟨r0, r1, r2, r3⟩, e0, e1, e2, e3⟩ := bR1.four
      obtain ⟨W', hW', hb4, hg4⟩ := bR1.put4 (.int .i64 mi) (.int .i64 mb) (.int .i64 nx) (.slice a l.length ca)
      have hbl := below_grown hB1 hg4 (Nat.le_refl _) (by omega)
      go_wp2
      obtain ⟨⟨y0, y1, y2, y3⟩, _⟩ := hb4.four
      refine bodyPost_ret (v := .tuple #[.agg (fsC mi mb nx (.slice a l.length ca)), .int .i64 9]) (by simp [results, Tryz.f67, go_sem, y0, y1, y2, y3]) rfl ?_
      exact ⟨_, .slice none 0 0, by rw [HN.out], by rw [HN.out]; exact MadeFs.same _ _ _ _, hbl⟩
    · rw [hm] at hMy
      have hFt := fun w' h => Fits_any mi mb nx 1 (sizeK k data) l (.slice a l.length ca) w' h (by have := HF.out.few; omega) (by have := HF.out.bytes; omega) (by decide) hfc
      cases hf : fitsB mi mb l 1 (sizeK k data)
      · rw [hf] at hFt
        have HN := Lib.hid (fun ev => HFU.out ev hm hf)
        clear HEV HFU HOK
        go_wp2_with fail
        refine hMy.mono ?_
        rintro e w1 ⟨rfl, b1⟩
        clear hMy p0 p1 p2 p3 s0 s1 s2
        have bF1 := bF.next b1
        have bR1 := bR.next b1
        have hB1 := hB0.trans (b1.mono hB0.size)
        obtain ⟨⟨p0, p1, p2, p3⟩, _⟩ := bF1.four
        go_wp2_with fail
        refine (hFt _ (HV.out.below hB1)).mono ?_
        rintro e w2 ⟨rfl, b2⟩
        clear hFt p0 p1 p2 p3
        replace bF1 := bF1.next b2
        replace bR1 := bR1.next b2
        replace hB1 := hB1.trans (b2.mono hB1.size)
        obtain ⟨⟨p0, p1, p2, p3⟩, _⟩ := bF1.four
        obtain ⟨⟨r0, r1, r2, r3⟩, e0, e1, e2, e3⟩ := bR1.four
        obtain ⟨W', hW', hb4, hg4⟩ := bR1.put4 (.int .i64 mi) (.int .i64 mb) (.int .i64 nx) (.slice a l.length ca)
        have hbl := below_grown hB1 hg4 (Nat.le_refl _) (by omega)
        go_wp2
        obtain ⟨⟨y0, y1, y2, y3⟩, _⟩ := hb4.four
        refine bodyPost_ret (v := .tuple #[.agg (fsC mi mb nx (.slice a l.length ca)), .int .i64 8]) (by simp [results, Tryz.f67, go_sem, y0, y1, y2, y3]) rfl ?_
        exact ⟨_, .slice none 0 0, by rw [HN.out], by rw [HN.out]; exact MadeFs.same _ _ _ _, hbl⟩
      · rw [hf] at hFt
        have HN := Lib.hid (fun ev => HOK.out ev hm hf)
        clear HEV HFU HOK
        go_wp2_with fail
        refine hMy.mono ?_
        rintro e w1 ⟨rfl, b1⟩
        clear hMy p0 p1 p2 p3 s0 s1 s2
        have bF1 := bF.next b1
        have bS1 := bS.next b1
        have bR1 := bR.next b1
        have hB1 := hB0.trans (b1.mono hB0.size)
        obtain ⟨⟨p0, p1, p2, p3⟩, _⟩ := bF1.four
        go_wp2_with fail
        refine (hFt _ (HV.out.below hB1)).mono ?_
        rintro e w2 ⟨rfl, b2⟩
        clear hFt p0 p1 p2 p3
        replace bF1 := bF1.next b2
        replace bS1 := bS1.next b2
        replace bR1 := bR1.next b2
        replace hB1 := hB1.trans (b2.mono hB1.size)
        have hWi := withN_any mi mb nx k l ⟨sd, sn, si⟩ data _ _ (HV.out.below hB1) HC.out hdl hn HNX.out (by omega)
        obtain ⟨⟨p0, p1, p2, p3⟩, _⟩ := bF1.four
        obtain ⟨⟨s0, s1, s2⟩, _⟩ := bS1.three
        dsimp only at s0 s1 s2
        go_wp2_with fail
        refine hWi.mono ?_
        rintro e w3 ⟨y, ev, rfl, hN, b3⟩
        obtain ⟨ay, cy, rfl⟩ := nds_slice (hN.now (HV.out.below hB1) b3)
        have HNN := HN.out ev
        generalize newL l sd sn ev (leafX nx k data sd) = L at *
        have HNN2 := Lib.hid HNN
        clear hWi p0 p1 p2 p3 s0 s1 s2 HN HNN
        have hRl := bR1.lt
        have bR3 := bR1.next b3
        have hB3 := hB1.trans (b3.mono hB1.size)
        obtain ⟨⟨r0, r1, r2, r3⟩, e0, e1, e2, e3⟩ := bR3.four
        obtain ⟨W', hW', hb4, hg4⟩ := bR3.put4 (.int .i64 mi) (.int .i64 mb) (.int .i64 (nx + 1)) (.slice ay L.length cy)
        have hbl := below_grown hB3 hg4 (Nat.le_refl _) (by omega)
        have hM := hN.up (w := w) (w' := W') hB1.size (Kept.grown hg4 hRl)
        go_wp2
        obtain ⟨⟨y0, y1, y2, y3⟩, _⟩ := hb4.four
        refine bodyPost_ret (v := .tuple #[.agg (fsC mi mb (nx + 1) (.slice ay L.length cy)), .int .i64 0]) (by simp [results, Tryz.f67, go_sem, y0, y1, y2, y3]) rfl ?_
        exact ⟨_, ev, by rw [HNN2.out], by rw [HNN2.out]; exact hM, hbl⟩
/-- What a call's own part answers, once the path has led to a place. -/
def shutF (mi mb nx : Int) (l : List Nd) (s : Sp) (k : Int) (data : List UInt8) (rf : Int) (p : List UInt8) (ev : Value) : (Int × List Nd) × Int :=
  if rf ≠ 0 ∧ slashB p = true then ((nx, l), rf) else newF mi mb nx l s k data ev
theorem shut_new {mi mb nx : Int} {l : List Nd} {s : Sp} {k : Int} {data : List UInt8} {rf : Int} {p : List UInt8} {ev : Value} (h : ¬ (rf ≠ 0 ∧ slashB p = true)) : shutF mi mb nx l s k data rf p ev = newF mi mb nx l s k data ev := by unfold shutF; rw [if_neg h]
theorem shut_shut {mi mb nx : Int} {l : List Nd} {s : Sp} {k : Int} {data : List UInt8} {rf : Int} {p : List UInt8} {ev : Value} (h : rf ≠ 0 ∧ slashB p = true) : shutF mi mb nx l s k data rf p ev = ((nx, l), rf) := by unfold shutF; rw [if_pos h]
theorem put_shut {mi mb nx : Int} {l : List Nd} {base p : List UInt8} {k : Int} {data : List UInt8} {rf : Int} {ev : Value} (h : (seekP l base p false).2 = 0) (h2 : (seekP l base p false).1.ino = 0) : putF mi mb nx l base p k data rf ev = shutF mi mb nx l (seekP l base p false).1 k data rf p ev := by
  unfold putF shutF; rw [if_neg (by simp [h]), if_neg (by simp [h2])]
set_option maxHeartbeats 4000000 in
theorem mk1_any (mi mb nx : Int) (l : List Nd) (s : Sp) (p : List UInt8) (v : Value) (B : Nat) (w : World) (hF : Blk w B 28 (fsC mi mb nx v)) (hv : Nds w v l) (hok : okB mi mb nx l = true) (hnx : nx < 1099511627776) (hn : s.name.length ≤ 255) :
    Calls Tryz.prog 66 #[.agg (spC s), .pointer (some ⟨B, 0, none⟩)] w fun e w' => ∃ y ev, e = .returned (.tuple #[.agg (fsC mi mb (shutF mi mb nx l s 2 [] 0 p ev).1.1 y), .int .i64 (shutF mi mb nx l s 2 [] 0 p ev).2]) ∧ MadeFs w v l w' y (shutF mi mb nx l s 2 [] 0 p ev).1.2 ∧ Below w.heap.size w w' := by
  obtain ⟨a, ca, rfl⟩ := nds_slice hv
  obtain ⟨sd, sn, si⟩ := s
  have bS := (Blk.new w 81 (spC ⟨sd, sn, si⟩)).alloc (.cells (fsC 0 0 0 (.slice none 0 0)) 28)
  have bR := Blk.new (w.alloc (.cells (spC ⟨sd, sn, si⟩) 81)) 28 (fsC 0 0 0 (.slice none 0 0))
  have bF := (hF.alloc (.cells (spC ⟨sd, sn, si⟩) 81)).alloc (.cells (fsC 0 0 0 (.slice none 0 0)) 28)
  have hB := ((Below.refl w.heap.size w).alloc (Nat.le_refl _) (.cells (spC ⟨sd, sn, si⟩) 81)).alloc (by simp) (.cells (fsC 0 0 0 (.slice none 0 0)) 28)
  simp only [World.size_alloc] at bR
  have hNV := hv.below hB
  have hNw := NewQ_any mi mb nx 2 l ⟨sd, sn, si⟩ [] _ _ hNV hok hnx (by decide) hn
  have HS := Lib.hid (fun ev => shut_new (mi := mi) (mb := mb) (nx := nx) (l := l) (s := ⟨sd, sn, si⟩) (k := 2) (data := []) (rf := 0) (p := p) (ev := ev) (fun h => h.1 rfl))
  clear hv hF
  obtain ⟨⟨p0, p1, p2, p3⟩, _⟩ := bF.four
  obtain ⟨⟨s0, s1, s2⟩, _⟩ := bS.three
  dsimp only at s0 s1 s2
  go_enter Tryz.func66, Tryz.ntmps66
  go_wp2_with fail
  refine hNw.mono ?_
  rintro e w3 ⟨y, ev, rfl, hN, b3⟩
  obtain ⟨ay, cy, rfl⟩ := nds_slice (hN.now hNV b3)
  have hZ := HS.out ev
  generalize newF mi mb nx l ⟨sd, sn, si⟩ 2 [] ev = Z at *
  obtain ⟨⟨z1, z2⟩, z3⟩ := Z
  dsimp only at hN
  have HZ := Lib.hid hZ
  have hRl := bR.lt
  have hsz := hB.size
  clear hNw hZ HS p0 p1 p2 p3 s0 s1 s2
  have bR3 := bR.next b3
  have hB3 := hB.trans (b3.mono hB.size)
  obtain ⟨⟨r0, r1, r2, r3⟩, e0, e1, e2, e3⟩ := bR3.four
  obtain ⟨W', hW', hb4, hg4⟩ := bR3.put4 (.int .i64 mi) (.int .i64 mb) (.int .i64 z1) (.slice ay z2.length cy)
  have hbl := below_grown hB3 hg4 (Nat.le_refl _) (by omega)
  have hM := hN.up (w := w) (w' := W') hsz (Kept.grown hg4 hRl)
  go_wp2
  obtain ⟨⟨y0, y1, y2, y3⟩, _⟩ := hb4.four
  refine bodyPost_ret (v := .tuple #[.agg (fsC mi mb z1 (.slice ay z2.length cy)), .int .i64 z3]) (by simp [results, Tryz.f66, go_sem, y0, y1, y2, y3]) rfl ?_
  exact ⟨_, ev, by rw [HZ.out], by rw [HZ.out]; exact hM, hbl⟩
theorem fieldV2 (a s : Bool) (v : Value) (w : World) : (Instr.field 86 (.agg (pathV a v s)) 2).run Tryz.prog w = .ok (.bool s) w := by kernel_rfl
abbrev strC (l : List UInt8) : Array Value := #[.string ⟨l.toArray⟩]
set_option maxHeartbeats 4000000 in
theorem crt1_any (mi mb nx : Int) (l : List Nd) (s : Sp) (p data : List UInt8) (v : Value) (BP BF BD : Nat) (w : World) (hP : Blk w BP 9 (strC p)) (hF : Blk w BF 28 (fsC mi mb nx v)) (hD : Blk w BD 9 (strC data)) (hv : Nds w v l) (hok : okB mi mb nx l = true) (hnx : nx < 1099511627776) (hn : s.name.length ≤ 255) (hp : p.length ≤ 20000) (hdl : data.length ≤ 20000) :
    Calls Tryz.prog 69 #[.agg (spC s), .pointer (some ⟨BP, 0, none⟩), .pointer (some ⟨BF, 0, none⟩), .pointer (some ⟨BD, 0, none⟩)] w fun e w' => ∃ y ev, e = .returned (.tuple #[.agg (fsC mi mb (shutF mi mb nx l s 1 data 4 p ev).1.1 y), .int .i64 (shutF mi mb nx l s 1 data 4 p ev).2]) ∧ MadeFs w v l w' y (shutF mi mb nx l s 1 data 4 p ev).1.2 ∧ Below w.heap.size w w' := by
  obtain ⟨a, ca, rfl⟩ := nds_slice hv
  obtain ⟨sd, sn, si⟩ := s
  have bS := (Blk.new w 81 (spC ⟨sd, sn, si⟩)).alloc (.cells (fsC 0 0 0 (.slice none 0 0)) 28)
  have bR := Blk.new (w.alloc (.cells (spC ⟨sd, sn, si⟩) 81)) 28 (fsC 0 0 0 (.slice none 0 0))
  have bF := (hF.alloc (.cells (spC ⟨sd, sn, si⟩) 81)).alloc (.cells (fsC 0 0 0 (.slice none 0 0)) 28)
  have bP := (hP.alloc (.cells (spC ⟨sd, sn, si⟩) 81)).alloc (.cells (fsC 0 0 0 (.slice none 0 0)) 28)
  have bD := (hD.alloc (.cells (spC ⟨sd, sn, si⟩) 81)).alloc (.cells (fsC 0 0 0 (.slice none 0 0)) 28)
  have hB := ((Below.refl w.heap.size w).alloc (Nat.le_refl _) (.cells (spC ⟨sd, sn, si⟩) 81)).alloc (by simp) (.cells (fsC 0 0 0 (.slice none 0 0)) 28)
  simp only [World.size_alloc] at bR
  have HV := Lib.hid hv
  have hNw := fun w' h => NewQ_any mi mb nx 1 l ⟨sd, sn, si⟩ data (.slice a l.length ca) w' h hok hnx hdl hn
  have HS := Lib.hid (fun ev => shut_new (mi := mi) (mb := mb) (nx := nx) (l := l) (s := ⟨sd, sn, si⟩) (k := 1) (data := data) (rf := 4) (p := p) (ev := ev))
  have HT := Lib.hid (fun ev => shut_shut (mi := mi) (mb := mb) (nx := nx) (l := l) (s := ⟨sd, sn, si⟩) (k := 1) (data := data) (rf := 4) (p := p) (ev := ev))
  clear hv hF hP hD
  have q0 := (bP.cell 0).trans (show (strC p)[0]? = some (.string ⟨p.toArray⟩) from rfl)
  go_enter Tryz.func69, Tryz.ntmps69
  have hRd := fun w' => Read_any p (by omega) w'
  cases hsl : slashB p
  · rw [hsl] at hRd
    replace HS := Lib.hid (fun ev => HS.out ev (fun h => by rw [hsl] at h; cases h.2))
    clear HT
    go_wp2_with fail
    refine (hRd _).mono ?_
    rintro e w1 ⟨vp, rfl, hop, b1⟩
    obtain ⟨ap, cp, rfl⟩ := own_slice hop
    have hfi := fieldV2 (absB p) false (.slice ap (namesB p).length cp)
    clear hop q0 hRd
    replace bF := bF.next b1
    replace bR := bR.next b1
    replace bS := bS.next b1
    replace bD := bD.next b1
    replace hB := hB.trans (b1.mono hB.size)
    obtain ⟨⟨p0, p1, p2, p3⟩, _⟩ := bF.four
    obtain ⟨⟨s0, s1, s2⟩, _⟩ := bS.three
    have d0 := (bD.cell 0).trans (show (strC data)[0]? = some (.string ⟨data.toArray⟩) from rfl)
    dsimp only at s0 s1 s2
    clear b1
    go_wp2_with fail
    refine (hNw _ (HV.out.below hB)).mono ?_
    rintro e w3 ⟨y, ev, rfl, hN, b3⟩
    obtain ⟨ay, cy, rfl⟩ := nds_slice (hN.now (HV.out.below hB) b3)
    have hZ := HS.out ev
    generalize newF mi mb nx l ⟨sd, sn, si⟩ 1 data ev = Z at *
    obtain ⟨⟨z1, z2⟩, z3⟩ := Z
    dsimp only at hN
    have HZ := Lib.hid hZ
    have hRl := bR.lt
    have hsz := hB.size
    clear hNw hZ HS p0 p1 p2 p3 s0 s1 s2 d0
    have bR3 := bR.next b3
    have hB3 := hB.trans (b3.mono hB.size)
    obtain ⟨⟨r0, r1, r2, r3⟩, e0, e1, e2, e3⟩ := bR3.four
    obtain ⟨W', hW', hb4, hg4⟩ := bR3.put4 (.int .i64 mi) (.int .i64 mb) (.int .i64 z1) (.slice ay z2.length cy)
    have hbl := below_grown hB3 hg4 (Nat.le_refl _) (by omega)
    have hM := hN.up (w := w) (w' := W') hsz (Kept.grown hg4 hRl)
    go_wp2
    obtain ⟨⟨y0, y1, y2, y3⟩, _⟩ := hb4.four
    refine bodyPost_ret (v := .tuple #[.agg (fsC mi mb z1 (.slice ay z2.length cy)), .int .i64 z3]) (by simp [results, Tryz.f69, go_sem, y0, y1, y2, y3]) rfl ?_
    exact ⟨_, ev, by rw [HZ.out], by rw [HZ.out]; exact hM, hbl⟩
  · rw [hsl] at hRd
    replace HT := Lib.hid (fun ev => HT.out ev ⟨by decide, hsl⟩)
    clear HS hNw
    go_wp2_with fail
    refine (hRd _).mono ?_
    rintro e w1 ⟨vp, rfl, hop, b1⟩
    obtain ⟨ap, cp, rfl⟩ := own_slice hop
    have hfi := fieldV2 (absB p) true (.slice ap (namesB p).length cp)
    clear hop q0 hRd
    replace bF := bF.next b1
    replace bR := bR.next b1
    replace hB := hB.trans (b1.mono hB.size)
    obtain ⟨⟨p0, p1, p2, p3⟩, _⟩ := bF.four
    clear b1
    obtain ⟨⟨r0, r1, r2, r3⟩, e0, e1, e2, e3⟩ := bR.four
    obtain ⟨W', hW', hb4, hg4⟩ := bR.put4 (.int .i64 mi) (.int .i64 mb) (.int .i64 nx) (.slice a l.length ca)
    have hbl := below_grown hB hg4 (Nat.le_refl _) (by omega)
    go_wp2
    obtain ⟨⟨y0, y1, y2, y3⟩, _⟩ := hb4.four
    refine bodyPost_ret (v := .tuple #[.agg (fsC mi mb nx (.slice a l.length ca)), .int .i64 4]) (by simp [results, Tryz.f69, go_sem, y0, y1, y2, y3]) rfl ?_
    exact ⟨_, .slice none 0 0, by rw [HT.out], by rw [HT.out]; exact MadeFs.same _ _ _ _, hbl⟩
set_option maxHeartbeats 4000000 in
theorem sym1_any (mi mb nx : Int) (l : List Nd) (s : Sp) (p data : List UInt8) (v : Value) (BP BF BD : Nat) (w : World) (hP : Blk w BP 9 (strC p)) (hF : Blk w BF 28 (fsC mi mb nx v)) (hD : Blk w BD 9 (strC data)) (hv : Nds w v l) (hok : okB mi mb nx l = true) (hnx : nx < 1099511627776) (hn : s.name.length ≤ 255) (hp : p.length ≤ 20000) (hdl : data.length ≤ 20000) :
    Calls Tryz.prog 74 #[.agg (spC s), .pointer (some ⟨BP, 0, none⟩), .pointer (some ⟨BF, 0, none⟩), .pointer (some ⟨BD, 0, none⟩)] w fun e w' => ∃ y ev, e = .returned (.tuple #[.agg (fsC mi mb (shutF mi mb nx l s 3 data 1 p ev).1.1 y), .int .i64 (shutF mi mb nx l s 3 data 1 p ev).2]) ∧ MadeFs w v l w' y (shutF mi mb nx l s 3 data 1 p ev).1.2 ∧ Below w.heap.size w w' := by
  obtain ⟨a, ca, rfl⟩ := nds_slice hv
  obtain ⟨sd, sn, si⟩ := s
  have bS := (Blk.new w 81 (spC ⟨sd, sn, si⟩)).alloc (.cells (fsC 0 0 0 (.slice none 0 0)) 28)
  have bR := Blk.new (w.alloc (.cells (spC ⟨sd, sn, si⟩) 81)) 28 (fsC 0 0 0 (.slice none 0 0))
  have bF := (hF.alloc (.cells (spC ⟨sd, sn, si⟩) 81)).alloc (.cells (fsC 0 0 0 (.slice none 0 0)) 28)
  have bP := (hP.alloc (.cells (spC ⟨sd, sn, si⟩) 81)).alloc (.cells (fsC 0 0 0 (.slice none 0 0)) 28)
  have bD := (hD.alloc (.cells (spC ⟨sd, sn, si⟩) 81)).alloc (.cells (fsC 0 0 0 (.slice none 0 0)) 28)
  have hB := ((Below.refl w.heap.size w).alloc (Nat.le_refl _) (.cells (spC ⟨sd, sn, si⟩) 81)).alloc (by simp) (.cells (fsC 0 0 0 (.slice none 0 0)) 28)
  simp only [World.size_alloc] at bR
  have HV := Lib.hid hv
  have hNw := fun w' h => NewQ_any mi mb nx 3 l ⟨sd, sn, si⟩ data (.slice a l.length ca) w' h hok hnx hdl hn
  have HS := Lib.hid (fun ev => shut_new (mi := mi) (mb := mb) (nx := nx) (l := l) (s := ⟨sd, sn, si⟩) (k := 3) (data := data) (rf := 1) (p := p) (ev := ev))
  have HT := Lib.hid (fun ev => shut_shut (mi := mi) (mb := mb) (nx := nx) (l := l) (s := ⟨sd, sn, si⟩) (k := 3) (data := data) (rf := 1) (p := p) (ev := ev))
  clear hv hF hP hD
  have q0 := (bP.cell 0).trans (show (strC p)[0]? = some (.string ⟨p.toArray⟩) from rfl)
  go_enter Tryz.func74, Tryz.ntmps74
  have hRd := fun w' => Read_any p (by omega) w'
  cases hsl : slashB p
  · rw [hsl] at hRd
    replace HS := Lib.hid (fun ev => HS.out ev (fun h => by rw [hsl] at h; cases h.2))
    clear HT
    go_wp2_with fail
    refine (hRd _).mono ?_
    rintro e w1 ⟨vp, rfl, hop, b1⟩
    obtain ⟨ap, cp, rfl⟩ := own_slice hop
    have hfi := fieldV2 (absB p) false (.slice ap (namesB p).length cp)
    clear hop q0 hRd
    replace bF := bF.next b1
    replace bR := bR.next b1
    replace bS := bS.next b1
    replace bD := bD.next b1
    replace hB := hB.trans (b1.mono hB.size)
    obtain ⟨⟨p0, p1, p2, p3⟩, _⟩ := bF.four
    obtain ⟨⟨s0, s1, s2⟩, _⟩ := bS.three
    have d0 := (bD.cell 0).trans (show (strC data)[0]? = some (.string ⟨data.toArray⟩) from rfl)
    dsimp only at s0 s1 s2
    clear b1
    go_wp2_with fail
    refine (hNw _ (HV.out.below hB)).mono ?_
    rintro e w3 ⟨y, ev, rfl, hN, b3⟩
    obtain ⟨ay, cy, rfl⟩ := nds_slice (hN.now (HV.out.below hB) b3)
    have hZ := HS.out ev
    generalize newF mi mb nx l ⟨sd, sn, si⟩ 3 data ev = Z at *
    obtain ⟨⟨z1, z2⟩, z3⟩ := Z
    dsimp only at hN
    have HZ := Lib.hid hZ
    have hRl := bR.lt
    have hsz := hB.size
    clear hNw hZ HS p0 p1 p2 p3 s0 s1 s2 d0
    have bR3 := bR.next b3
    have hB3 := hB.trans (b3.mono hB.size)
    obtain ⟨⟨r0, r1, r2, r3⟩, e0, e1, e2, e3⟩ := bR3.four
    obtain ⟨W', hW', hb4, hg4⟩ := bR3.put4 (.int .i64 mi) (.int .i64 mb) (.int .i64 z1) (.slice ay z2.length cy)
    have hbl := below_grown hB3 hg4 (Nat.le_refl _) (by omega)
    have hM := hN.up (w := w) (w' := W') hsz (Kept.grown hg4 hRl)
    go_wp2
    obtain ⟨⟨y0, y1, y2, y3⟩, _⟩ := hb4.four
    refine bodyPost_ret (v := .tuple #[.agg (fsC mi mb z1 (.slice ay z2.length cy)), .int .i64 z3]) (by simp [results, Tryz.f74, go_sem, y0, y1, y2, y3]) rfl ?_
    exact ⟨_, ev, by rw [HZ.out], by rw [HZ.out]; exact hM, hbl⟩
  · rw [hsl] at hRd
    replace HT := Lib.hid (fun ev => HT.out ev ⟨by decide, hsl⟩)
    clear HS hNw
    go_wp2_with fail
    refine (hRd _).mono ?_
    rintro e w1 ⟨vp, rfl, hop, b1⟩
    obtain ⟨ap, cp, rfl⟩ := own_slice hop
    have hfi := fieldV2 (absB p) true (.slice ap (namesB p).length cp)
    clear hop q0 hRd
    replace bF := bF.next b1
    replace bR := bR.next b1
    replace hB := hB.trans (b1.mono hB.size)
    obtain ⟨⟨p0, p1, p2, p3⟩, _⟩ := bF.four
    clear b1
    obtain ⟨⟨r0, r1, r2, r3⟩, e0, e1, e2, e3⟩ := bR.four
    obtain ⟨W', hW', hb4, hg4⟩ := bR.put4 (.int .i64 mi) (.int .i64 mb) (.int .i64 nx) (.slice a l.length ca)
    have hbl := below_grown hB hg4 (Nat.le_refl _) (by omega)
    go_wp2
    obtain ⟨⟨y0, y1, y2, y3⟩, _⟩ := hb4.four
    refine bodyPost_ret (v := .tuple #[.agg (fsC mi mb nx (.slice a l.length ca)), .int .i64 1]) (by simp [results, Tryz.f74, go_sem, y0, y1, y2, y3]) rfl ?_
    exact ⟨_, .slice none 0 0, by rw [HT.out], by rw [HT.out]; exact MadeFs.same _ _ _ _, hbl⟩
set_option maxHeartbeats 8000000 in
set_option maxRecDepth 100000 in
theorem madeMkdir_any (mi mb nx : Int) (l : List Nd) (base p : List UInt8) (v : Value) (BF : Nat) (w : World) (hF : Blk w BF 28 (fsC mi mb nx v)) (hv : Nds w v l) (hok : okB mi mb nx l = true) (hnx : nx < 1099511627776) (hb : base.length ≤ 20000) (hp : p.length ≤ 20000) :
    Calls Tryz.prog 65 #[.agg (fsC mi mb nx v), .string ⟨base.toArray⟩, .string ⟨p.toArray⟩, .func (.func 66) #[] #[.pointer (some ⟨BF, 0, none⟩)]] w fun e w' => ∃ y ev, e = .returned (.tuple #[.agg (fsC mi mb (putF mi mb nx l base p 2 [] 0 ev).1.1 y), .int .i64 (putF mi mb nx l base p 2 [] 0 ev).2]) ∧ MadeFs w v l w' y (putF mi mb nx l base p 2 [] 0 ev).1.2 ∧ Below w.heap.size w w' := by
  obtain ⟨a, ca, rfl⟩ := nds_slice hv
  have bF := (Blk.new w 28 (fsC mi mb nx (.slice a l.length ca))).alloc (.cells (fsC 0 0 0 (.slice none 0 0)) 28)
  have bR := Blk.new (w.alloc (.cells (fsC mi mb nx (.slice a l.length ca)) 28)) 28 (fsC 0 0 0 (.slice none 0 0))
  have hB := ((Below.refl w.heap.size w).alloc (Nat.le_refl _) (.cells (fsC mi mb nx (.slice a l.length ca)) 28)).alloc (by simp) (.cells (fsC 0 0 0 (.slice none 0 0)) 28)
  simp only [World.size_alloc] at bR
  have HV := Lib.hid hv
  have hSk := Seek_any mi mb nx l base p false _ _ (hv.below hB) (ok_s hok) hb hp
  have h1 := fun ev => putF_err (mi := mi) (mb := mb) (nx := nx) (l := l) (base := base) (p := p) (k := 2) (data := []) (rf := 0) (ev := ev)
  have h2 := fun ev => putF_there (mi := mi) (mb := mb) (nx := nx) (l := l) (base := base) (p := p) (k := 2) (data := []) (rf := 0) (ev := ev)
  have h4 := fun ev => put_shut (mi := mi) (mb := mb) (nx := nx) (l := l) (base := base) (p := p) (k := 2) (data := []) (rf := 0) (ev := ev)
  have hCl := fun w' (hw : Below w.heap.size w w') => mk1_any mi mb nx l (seekP l base p false).1 p _ BF w' (hF.next hw) (hv.below hw) hok hnx (seek_short l base p false)
  generalize seekP l base p false = Q at *
  obtain ⟨⟨qa, qb, qc⟩, qe⟩ := Q
  dsimp only at h1 h2 h4 hSk hCl
  have H1 := Lib.hid h1
  have H2 := Lib.hid h2
  have H4 := Lib.hid h4
  clear h1 h2 h4 hv hF
  obtain ⟨⟨p0, p1, p2, p3⟩, _⟩ := bF.four
  go_enter Tryz.func65, Tryz.ntmps65
  go_wp2_with fail
  refine hSk.mono ?_
  rintro e w1 ⟨rfl, b1⟩
  clear hSk p0 p1 p2 p3
  have s1 := alloc_below w1 (.cells (spC ⟨qa, qb, qc⟩) 81)
  have bS := Blk.new w1 81 (spC ⟨qa, qb, qc⟩)
  have b2 := b1.trans (s1.mono b1.size)
  replace bF := bF.next b2
  replace bR := bR.next b2
  replace hB := hB.trans (b2.mono hB.size)
  clear b1 s1 b2
  obtain ⟨⟨p0, p1, p2, p3⟩, _⟩ := bF.four
  obtain ⟨⟨s0, s1, s2⟩, _⟩ := bS.three
  dsimp only at s0 s1 s2
  by_cases he : qe = 0
  · subst he
    by_cases hc : qc = 0
    · subst hc
      have HN := Lib.hid (fun ev => H4.out ev rfl rfl)
      clear H1 H2 H4
      go_wp2_with fail
      refine (hCl _ hB).mono ?_
      rintro e w3 ⟨y, ev, rfl, hN, b3⟩
      obtain ⟨ay, cy, rfl⟩ := nds_slice (hN.now (HV.out.below hB) b3)
      have HNN := HN.out ev
      generalize shutF mi mb nx l ⟨qa, qb, 0⟩ 2 [] 0 p ev = Z at *
      obtain ⟨⟨z1, z2⟩, z3⟩ := Z
      dsimp only at hN
      have hRl := bR.lt
      have hsz := hB.size
      clear hCl p0 p1 p2 p3 s0 s1 s2 HN
      have HNN2 := Lib.hid HNN
      clear HNN
      have bR3 := bR.next b3
      have hB3 := hB.trans (b3.mono hB.size)
      obtain ⟨⟨r0, r1, r2, r3⟩, e0, e1, e2, e3⟩ := bR3.four
      obtain ⟨W', hW', hb4, hg4⟩ := bR3.put4 (.int .i64 mi) (.int .i64 mb) (.int .i64 z1) (.slice ay z2.length cy)
      have hbl := below_grown hB3 hg4 (Nat.le_refl _) (by omega)
      have hM := hN.up (w := w) (w' := W') hsz (Kept.grown hg4 hRl)
      go_wp2
      obtain ⟨⟨y0, y1, y2, y3⟩, _⟩ := hb4.four
      refine bodyPost_ret (v := .tuple #[.agg (fsC mi mb z1 (.slice ay z2.length cy)), .int .i64 z3]) (by simp [results, Tryz.f65, go_sem, y0, y1, y2, y3]) rfl ?_
      exact ⟨_, ev, by rw [HNN2.out], by rw [HNN2.out]; exact hM, hbl⟩
    · have HN := Lib.hid (fun ev => H2.out ev rfl hc)
      clear H1 H2 H4 hCl
      obtain ⟨⟨r0, r1, r2, r3⟩, e0, e1, e2, e3⟩ := bR.four
      obtain ⟨W', hW', hb4, hg4⟩ := bR.put4 (.int .i64 mi) (.int .i64 mb) (.int .i64 nx) (.slice a l.length ca)
      have hbl := below_grown hB hg4 (Nat.le_refl _) (by omega)
      go_wp2
      obtain ⟨⟨y0, y1, y2, y3⟩, _⟩ := hb4.four
      refine bodyPost_ret (v := .tuple #[.agg (fsC mi mb nx (.slice a l.length ca)), .int .i64 2]) (by simp [results, Tryz.f65, go_sem, y0, y1, y2, y3]) rfl ?_
      exact ⟨_, .slice none 0 0, by rw [HN.out], by rw [HN.out]; exact MadeFs.same _ _ _ _, hbl⟩
  · have HN := Lib.hid (fun ev => H1.out ev he)
    clear H1 H2 H4 hCl
    obtain ⟨⟨r0, r1, r2, r3⟩, e0, e1, e2, e3⟩ := bR.four
    obtain ⟨W', hW', hb4, hg4⟩ := bR.put4 (.int .i64 mi) (.int .i64 mb) (.int .i64 nx) (.slice a l.length ca)
    have hbl := below_grown hB hg4 (Nat.le_refl _) (by omega)
    go_wp2
    obtain ⟨⟨y0, y1, y2, y3⟩, _⟩ := hb4.four
    refine bodyPost_ret (v := .tuple #[.agg (fsC mi mb nx (.slice a l.length ca)), .int .i64 qe]) (by simp [results, Tryz.f65, go_sem, y0, y1, y2, y3]) rfl ?_
    exact ⟨_, .slice none 0 0, by rw [HN.out], by rw [HN.out]; exact MadeFs.same _ _ _ _, hbl⟩
set_option maxHeartbeats 8000000 in
set_option maxRecDepth 100000 in
theorem madeCreate_any (mi mb nx : Int) (l : List Nd) (base p data : List UInt8) (v : Value) (BP BF BD : Nat) (w : World) (hP : Blk w BP 9 (strC p)) (hF : Blk w BF 28 (fsC mi mb nx v)) (hD : Blk w BD 9 (strC data)) (hv : Nds w v l) (hok : okB mi mb nx l = true) (hnx : nx < 1099511627776) (hb : base.length ≤ 20000) (hp : p.length ≤ 20000) (hdl : data.length ≤ 20000) :
    Calls Tryz.prog 65 #[.agg (fsC mi mb nx v), .string ⟨base.toArray⟩, .string ⟨p.toArray⟩, .func (.func 69) #[] #[.pointer (some ⟨BP, 0, none⟩), .pointer (some ⟨BF, 0, none⟩), .pointer (some ⟨BD, 0, none⟩)]] w fun e w' => ∃ y ev, e = .returned (.tuple #[.agg (fsC mi mb (putF mi mb nx l base p 1 data 4 ev).1.1 y), .int .i64 (putF mi mb nx l base p 1 data 4 ev).2]) ∧ MadeFs w v l w' y (putF mi mb nx l base p 1 data 4 ev).1.2 ∧ Below w.heap.size w w' := by
  obtain ⟨a, ca, rfl⟩ := nds_slice hv
  have bF := (Blk.new w 28 (fsC mi mb nx (.slice a l.length ca))).alloc (.cells (fsC 0 0 0 (.slice none 0 0)) 28)
  have bR := Blk.new (w.alloc (.cells (fsC mi mb nx (.slice a l.length ca)) 28)) 28 (fsC 0 0 0 (.slice none 0 0))
  have hB := ((Below.refl w.heap.size w).alloc (Nat.le_refl _) (.cells (fsC mi mb nx (.slice a l.length ca)) 28)).alloc (by simp) (.cells (fsC 0 0 0 (.slice none 0 0)) 28)
  simp only [World.size_alloc] at bR
  have HV := Lib.hid hv
  have hSk := Seek_any mi mb nx l base p false _ _ (hv.below hB) (ok_s hok) hb hp
  have h1 := fun ev => putF_err (mi := mi) (mb := mb) (nx := nx) (l := l) (base := base) (p := p) (k := 1) (data := data) (rf := 4) (ev := ev)
  have h2 := fun ev => putF_there (mi := mi) (mb := mb) (nx := nx) (l := l) (base := base) (p := p) (k := 1) (data := data) (rf := 4) (ev := ev)
  have h4 := fun ev => put_shut (mi := mi) (mb := mb) (nx := nx) (l := l) (base := base) (p := p) (k := 1) (data := data) (rf := 4) (ev := ev)
  have hCl := fun w' (hw : Below w.heap.size w w') => crt1_any mi mb nx l (seekP l base p false).1 p data _ BP BF BD w' (hP.next hw) (hF.next hw) (hD.next hw) (hv.below hw) hok hnx (seek_short l base p false) hp hdl
  generalize seekP l base p false = Q at *
  obtain ⟨⟨qa, qb, qc⟩, qe⟩ := Q
  dsimp only at h1 h2 h4 hSk hCl
  have H1 := Lib.hid h1
  have H2 := Lib.hid h2
  have H4 := Lib.hid h4
  clear h1 h2 h4 hv hF hP hD
  obtain ⟨⟨p0, p1, p2, p3⟩, _⟩ := bF.four
  go_enter Tryz.func65, Tryz.ntmps65
  go_wp2_with fail
  refine hSk.mono ?_
  rintro e w1 ⟨rfl, b1⟩
  clear hSk p0 p1 p2 p3
  have s1 := alloc_below w1 (.cells (spC ⟨qa, qb, qc⟩) 81)
  have bS := Blk.new w1 81 (spC ⟨qa, qb, qc⟩)
  have b2 := b1.trans (s1.mono b1.size)
  replace bF := bF.next b2
  replace bR := bR.next b2
  replace hB := hB.trans (b2.mono hB.size)
  clear b1 s1 b2
  obtain ⟨⟨p0, p1, p2, p3⟩, _⟩ := bF.four
  obtain ⟨⟨s0, s1, s2⟩, _⟩ := bS.three
  dsimp only at s0 s1 s2
  by_cases he : qe = 0
  · subst he
    by_cases hc : qc = 0
    · subst hc
      have HN := Lib.hid (fun ev => H4.out ev rfl rfl)
      clear H1 H2 H4
      go_wp2_with fail
      refine (hCl _ hB).mono ?_
      rintro e w3 ⟨y, ev, rfl, hN, b3⟩
      obtain ⟨ay, cy, rfl⟩ := nds_slice (hN.now (HV.out.below hB) b3)
      have HNN := HN.out ev
      generalize shutF mi mb nx l ⟨qa, qb, 0⟩ 1 data 4 p ev = Z at *
      obtain ⟨⟨z1, z2⟩, z3⟩ := Z
      dsimp only at hN
      have hRl := bR.lt
      have hsz := hB.size
      clear hCl p0 p1 p2 p3 s0 s1 s2 HN
      have HNN2 := Lib.hid HNN
      clear HNN
      have bR3 := bR.next b3
      have hB3 := hB.trans (b3.mono hB.size)
      obtain ⟨⟨r0, r1, r2, r3⟩, e0, e1, e2, e3⟩ := bR3.four
      obtain ⟨W', hW', hb4, hg4⟩ := bR3.put4 (.int .i64 mi) (.int .i64 mb) (.int .i64 z1) (.slice ay z2.length cy)
      have hbl := below_grown hB3 hg4 (Nat.le_refl _) (by omega)
      have hM := hN.up (w := w) (w' := W') hsz (Kept.grown hg4 hRl)
      go_wp2
      obtain ⟨⟨y0, y1, y2, y3⟩, _⟩ := hb4.four
      refine bodyPost_ret (v := .tuple #[.agg (fsC mi mb z1 (.slice ay z2.length cy)), .int .i64 z3]) (by simp [results, Tryz.f65, go_sem, y0, y1, y2, y3]) rfl ?_
      exact ⟨_, ev, by rw [HNN2.out], by rw [HNN2.out]; exact hM, hbl⟩
    · have HN := Lib.hid (fun ev => H2.out ev rfl hc)
      clear H1 H2 H4 hCl
      obtain ⟨⟨r0, r1, r2, r3⟩, e0, e1, e2, e3⟩ := bR.four
      obtain ⟨W', hW', hb4, hg4⟩ := bR.put4 (.int .i64 mi) (.int .i64 mb) (.int .i64 nx) (.slice a l.length ca)
      have hbl := below_grown hB hg4 (Nat.le_refl _) (by omega)
      go_wp2
      obtain ⟨⟨y0, y1, y2, y3⟩, _⟩ := hb4.four
      refine bodyPost_ret (v := .tuple #[.agg (fsC mi mb nx (.slice a l.length ca)), .int .i64 2]) (by simp [results, Tryz.f65, go_sem, y0, y1, y2, y3]) rfl ?_
      exact ⟨_, .slice none 0 0, by rw [HN.out], by rw [HN.out]; exact MadeFs.same _ _ _ _, hbl⟩
  · have HN := Lib.hid (fun ev => H1.out ev he)
    clear H1 H2 H4 hCl
    obtain ⟨⟨r0, r1, r2, r3⟩, e0, e1, e2, e3⟩ := bR.four
    obtain ⟨W', hW', hb4, hg4⟩ := bR.put4 (.int .i64 mi) (.int .i64 mb) (.int .i64 nx) (.slice a l.length ca)
    have hbl := below_grown hB hg4 (Nat.le_refl _) (by omega)
    go_wp2
    obtain ⟨⟨y0, y1, y2, y3⟩, _⟩ := hb4.four
    refine bodyPost_ret (v := .tuple #[.agg (fsC mi mb nx (.slice a l.length ca)), .int .i64 qe]) (by simp [results, Tryz.f65, go_sem, y0, y1, y2, y3]) rfl ?_
    exact ⟨_, .slice none 0 0, by rw [HN.out], by rw [HN.out]; exact MadeFs.same _ _ _ _, hbl⟩
set_option maxHeartbeats 8000000 in
set_option maxRecDepth 100000 in
theorem madeSymlink_any (mi mb nx : Int) (l : List Nd) (base p data : List UInt8) (v : Value) (BP BF BD : Nat) (w : World) (hP : Blk w BP 9 (strC p)) (hF : Blk w BF 28 (fsC mi mb nx v)) (hD : Blk w BD 9 (strC data)) (hv : Nds w v l) (hok : okB mi mb nx l = true) (hnx : nx < 1099511627776) (hb : base.length ≤ 20000) (hp : p.length ≤ 20000) (hdl : data.length ≤ 20000) :
    Calls Tryz.prog 65 #[.agg (fsC mi mb nx v), .string ⟨base.toArray⟩, .string ⟨p.toArray⟩, .func (.func 74) #[] #[.pointer (some ⟨BP, 0, none⟩), .pointer (some ⟨BF, 0, none⟩), .pointer (some ⟨BD, 0, none⟩)]] w fun e w' => ∃ y ev, e = .returned (.tuple #[.agg (fsC mi mb (putF mi mb nx l base p 3 data 1 ev).1.1 y), .int .i64 (putF mi mb nx l base p 3 data 1 ev).2]) ∧ MadeFs w v l w' y (putF mi mb nx l base p 3 data 1 ev).1.2 ∧ Below w.heap.size w w' := by
  obtain ⟨a, ca, rfl⟩ := nds_slice hv
  have bF := (Blk.new w 28 (fsC mi mb nx (.slice a l.length ca))).alloc (.cells (fsC 0 0 0 (.slice none 0 0)) 28)
  have bR := Blk.new (w.alloc (.cells (fsC mi mb nx (.slice a l.length ca)) 28)) 28 (fsC 0 0 0 (.slice none 0 0))
  have hB := ((Below.refl w.heap.size w).alloc (Nat.le_refl _) (.cells (fsC mi mb nx (.slice a l.length ca)) 28)).alloc (by simp) (.cells (fsC 0 0 0 (.slice none 0 0)) 28)
  simp only [World.size_alloc] at bR
  have HV := Lib.hid hv
  have hSk := Seek_any mi mb nx l base p false _ _ (hv.below hB) (ok_s hok) hb hp
  have h1 := fun ev => putF_err (mi := mi) (mb := mb) (nx := nx) (l := l) (base := base) (p := p) (k := 3) (data := data) (rf := 1) (ev := ev)
  have h2 := fun ev => putF_there (mi := mi) (mb := mb) (nx := nx) (l := l) (base := base) (p := p) (k := 3) (data := data) (rf := 1) (ev := ev)
  have h4 := fun ev => put_shut (mi := mi) (mb := mb) (nx := nx) (l := l) (base := base) (p := p) (k := 3) (data := data) (rf := 1) (ev := ev)
  have hCl := fun w' (hw : Below w.heap.size w w') => sym1_any mi mb nx l (seekP l base p false).1 p data _ BP BF BD w' (hP.next hw) (hF.next hw) (hD.next hw) (hv.below hw) hok hnx (seek_short l base p false) hp hdl
  generalize seekP l base p false = Q at *
  obtain ⟨⟨qa, qb, qc⟩, qe⟩ := Q
  dsimp only at h1 h2 h4 hSk hCl
  have H1 := Lib.hid h1
  have H2 := Lib.hid h2
  have H4 := Lib.hid h4
  clear h1 h2 h4 hv hF hP hD
  obtain ⟨⟨p0, p1, p2, p3⟩, _⟩ := bF.four
  go_enter Tryz.func65, Tryz.ntmps65
  go_wp2_with fail
  refine hSk.mono ?_
  rintro e w1 ⟨rfl, b1⟩
  clear hSk p0 p1 p2 p3
  have s1 := alloc_below w1 (.cells (spC ⟨qa, qb, qc⟩) 81)
  have bS := Blk.new w1 81 (spC ⟨qa, qb, qc⟩)
  have b2 := b1.trans (s1.mono b1.size)
  replace bF := bF.next b2
  replace bR := bR.next b2
  replace hB := hB.trans (b2.mono hB.size)
  clear b1 s1 b2
  obtain ⟨⟨p0, p1, p2, p3⟩, _⟩ := bF.four
  obtain ⟨⟨s0, s1, s2⟩, _⟩ := bS.three
  dsimp only at s0 s1 s2
  by_cases he : qe = 0
  · subst he
    by_cases hc : qc = 0
    · subst hc
      have HN := Lib.hid (fun ev => H4.out ev rfl rfl)
      clear H1 H2 H4
      go_wp2_with fail
      refine (hCl _ hB).mono ?_
      rintro e w3 ⟨y, ev, rfl, hN, b3⟩
      obtain ⟨ay, cy, rfl⟩ := nds_slice (hN.now (HV.out.below hB) b3)
      have HNN := HN.out ev
      generalize shutF mi mb nx l ⟨qa, qb, 0⟩ 3 data 1 p ev = Z at *
      obtain ⟨⟨z1, z2⟩, z3⟩ := Z
      dsimp only at hN
      have hRl := bR.lt
      have hsz := hB.size
      clear hCl p0 p1 p2 p3 s0 s1 s2 HN
      have HNN2 := Lib.hid HNN
      clear HNN
      have bR3 := bR.next b3
      have hB3 := hB.trans (b3.mono hB.size)
      obtain ⟨⟨r0, r1, r2, r3⟩, e0, e1, e2, e3⟩ := bR3.four
      obtain ⟨W', hW', hb4, hg4⟩ := bR3.put4 (.int .i64 mi) (.int .i64 mb) (.int .i64 z1) (.slice ay z2.length cy)
      have hbl := below_grown hB3 hg4 (Nat.le_refl _) (by omega)
      have hM := hN.up (w := w) (w' := W') hsz (Kept.grown hg4 hRl)
      go_wp2
      obtain ⟨⟨y0, y1, y2, y3⟩, _⟩ := hb4.four
      refine bodyPost_ret (v := .tuple #[.agg (fsC mi mb z1 (.slice ay z2.length cy)), .int .i64 z3]) (by simp [results, Tryz.f65, go_sem, y0, y1, y2, y3]) rfl ?_
      exact ⟨_, ev, by rw [HNN2.out], by rw [HNN2.out]; exact hM, hbl⟩
    · have HN := Lib.hid (fun ev => H2.out ev rfl hc)
      clear H1 H2 H4 hCl
      obtain ⟨⟨r0, r1, r2, r3⟩, e0, e1, e2, e3⟩ := bR.four
      obtain ⟨W', hW', hb4, hg4⟩ := bR.put4 (.int .i64 mi) (.int .i64 mb) (.int .i64 nx) (.slice a l.length ca)
      have hbl := below_grown hB hg4 (Nat.le_refl _) (by omega)
      go_wp2
      obtain ⟨⟨y0, y1, y2, y3⟩, _⟩ := hb4.four
      refine bodyPost_ret (v := .tuple #[.agg (fsC mi mb nx (.slice a l.length ca)), .int .i64 2]) (by simp [results, Tryz.f65, go_sem, y0, y1, y2, y3]) rfl ?_
      exact ⟨_, .slice none 0 0, by rw [HN.out], by rw [HN.out]; exact MadeFs.same _ _ _ _, hbl⟩
  · have HN := Lib.hid (fun ev => H1.out ev he)
    clear H1 H2 H4 hCl
    obtain ⟨⟨r0, r1, r2, r3⟩, e0, e1, e2, e3⟩ := bR.four
    obtain ⟨W', hW', hb4, hg4⟩ := bR.put4 (.int .i64 mi) (.int .i64 mb) (.int .i64 nx) (.slice a l.length ca)
    have hbl := below_grown hB hg4 (Nat.le_refl _) (by omega)
    go_wp2
    obtain ⟨⟨y0, y1, y2, y3⟩, _⟩ := hb4.four
    refine bodyPost_ret (v := .tuple #[.agg (fsC mi mb nx (.slice a l.length ca)), .int .i64 qe]) (by simp [results, Tryz.f65, go_sem, y0, y1, y2, y3]) rfl ?_
    exact ⟨_, .slice none 0 0, by rw [HN.out], by rw [HN.out]; exact MadeFs.same _ _ _ _, hbl⟩
set_option maxHeartbeats 4000000 in
theorem Mkdir_any (mi mb nx : Int) (l : List Nd) (base p : List UInt8) (v : Value) (w : World) (hv : Nds w v l) (hok : okB mi mb nx l = true) (hnx : nx < 1099511627776) (hb : base.length ≤ 20000) (hp : p.length ≤ 20000) :
    Calls Tryz.prog 36 #[.agg (fsC mi mb nx v), .string ⟨base.toArray⟩, .string ⟨p.toArray⟩] w fun e w' => ∃ y ev, e = .returned (.tuple #[.agg (fsC mi mb (putF mi mb nx l base p 2 [] 0 ev).1.1 y), .int .i64 (putF mi mb nx l base p 2 [] 0 ev).2]) ∧ MadeFs w v l w' y (putF mi mb nx l base p 2 [] 0 ev).1.2 ∧ Below w.heap.size w w' := by
  obtain ⟨a, ca, rfl⟩ := nds_slice hv
  have bF := (Blk.new w 28 (fsC mi mb nx (.slice a l.length ca))).alloc (.cells (fsC 0 0 0 (.slice none 0 0)) 28)
  have bR := Blk.new (w.alloc (.cells (fsC mi mb nx (.slice a l.length ca)) 28)) 28 (fsC 0 0 0 (.slice none 0 0))
  have hB := ((Below.refl w.heap.size w).alloc (Nat.le_refl _) (.cells (fsC mi mb nx (.slice a l.length ca)) 28)).alloc (by simp) (.cells (fsC 0 0 0 (.slice none 0 0)) 28)
  simp only [World.size_alloc] at bR
  have hNV := hv.below hB
  have hPt := madeMkdir_any mi mb nx l base p _ _ _ bF hNV hok hnx hb hp
  clear hv
  obtain ⟨⟨p0, p1, p2, p3⟩, _⟩ := bF.four
  go_enter Tryz.func36, Tryz.ntmps36
  go_wp2_with fail
  refine hPt.mono ?_
  rintro e w3 ⟨y, ev, rfl, hN, b3⟩
  obtain ⟨ay, cy, rfl⟩ := nds_slice (hN.now hNV b3)
  generalize hZ : putF mi mb nx l base p 2 [] 0 ev = Z at *
  obtain ⟨⟨z1, z2⟩, z3⟩ := Z
  dsimp only at hN
  have HZ := Lib.hid hZ
  have hRl := bR.lt
  have hsz := hB.size
  clear hPt hZ p0 p1 p2 p3
  have bR3 := bR.next b3
  have hB3 := hB.trans (b3.mono hB.size)
  obtain ⟨⟨r0, r1, r2, r3⟩, e0, e1, e2, e3⟩ := bR3.four
  obtain ⟨W', hW', hb4, hg4⟩ := bR3.put4 (.int .i64 mi) (.int .i64 mb) (.int .i64 z1) (.slice ay z2.length cy)
  have hbl := below_grown hB3 hg4 (Nat.le_refl _) (by omega)
  have hM := hN.up (w := w) (w' := W') hsz (Kept.grown hg4 hRl)
  go_wp2
  obtain ⟨⟨y0, y1, y2, y3⟩, _⟩ := hb4.four
  refine bodyPost_ret (v := .tuple #[.agg (fsC mi mb z1 (.slice ay z2.length cy)), .int .i64 z3]) (by simp [results, Tryz.f36, go_sem, y0, y1, y2, y3]) rfl ?_
  exact ⟨_, ev, by rw [HZ.out], by rw [HZ.out]; exact hM, hbl⟩
set_option maxHeartbeats 4000000 in
theorem Create_any (mi mb nx : Int) (l : List Nd) (base p data : List UInt8) (v : Value) (w : World) (hv : Nds w v l) (hok : okB mi mb nx l = true) (hnx : nx < 1099511627776) (hb : base.length ≤ 20000) (hp : p.length ≤ 20000) (hdl : data.length ≤ 20000) :
    Calls Tryz.prog 38 #[.agg (fsC mi mb nx v), .string ⟨base.toArray⟩, .string ⟨p.toArray⟩, .string ⟨data.toArray⟩] w fun e w' => ∃ y ev, e = .returned (.tuple #[.agg (fsC mi mb (putF mi mb nx l base p 1 data 4 ev).1.1 y), .int .i64 (putF mi mb nx l base p 1 data 4 ev).2]) ∧ MadeFs w v l w' y (putF mi mb nx l base p 1 data 4 ev).1.2 ∧ Below w.heap.size w w' := by
  obtain ⟨a, ca, rfl⟩ := nds_slice hv
  have bF := (((Blk.new w 28 (fsC mi mb nx (.slice a l.length ca))).alloc (.cells (strC p) 9)).alloc (.cells (strC data) 9)).alloc (.cells (fsC 0 0 0 (.slice none 0 0)) 28)
  have bP := ((Blk.new (w.alloc (.cells (fsC mi mb nx (.slice a l.length ca)) 28)) 9 (strC p)).alloc (.cells (strC data) 9)).alloc (.cells (fsC 0 0 0 (.slice none 0 0)) 28)
  have bD := (Blk.new ((w.alloc (.cells (fsC mi mb nx (.slice a l.length ca)) 28)).alloc (.cells (strC p) 9)) 9 (strC data)).alloc (.cells (fsC 0 0 0 (.slice none 0 0)) 28)
  have bR := Blk.new (((w.alloc (.cells (fsC mi mb nx (.slice a l.length ca)) 28)).alloc (.cells (strC p) 9)).alloc (.cells (strC data) 9)) 28 (fsC 0 0 0 (.slice none 0 0))
  have hB : Below w.heap.size w ((((w.alloc (.cells (fsC mi mb nx (.slice a l.length ca)) 28)).alloc (.cells (strC p) 9)).alloc (.cells (strC data) 9)).alloc (.cells (fsC 0 0 0 (.slice none 0 0)) 28)) := ((((Below.refl _ w).alloc (Nat.le_refl _) _).alloc (by simp) _).alloc (by simp; omega) _).alloc (by simp; omega) _
  simp only [World.size_alloc] at bP bD bR
  have hNV := hv.below hB
  have hPt := madeCreate_any mi mb nx l base p data _ _ _ _ _ bP bF bD hNV hok hnx hb hp hdl
  have q0 := (bP.cell 0).trans (show (strC p)[0]? = some (.string ⟨p.toArray⟩) from rfl)
  clear hv
  obtain ⟨⟨p0, p1, p2, p3⟩, _⟩ := bF.four
  go_enter Tryz.func38, Tryz.ntmps38
  go_wp2_with fail
  refine hPt.mono ?_
  rintro e w3 ⟨y, ev, rfl, hN, b3⟩
  obtain ⟨ay, cy, rfl⟩ := nds_slice (hN.now hNV b3)
  generalize hZ : putF mi mb nx l base p 1 data 4 ev = Z at *
  obtain ⟨⟨z1, z2⟩, z3⟩ := Z
  dsimp only at hN
  have HZ := Lib.hid hZ
  have hRl := bR.lt
  have hsz := hB.size
  clear hPt hZ p0 p1 p2 p3 q0
  have bR3 := bR.next b3
  have hB3 := hB.trans (b3.mono hB.size)
  obtain ⟨⟨r0, r1, r2, r3⟩, e0, e1, e2, e3⟩ := bR3.four
  obtain ⟨W', hW', hb4, hg4⟩ := bR3.put4 (.int .i64 mi) (.int .i64 mb) (.int .i64 z1) (.slice ay z2.length cy)
  have hbl := below_grown hB3 hg4 (Nat.le_refl _) (by omega)
  have hM := hN.up (w := w) (w' := W') hsz (Kept.grown hg4 hRl)
  go_wp2
  obtain ⟨⟨y0, y1, y2, y3⟩, _⟩ := hb4.four
  refine bodyPost_ret (v := .tuple #[.agg (fsC mi mb z1 (.slice ay z2.length cy)), .int .i64 z3]) (by simp [results, Tryz.f38, go_sem, y0, y1, y2, y3]) rfl ?_
  exact ⟨_, ev, by rw [HZ.out], by rw [HZ.out]; exact hM, hbl⟩
/-- Why no link may have the target; 0, if one may. -/
def symE (t : List UInt8) : Int := if t = [] then 1 else if 4095 < t.length then 7 else if t.contains 0 = true then 9 else 0
theorem index_zero (t : List UInt8) : decide (0 ≤ Lib.indexByte t 0) = t.contains 0 := by
  rw [Bool.eq_iff_iff, decide_eq_true_eq, List.contains_iff_mem]
  constructor
  · intro h
    exact List.mem_of_getElem? (Lib.indexByte_some (l := t) (c := 0) (o := (Lib.indexByte t 0).toNat) (by omega)).1
  · intro h
    obtain ⟨k, hk⟩ := List.mem_iff_getElem?.1 h
    rcases Int.lt_or_le (Lib.indexByte t 0) 0 with h2 | h2
    · have hge := Lib.indexByte_ge t 0
      exact absurd hk (Lib.indexByte_none (by omega) k)
    · exact h2
set_option maxHeartbeats 2000000 in
theorem targetErr_any (t : List UInt8) (w : World) (ht : t.length ≤ 20000) :
    Calls Tryz.prog 73 #[.string ⟨t.toArray⟩] w fun e w' => e = .returned (.int .i64 (symE t)) ∧ Below w.heap.size w w' := by
  have hB := Below.refl w.heap.size w
  have hC := Tryz.strings_Contains_one ⟨t.toArray⟩ 0 w
  rw [show (ByteArray.mk t.toArray).data.toList = t from rfl, index_zero] at hC
  by_cases h0 : t = []
  · subst h0
    have HN : Hid (symE [] = 1) := Lib.hid rfl
    clear hC
    go_enter Tryz.func73, Tryz.ntmps73
    go_wp2
    go_ret
    exact ⟨by rw [HN.out]; rfl, hB⟩
  have h0b : (t == []) = false := by simpa using h0
  by_cases hlo : 4095 < t.length
  · have HN : Hid (symE t = 7) := Lib.hid (by unfold symE; rw [if_neg h0, if_pos hlo])
    clear hC h0
    go_enter Tryz.func73, Tryz.ntmps73
    go_wp2
    go_ret
    exact ⟨by rw [HN.out]; rfl, hB⟩
  cases hz : t.contains 0
  · have HN : Hid (symE t = 0) := Lib.hid (by unfold symE; rw [if_neg h0, if_neg hlo, if_neg (by rw [hz]; decide)])
    rw [hz] at hC
    clear h0 hz
    go_enter Tryz.func73, Tryz.ntmps73
    go_wp2_with fail
    refine hC.mono ?_
    rintro e w1 ⟨rfl, rfl⟩
    go_wp2
    go_ret
    exact ⟨by rw [HN.out]; rfl, hB⟩
  · have HN : Hid (symE t = 9) := Lib.hid (by unfold symE; rw [if_neg h0, if_neg hlo, if_pos hz])
    rw [hz] at hC
    clear h0 hz
    go_enter Tryz.func73, Tryz.ntmps73
    go_wp2_with fail
    refine hC.mono ?_
    rintro e w1 ⟨rfl, rfl⟩
    go_wp2
    go_ret
    exact ⟨by rw [HN.out]; rfl, hB⟩
theorem sym_err {mi mb nx : Int} {l : List Nd} {base t p : List UInt8} {ev : Value} (h : symE t ≠ 0) : symF mi mb nx l base t p ev = ((nx, l), symE t) := by
  unfold symF
  unfold symE at h ⊢
  split
  · rfl
  split
  · rfl
  split
  · rfl
  · rename_i h1 h2 h3
    rw [if_neg h1, if_neg h2, if_neg h3] at h
    exact absurd rfl h
theorem sym_putN {mi mb nx : Int} {l : List Nd} {base t p : List UInt8} {ev : Value} (h : symE t = 0) : symF mi mb nx l base t p ev = putF mi mb nx l base p 3 t 1 ev := by
  unfold symE at h
  unfold symF
  split at h
  · cases h
  split at h
  · cases h
  split at h
  · cases h
  · rename_i h1 h2 h3
    rw [if_neg h1, if_neg h2, if_neg h3]
set_option maxHeartbeats 4000000 in
theorem Symlink_any (mi mb nx : Int) (l : List Nd) (base t p : List UInt8) (v : Value) (w : World) (hv : Nds w v l) (hok : okB mi mb nx l = true) (hnx : nx < 1099511627776) (hb : base.length ≤ 20000) (hp : p.length ≤ 20000) (ht : t.length ≤ 20000) :
    Calls Tryz.prog 41 #[.agg (fsC mi mb nx v), .string ⟨base.toArray⟩, .string ⟨t.toArray⟩, .string ⟨p.toArray⟩] w fun e w' => ∃ y ev, e = .returned (.tuple #[.agg (fsC mi mb (symF mi mb nx l base t p ev).1.1 y), .int .i64 (symF mi mb nx l base t p ev).2]) ∧ MadeFs w v l w' y (symF mi mb nx l base t p ev).1.2 ∧ Below w.heap.size w w' := by
  obtain ⟨a, ca, rfl⟩ := nds_slice hv
  have bF := (((Blk.new w 28 (fsC mi mb nx (.slice a l.length ca))).alloc (.cells (strC t) 9)).alloc (.cells (strC p) 9)).alloc (.cells (fsC 0 0 0 (.slice none 0 0)) 28)
  have bD := ((Blk.new (w.alloc (.cells (fsC mi mb nx (.slice a l.length ca)) 28)) 9 (strC t)).alloc (.cells (strC p) 9)).alloc (.cells (fsC 0 0 0 (.slice none 0 0)) 28)
  have bP := (Blk.new ((w.alloc (.cells (fsC mi mb nx (.slice a l.length ca)) 28)).alloc (.cells (strC t) 9)) 9 (strC p)).alloc (.cells (fsC 0 0 0 (.slice none 0 0)) 28)
  have bR := Blk.new (((w.alloc (.cells (fsC mi mb nx (.slice a l.length ca)) 28)).alloc (.cells (strC t) 9)).alloc (.cells (strC p) 9)) 28 (fsC 0 0 0 (.slice none 0 0))
  have hB : Below w.heap.size w ((((w.alloc (.cells (fsC mi mb nx (.slice a l.length ca)) 28)).alloc (.cells (strC t) 9)).alloc (.cells (strC p) 9)).alloc (.cells (fsC 0 0 0 (.slice none 0 0)) 28)) := ((((Below.refl _ w).alloc (Nat.le_refl _) _).alloc (by simp) _).alloc (by simp; omega) _).alloc (by simp; omega) _
  simp only [World.size_alloc] at bD bP bR
  have hNV := hv.below hB
  have hTE := fun w' => targetErr_any t w' ht
  have HER := Lib.hid (fun ev => sym_err (mi := mi) (mb := mb) (nx := nx) (l := l) (base := base) (t := t) (p := p) (ev := ev))
  have HPU := Lib.hid (fun ev => sym_putN (mi := mi) (mb := mb) (nx := nx) (l := l) (base := base) (t := t) (p := p) (ev := ev))
  have hPt := fun w' (hw : Below w.heap.size w w') hF hP hD => madeSymlink_any mi mb nx l base p t _ (w.heap.size + 1 + 1) w.heap.size (w.heap.size + 1) w' hP hF hD (hv.below hw) hok hnx hb hp ht
  have HV := Lib.hid hv
  generalize symE t = te at *
  clear hv hNV
  obtain ⟨⟨p0, p1, p2, p3⟩, _⟩ := bF.four
  have q0 := (bD.cell 0).trans (show (strC t)[0]? = some (.string ⟨t.toArray⟩) from rfl)
  go_enter Tryz.func41, Tryz.ntmps41
  go_wp2_with fail
  refine (hTE _).mono ?_
  rintro e w1 ⟨rfl, b1⟩
  replace bF := bF.next b1
  replace bR := bR.next b1
  replace bP := bP.next b1
  replace bD := bD.next b1
  replace hB := hB.trans (b1.mono hB.size)
  clear b1 hTE p0 p1 p2 p3 q0
  obtain ⟨⟨p0, p1, p2, p3⟩, _⟩ := bF.four
  have q0 := (bP.cell 0).trans (show (strC p)[0]? = some (.string ⟨p.toArray⟩) from rfl)
  by_cases he : te = 0
  · subst he
    have HN := Lib.hid (fun ev => HPU.out ev rfl)
    clear HER HPU
    go_wp2_with fail
    refine (hPt _ hB bF bP bD).mono ?_
    rintro e w3 ⟨y, ev, rfl, hN, b3⟩
    obtain ⟨ay, cy, rfl⟩ := nds_slice (hN.now (HV.out.below hB) b3)
    have HNN := HN.out ev
    generalize putF mi mb nx l base p 3 t 1 ev = Z at *
    obtain ⟨⟨z1, z2⟩, z3⟩ := Z
    dsimp only at hN
    have HZ := Lib.hid HNN
    have hRl := bR.lt
    have hsz := hB.size
    clear hPt HNN HN p0 p1 p2 p3 q0
    have bR3 := bR.next b3
    have hB3 := hB.trans (b3.mono hB.size)
    obtain ⟨⟨r0, r1, r2, r3⟩, e0, e1, e2, e3⟩ := bR3.four
    obtain ⟨W', hW', hb4, hg4⟩ := bR3.put4 (.int .i64 mi) (.int .i64 mb) (.int .i64 z1) (.slice ay z2.length cy)
    have hbl := below_grown hB3 hg4 (Nat.le_refl _) (by omega)
    have hM := hN.up (w := w) (w' := W') hsz (Kept.grown hg4 hRl)
    go_wp2
    obtain ⟨⟨y0, y1, y2, y3⟩, _⟩ := hb4.four
    refine bodyPost_ret (v := .tuple #[.agg (fsC mi mb z1 (.slice ay z2.length cy)), .int .i64 z3]) (by simp [results, Tryz.f41, go_sem, y0, y1, y2, y3]) rfl ?_
    exact ⟨_, ev, by rw [HZ.out], by rw [HZ.out]; exact hM, hbl⟩
  · have HN := Lib.hid (fun ev => HER.out ev he)
    clear HER HPU hPt
    obtain ⟨⟨r0, r1, r2, r3⟩, e0, e1, e2, e3⟩ := bR.four
    obtain ⟨W', hW', hb4, hg4⟩ := bR.put4 (.int .i64 mi) (.int .i64 mb) (.int .i64 nx) (.slice a l.length ca)
    have hbl := below_grown hB hg4 (Nat.le_refl _) (by omega)
    go_wp2
    obtain ⟨⟨y0, y1, y2, y3⟩, _⟩ := hb4.four
    refine bodyPost_ret (v := .tuple #[.agg (fsC mi mb nx (.slice a l.length ca)), .int .i64 te]) (by simp [results, Tryz.f41, go_sem, y0, y1, y2, y3]) rfl ?_
    exact ⟨_, .slice none 0 0, by rw [HN.out], by rw [HN.out]; exact MadeFs.same _ _ _ _, hbl⟩
end Go.Proofs.YtkdmfeikikmiiaaGreat
