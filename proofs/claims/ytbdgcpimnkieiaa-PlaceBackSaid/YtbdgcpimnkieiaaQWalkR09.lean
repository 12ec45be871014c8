/- Walks: the program's Put and Take of plain paths. -/
import Derived.Test.YtbdgcpimnkieiaaQWalkP09
import Derived.Test.YtbdgcpimnkieiaaQWalkF04
import Derived.Test.YtbdgcpimnkieiaaQWalkE05
import Derived.Test.YtbdgcpimnkieiaaQMade11
namespace Go.Proofs.Ytbdgcpimnkieiaa
open Go.RowKit

/-- What Put hands to changed: the box of the number lies where it lay. -/
theorem put1_any (l : List Ent) (n : List UInt8) (i : Int) (v : Value) (B : Nat) (w : World) (hv : Ents w v l) (hs : sortP l) (hl : l.length ≤ 999999) (hsh : shortP 100000000 l) (hn : n.length ≤ 100000000) (hb : w.cell? ⟨B, 0, none⟩ = some (.int .i64 i)) :
    Calls Try.prog 32 #[v, .string ⟨n.toArray⟩, .pointer (some ⟨B, 0, none⟩)] w (NewEnts w (withB l n i)) := by
  obtain ⟨a, ca, rfl, _⟩ := id hv
  go_enter Try.func32, Try.ntmps32
  go_wp2_with fail
  refine (With_any l n i _ _ hv hs hl hsh hn).mono ?_
  rintro e w1 ⟨g, rfl, hg, hB, hb1⟩
  go_wp2
  go_ret
  exact ⟨g, rfl, hg, hB, hb1⟩

/-- The lengths that the calls ask. -/
theorem calm_ents {l : List Nd} (h : Calm l) (i : Int) : sortP (getN l i).ents ∧ (getN l i).ents.length ≤ 1000 ∧ shortP 100000000 (getN l i).ents :=
  ⟨((rightB_iff _).1 (calm_get h i).1).2, (calm_get h i).2.1, fun e he => Nat.le_trans ((calm_get h i).2.2.2 e he) (by decide)⟩

set_option maxHeartbeats 8000000 in
set_option maxRecDepth 100000 in
theorem changedPut_any (mi mb nx i : Int) (l : List Nd) (p : List UInt8) (v : Value) (B : Nat) (w : World) (hv : Nds w v l) (hp : p.length ≤ 50000) (hc : Calm l) (he : (atP l p).2 = 0) (hd : (atP l p).1.dir ≠ 0) (hcell : w.cell? ⟨B, 0, none⟩ = some (.int .i64 i)) (hBlt : B < w.heap.size) :
    Calls Try.prog 31 #[.agg (fsC mi mb nx v), .string ⟨p.toArray⟩, .func (.func 32) #[] #[.pointer (some ⟨B, 0, none⟩)]] w fun e w' => ∃ y ev, e = .returned (.agg (fsC mi mb nx y)) ∧ MadeFs w v l w' y (putN l (atP l p).1 i ev) ∧ Below w.heap.size w w' := by
  obtain ⟨a, ca, rfl⟩ := nds_slice hv
  have bF := (Blk.new w 24 (fsC mi mb nx (.slice a l.length ca))).alloc (.cells (fsC 0 0 0 (.slice none 0 0)) 24)
  have bR := Blk.new (w.alloc (.cells (fsC mi mb nx (.slice a l.length ca)) 24)) 24 (fsC 0 0 0 (.slice none 0 0))
  have hB0 : Below w.heap.size w ((w.alloc (.cells (fsC mi mb nx (.slice a l.length ca)) 24)).alloc (.cells (fsC 0 0 0 (.slice none 0 0)) 24)) := ((Below.refl _ w).alloc (Nat.le_refl _) _).alloc (by simp) _
  simp only [World.size_alloc] at bR
  have hA := At_any mi mb nx l p _ _ (hv.below hB0) hp hc
  have hhd := path_dir he hd
  have hnl : (atP l p).1.name.length ≤ 100000000 := at_name_len hp
  have HV := Lib.hid hv
  have HC := Lib.hid hc
  clear hv hc
  generalize atP l p = q at *
  obtain ⟨⟨sd, sn, si⟩, er⟩ := q
  dsimp only at hA he hd hhd hnl ⊢
  subst he
  obtain ⟨⟨p0, p1, p2, p3⟩, _⟩ := bF.four
  go_enter Try.func31, Try.ntmps31
  go_wp2_with fail
  refine hA.mono ?_
  rintro e w1 ⟨rfl, b1⟩
  clear hA p0 p1 p2 p3
  have b2 := alloc_below w1 (.cells (spC ⟨sd, sn, si⟩) 28)
  have b3 := b1.trans (b2.mono b1.size)
  have hB := hB0.trans (b3.mono hB0.size)
  have bF2 := bF.next b3
  have bR2 := bR.next b3
  have bS := Blk.new w1 28 (spC ⟨sd, sn, si⟩)
  have hl1 : w.heap.size + 2 ≤ w1.heap.size := by have := b1.size; simp at this; omega
  clear b1 b2 bF bR b3 hB0
  have hG := GetN_any mi mb nx sd l _ _ (HV.out.below hB) HC.out.rise (by have := HC.out.len; omega) (calm_data HC.out)
  rw [hhd] at hG
  have hEG := get_ents HV.out.all sd
  have hsg := (calm_ents HC.out sd).1
  have hlg := (calm_ents HC.out sd).2.1
  have hshg := (calm_ents HC.out sd).2.2
  have hdg := (calm_get HC.out sd).2.2.1
  have hP : ∀ ev, putN l ⟨sd, sn, si⟩ i ev = setN l { getN l sd with ents := withB (getN l sd).ents sn i, ev := ev } := fun _ => rfl
  obtain ⟨ag, ng, cg, hgs⟩ := get_slice HV.out sd
  generalize getN l sd = G at *
  obtain ⟨gi, gk, gl, gd, gp, ge, gn⟩ := G
  dsimp only at hgs hEG hP hsg hlg hshg hdg
  subst hgs
  have HP := Lib.hid hP
  clear hP hhd
  obtain ⟨⟨p0, p1, p2, p3⟩, _⟩ := bF2.four
  obtain ⟨⟨s0, s1, s2⟩, _⟩ := bS.three
  dsimp only at s0 s1 s2
  go_wp2_with fail
  refine hG.mono ?_
  rintro e w4 ⟨rfl, b4⟩
  clear hG p0 p1 p2 p3 s0 s1 s2
  have b5 := alloc_below w4 (.cells (ndC ⟨gi, gk, gl, gd, gp, .slice ag ng cg, gn⟩) 36)
  have b6 := b4.trans (b5.mono b4.size)
  have hB6 := hB.trans (b6.mono hB.size)
  have bF6 := bF2.next b6
  have bR6 := bR2.next b6
  have bS6 := bS.next b6
  have bX := Blk.new w4 36 (ndC ⟨gi, gk, gl, gd, gp, .slice ag ng cg, gn⟩)
  have hl4 : w1.heap.size + 1 ≤ w4.heap.size := by have := b4.size; simp at this; omega
  obtain ⟨⟨x0, x1, x2, x3, x4, x5⟩, _⟩ := bX.six
  dsimp only at x0 x1 x2 x3 x4 x5
  obtain ⟨⟨s0, s1, s2⟩, _⟩ := bS6.three
  dsimp only at s0 s1 s2
  clear b4 b5 b6 bF2 bR2 bS hB
  go_wp2_with fail
  refine (put1_any gn sn i _ B _ (hEG.below hB6) hsg (by omega) hshg hnl (by exact (hB6.cell (p := ⟨B, 0, none⟩) hBlt).trans hcell)).mono ?_
  rintro e w7 ⟨gN, rfl, hgN, bN, b7⟩
  have hoB : w4.heap.size < (w4.alloc (.cells (ndC ⟨gi, gk, gl, gd, gp, .slice ag ng cg, gn⟩) 36)).heap.size := by simp
  have hB7 := hB6.trans (b7.mono hB6.size)
  have bF7 := bF6.next b7
  have bR7 := bR6.next b7
  have bX7 := bX.next b7
  have hdn : (withB gn sn i).length ≤ 1001 := Nat.le_trans (with_len _ _ _) (by omega)
  clear x0 x1 x2 x3 x4 x5 s0 s1 s2 b7 bF6 bR6 bX bS6
  obtain ⟨⟨x0, x1, x2, x3, x4, x5⟩, g0, g1, g2, g3, g4, g5⟩ := bX7.six
  dsimp only at x0 x1 x2 x3 x4 x5
  generalize withB gn sn i = m at *
  have bX8 := bX7.set 5 (.slice (some ⟨gN, 0, none⟩) m.length m.length)
  rw [nd_set5 gi gk gl gd gp (.slice ag ng cg) (.slice (some ⟨gN, 0, none⟩) m.length m.length) gn m] at bX8
  have bF8 := bF7.other (B2 := w4.heap.size) (i := 5) (by omega) (.slice (some ⟨gN, 0, none⟩) m.length m.length)
  have bR8 := bR7.other (B2 := w4.heap.size) (i := 5) (by omega) (.slice (some ⟨gN, 0, none⟩) m.length m.length)
  have bN8 := bN.other (B2 := w4.heap.size) (i := 5) (by omega) (.slice (some ⟨gN, 0, none⟩) m.length m.length)
  have hB8 := hB7.setCell (p := ⟨w4.heap.size, 5, none⟩) (by show w.heap.size ≤ w4.heap.size; omega) (.slice (some ⟨gN, 0, none⟩) m.length m.length)
  have hEN8 := blk_ents bN8 (by unfold maxLen; omega)
  clear bN hB7 hB6
  generalize hw8 : World.setCell w7 ⟨w4.heap.size, 5, none⟩ (.slice (some ⟨gN, 0, none⟩) m.length m.length) = w8 at *
  obtain ⟨⟨p0, p1, p2, p3⟩, _⟩ := bF8.four
  obtain ⟨⟨y0, y1, y2, y3, y4, y5⟩, _⟩ := bX8.six
  dsimp only at y0 y1 y2 y3 y4 y5
  go_wp2_with fail
  refine (SetN_any mi mb nx l ⟨gi, gk, gl, gd, gp, .slice (some ⟨gN, 0, none⟩) m.length m.length, m⟩ _ _ (HV.out.below hB8) hEN8 HC.out.rise (by have := HC.out.len; omega) (calm_data HC.out) (Nat.le_trans hdg (by decide))).mono ?_
  rintro e w9 ⟨y, rfl, hnew⟩
  have b9 := hnew.2
  have bN9 := bN8.next b9
  obtain ⟨ay, cy, rfl⟩ := own_slice hnew.1
  have hB9 := hB8.trans (b9.mono hB8.size)
  have bR9 := bR8.next b9
  obtain ⟨⟨q0, q1, q2, q3⟩, e0, e1, e2, e3⟩ := bR9.four
  obtain ⟨W', hW', hb4, hg4⟩ := bR9.put4 (.int .i64 mi) (.int .i64 mb) (.int .i64 nx) (.slice ay (setN l ⟨gi, gk, gl, gd, gp, .slice (some ⟨gN, 0, none⟩) m.length m.length, m⟩).length cy)
  have hbl := below_grown hB9 hg4 (Nat.le_refl _) (by omega)
  have hlt : w.heap.size + 1 < w8.heap.size := bR8.lt
  have hown9 := hnew.1.kept hg4 (own_not hnew.1 hlt)
  have bNW := bN9.kept hg4 (by simp; omega)
  have hMF : MadeFs w (.slice a l.length ca) l W' (.slice ay (setN l ⟨gi, gk, gl, gd, gp, .slice (some ⟨gN, 0, none⟩) m.length m.length, m⟩).length cy) (setN l ⟨gi, gk, gl, gd, gp, .slice (some ⟨gN, 0, none⟩) m.length m.length, m⟩) := fun W hk hvW =>
    own_nds (own_kept hown9 hk (by omega)) fun z hz => by
      rcases mem_setN hz with rfl | h
      · exact blk_ents (show Blk W gN _ _ from (hk.2 gN (by omega) bNW.lt).trans bNW) (by unfold maxLen; omega)
      · exact hvW.all z h
  clear p0 p1 p2 p3 y0 y1 y2 y3 y4 y5 x0 x1 x2 x3 x4 x5 hnew hown9 b9 bR9 bX8 bF8 bR8 bN8 bN9
  go_wp2
  obtain ⟨⟨r0, r1, r2, r3⟩, _⟩ := hb4.four
  refine bodyPost_ret (v := .agg (fsC mi mb nx (.slice ay (setN l ⟨gi, gk, gl, gd, gp, .slice (some ⟨gN, 0, none⟩) m.length m.length, m⟩).length cy))) (by simp [results, Try.f31, go_sem, r0, r1, r2, r3]) rfl ?_
  exact ⟨_, .slice (some ⟨gN, 0, none⟩) m.length m.length, rfl, by rw [HP.out]; exact hMF, hbl⟩

set_option maxHeartbeats 8000000 in
set_option maxRecDepth 100000 in
theorem changedTake_any (mi mb nx : Int) (l : List Nd) (p : List UInt8) (v : Value) (w : World) (hv : Nds w v l) (hp : p.length ≤ 50000) (hc : Calm l) (he : (atP l p).2 = 0) (hd : (atP l p).1.dir ≠ 0) :
    Calls Try.prog 31 #[.agg (fsC mi mb nx v), .string ⟨p.toArray⟩, .func (.func 35) #[] #[]] w fun e w' => ∃ y ev, e = .returned (.agg (fsC mi mb nx y)) ∧ MadeFs w v l w' y (takeN l (atP l p).1 ev) ∧ Below w.heap.size w w' := by
  obtain ⟨a, ca, rfl⟩ := nds_slice hv
  have bF := (Blk.new w 24 (fsC mi mb nx (.slice a l.length ca))).alloc (.cells (fsC 0 0 0 (.slice none 0 0)) 24)
  have bR := Blk.new (w.alloc (.cells (fsC mi mb nx (.slice a l.length ca)) 24)) 24 (fsC 0 0 0 (.slice none 0 0))
  have hB0 : Below w.heap.size w ((w.alloc (.cells (fsC mi mb nx (.slice a l.length ca)) 24)).alloc (.cells (fsC 0 0 0 (.slice none 0 0)) 24)) := ((Below.refl _ w).alloc (Nat.le_refl _) _).alloc (by simp) _
  simp only [World.size_alloc] at bR
  have hA := At_any mi mb nx l p _ _ (hv.below hB0) hp hc
  have hhd := path_dir he hd
  have hnl : (atP l p).1.name.length ≤ 100000000 := at_name_len hp
  have HV := Lib.hid hv
  have HC := Lib.hid hc
  clear hv hc
  generalize atP l p = q at *
  obtain ⟨⟨sd, sn, si⟩, er⟩ := q
  dsimp only at hA he hd hhd hnl ⊢
  subst he
  obtain ⟨⟨p0, p1, p2, p3⟩, _⟩ := bF.four
  go_enter Try.func31, Try.ntmps31
  go_wp2_with fail
  refine hA.mono ?_
  rintro e w1 ⟨rfl, b1⟩
  clear hA p0 p1 p2 p3
  have b2 := alloc_below w1 (.cells (spC ⟨sd, sn, si⟩) 28)
  have b3 := b1.trans (b2.mono b1.size)
  have hB := hB0.trans (b3.mono hB0.size)
  have bF2 := bF.next b3
  have bR2 := bR.next b3
  have bS := Blk.new w1 28 (spC ⟨sd, sn, si⟩)
  have hl1 : w.heap.size + 2 ≤ w1.heap.size := by have := b1.size; simp at this; omega
  clear b1 b2 bF bR b3 hB0
  have hG := GetN_any mi mb nx sd l _ _ (HV.out.below hB) HC.out.rise (by have := HC.out.len; omega) (calm_data HC.out)
  rw [hhd] at hG
  have hEG := get_ents HV.out.all sd
  have hsg := (calm_ents HC.out sd).1
  have hlg := (calm_ents HC.out sd).2.1
  have hshg := (calm_ents HC.out sd).2.2
  have hdg := (calm_get HC.out sd).2.2.1
  have hP : ∀ ev, takeN l ⟨sd, sn, si⟩ ev = setN l { getN l sd with ents := withoutB (getN l sd).ents sn, ev := ev } := fun _ => rfl
  obtain ⟨ag, ng, cg, hgs⟩ := get_slice HV.out sd
  generalize getN l sd = G at *
  obtain ⟨gi, gk, gl, gd, gp, ge, gn⟩ := G
  dsimp only at hgs hEG hP hsg hlg hshg hdg
  subst hgs
  have HP := Lib.hid hP
  clear hP hhd
  obtain ⟨⟨p0, p1, p2, p3⟩, _⟩ := bF2.four
  obtain ⟨⟨s0, s1, s2⟩, _⟩ := bS.three
  dsimp only at s0 s1 s2
  go_wp2_with fail
  refine hG.mono ?_
  rintro e w4 ⟨rfl, b4⟩
  clear hG p0 p1 p2 p3 s0 s1 s2
  have b5 := alloc_below w4 (.cells (ndC ⟨gi, gk, gl, gd, gp, .slice ag ng cg, gn⟩) 36)
  have b6 := b4.trans (b5.mono b4.size)
  have hB6 := hB.trans (b6.mono hB.size)
  have bF6 := bF2.next b6
  have bR6 := bR2.next b6
  have bS6 := bS.next b6
  have bX := Blk.new w4 36 (ndC ⟨gi, gk, gl, gd, gp, .slice ag ng cg, gn⟩)
  have hl4 : w1.heap.size + 1 ≤ w4.heap.size := by have := b4.size; simp at this; omega
  obtain ⟨⟨x0, x1, x2, x3, x4, x5⟩, _⟩ := bX.six
  dsimp only at x0 x1 x2 x3 x4 x5
  obtain ⟨⟨s0, s1, s2⟩, _⟩ := bS6.three
  dsimp only at s0 s1 s2
  clear b4 b5 b6 bF2 bR2 bS hB
  go_wp2_with fail
  refine (Without_any gn sn _ _ (hEG.below hB6) hsg (by omega) hshg).mono ?_
  rintro e w7 ⟨gN, rfl, hgN, bN, b7⟩
  have hoB : w4.heap.size < (w4.alloc (.cells (ndC ⟨gi, gk, gl, gd, gp, .slice ag ng cg, gn⟩) 36)).heap.size := by simp
  have hB7 := hB6.trans (b7.mono hB6.size)
  have bF7 := bF6.next b7
  have bR7 := bR6.next b7
  have bX7 := bX.next b7
  have hdn : (withoutB gn sn).length ≤ 1001 := Nat.le_trans (without_len _ _) (by omega)
  clear x0 x1 x2 x3 x4 x5 s0 s1 s2 b7 bF6 bR6 bX bS6
  obtain ⟨⟨x0, x1, x2, x3, x4, x5⟩, g0, g1, g2, g3, g4, g5⟩ := bX7.six
  dsimp only at x0 x1 x2 x3 x4 x5
  generalize withoutB gn sn = m at *
  have bX8 := bX7.set 5 (.slice (some ⟨gN, 0, none⟩) m.length m.length)
  rw [nd_set5 gi gk gl gd gp (.slice ag ng cg) (.slice (some ⟨gN, 0, none⟩) m.length m.length) gn m] at bX8
  have bF8 := bF7.other (B2 := w4.heap.size) (i := 5) (by omega) (.slice (some ⟨gN, 0, none⟩) m.length m.length)
  have bR8 := bR7.other (B2 := w4.heap.size) (i := 5) (by omega) (.slice (some ⟨gN, 0, none⟩) m.length m.length)
  have bN8 := bN.other (B2 := w4.heap.size) (i := 5) (by omega) (.slice (some ⟨gN, 0, none⟩) m.length m.length)
  have hB8 := hB7.setCell (p := ⟨w4.heap.size, 5, none⟩) (by show w.heap.size ≤ w4.heap.size; omega) (.slice (some ⟨gN, 0, none⟩) m.length m.length)
  have hEN8 := blk_ents bN8 (by unfold maxLen; omega)
  clear bN hB7 hB6
  generalize hw8 : World.setCell w7 ⟨w4.heap.size, 5, none⟩ (.slice (some ⟨gN, 0, none⟩) m.length m.length) = w8 at *
  obtain ⟨⟨p0, p1, p2, p3⟩, _⟩ := bF8.four
  obtain ⟨⟨y0, y1, y2, y3, y4, y5⟩, _⟩ := bX8.six
  dsimp only at y0 y1 y2 y3 y4 y5
  go_wp2_with fail
  refine (SetN_any mi mb nx l ⟨gi, gk, gl, gd, gp, .slice (some ⟨gN, 0, none⟩) m.length m.length, m⟩ _ _ (HV.out.below hB8) hEN8 HC.out.rise (by have := HC.out.len; omega) (calm_data HC.out) (Nat.le_trans hdg (by decide))).mono ?_
  rintro e w9 ⟨y, rfl, hnew⟩
  have b9 := hnew.2
  have bN9 := bN8.next b9
  obtain ⟨ay, cy, rfl⟩ := own_slice hnew.1
  have hB9 := hB8.trans (b9.mono hB8.size)
  have bR9 := bR8.next b9
  obtain ⟨⟨q0, q1, q2, q3⟩, e0, e1, e2, e3⟩ := bR9.four
  obtain ⟨W', hW', hb4, hg4⟩ := bR9.put4 (.int .i64 mi) (.int .i64 mb) (.int .i64 nx) (.slice ay (setN l ⟨gi, gk, gl, gd, gp, .slice (some ⟨gN, 0, none⟩) m.length m.length, m⟩).length cy)
  have hbl := below_grown hB9 hg4 (Nat.le_refl _) (by omega)
  have hlt : w.heap.size + 1 < w8.heap.size := bR8.lt
  have hown9 := hnew.1.kept hg4 (own_not hnew.1 hlt)
  have bNW := bN9.kept hg4 (by simp; omega)
  have hMF : MadeFs w (.slice a l.length ca) l W' (.slice ay (setN l ⟨gi, gk, gl, gd, gp, .slice (some ⟨gN, 0, none⟩) m.length m.length, m⟩).length cy) (setN l ⟨gi, gk, gl, gd, gp, .slice (some ⟨gN, 0, none⟩) m.length m.length, m⟩) := fun W hk hvW =>
    own_nds (own_kept hown9 hk (by omega)) fun z hz => by
      rcases mem_setN hz with rfl | h
      · exact blk_ents (show Blk W gN _ _ from (hk.2 gN (by omega) bNW.lt).trans bNW) (by unfold maxLen; omega)
      · exact hvW.all z h
  clear p0 p1 p2 p3 y0 y1 y2 y3 y4 y5 x0 x1 x2 x3 x4 x5 hnew hown9 b9 bR9 bX8 bF8 bR8 bN8 bN9
  go_wp2
  obtain ⟨⟨r0, r1, r2, r3⟩, _⟩ := hb4.four
  refine bodyPost_ret (v := .agg (fsC mi mb nx (.slice ay (setN l ⟨gi, gk, gl, gd, gp, .slice (some ⟨gN, 0, none⟩) m.length m.length, m⟩).length cy))) (by simp [results, Try.f31, go_sem, r0, r1, r2, r3]) rfl ?_
  exact ⟨_, .slice (some ⟨gN, 0, none⟩) m.length m.length, rfl, by rw [HP.out]; exact hMF, hbl⟩

set_option maxHeartbeats 2000000 in
theorem PutP_any (mi mb nx i : Int) (l : List Nd) (p : List UInt8) (v : Value) (w : World) (hv : Nds w v l) (hp : p.length ≤ 50000) (hc : Calm l) (he : (atP l p).2 = 0) (hd : (atP l p).1.dir ≠ 0) :
    Calls Try.prog 14 #[.agg (fsC mi mb nx v), .string ⟨p.toArray⟩, .int .i64 i] w fun e w' => ∃ y ev, e = .returned (.agg (fsC mi mb nx y)) ∧ Nds w' y (putN l (atP l p).1 i ev) ∧ Below w.heap.size w w' := by
  obtain ⟨a, ca, rfl⟩ := nds_slice hv
  have bF := ((Blk.new w 24 (fsC mi mb nx (.slice a l.length ca))).alloc (.cells #[.int .i64 i] 3)).alloc (.cells (fsC 0 0 0 (.slice none 0 0)) 24)
  have bI := (Blk.new (w.alloc (.cells (fsC mi mb nx (.slice a l.length ca)) 24)) 3 #[.int .i64 i]).alloc (.cells (fsC 0 0 0 (.slice none 0 0)) 24)
  have bR := Blk.new ((w.alloc (.cells (fsC mi mb nx (.slice a l.length ca)) 24)).alloc (.cells #[.int .i64 i] 3)) 24 (fsC 0 0 0 (.slice none 0 0))
  have hB0 : Below w.heap.size w (((w.alloc (.cells (fsC mi mb nx (.slice a l.length ca)) 24)).alloc (.cells #[.int .i64 i] 3)).alloc (.cells (fsC 0 0 0 (.slice none 0 0)) 24)) := (((Below.refl _ w).alloc (Nat.le_refl _) _).alloc (by simp) _).alloc (by simp; omega) _
  simp only [World.size_alloc] at bR bI
  have hnv := hv.below hB0
  have hcell := (bI.cell 0).trans (show #[Value.int .i64 i][0]? = some (.int .i64 i) from rfl)
  have hlt := bI.lt
  obtain ⟨⟨p0, p1, p2, p3⟩, _⟩ := bF.four
  go_enter Try.func14, Try.ntmps14
  go_wp2_with fail
  refine (changedPut_any mi mb nx i l p _ (w.heap.size + 1) _ hnv hp hc he hd hcell hlt).mono ?_
  rintro e w1 ⟨y, ev, rfl, hM, b1⟩
  obtain ⟨ay, cy, rfl⟩ := nds_slice (hM.now hnv b1)
  have hB1 := hB0.trans (b1.mono hB0.size)
  have bR1 := bR.next b1
  clear p0 p1 p2 p3
  obtain ⟨⟨q0, q1, q2, q3⟩, e0, e1, e2, e3⟩ := bR1.four
  obtain ⟨W', hW', hb4, hg4⟩ := bR1.put4 (.int .i64 mi) (.int .i64 mb) (.int .i64 nx) (.slice ay (putN l (atP l p).1 i ev).length cy)
  have hbl := below_grown hB1 hg4 (Nat.le_refl _) (by omega)
  go_wp2
  obtain ⟨⟨r0, r1, r2, r3⟩, _⟩ := hb4.four
  refine bodyPost_ret (v := .agg (fsC mi mb nx (.slice ay (putN l (atP l p).1 i ev).length cy))) (by simp [results, Try.f14, go_sem, r0, r1, r2, r3]) rfl ?_
  exact ⟨_, ev, rfl, hM.up hB0.size (Kept.grown hg4 bR.lt) W' (Kept.refl _ _) (hv.below hbl), hbl⟩

set_option maxHeartbeats 2000000 in
theorem TakeP_any (mi mb nx : Int) (l : List Nd) (p : List UInt8) (v : Value) (w : World) (hv : Nds w v l) (hp : p.length ≤ 50000) (hc : Calm l) (he : (atP l p).2 = 0) (hd : (atP l p).1.dir ≠ 0) :
    Calls Try.prog 16 #[.agg (fsC mi mb nx v), .string ⟨p.toArray⟩] w fun e w' => ∃ y ev, e = .returned (.agg (fsC mi mb nx y)) ∧ Nds w' y (takeN l (atP l p).1 ev) ∧ Below w.heap.size w w' := by
  obtain ⟨a, ca, rfl⟩ := nds_slice hv
  have bF := (Blk.new w 24 (fsC mi mb nx (.slice a l.length ca))).alloc (.cells (fsC 0 0 0 (.slice none 0 0)) 24)
  have bR := Blk.new (w.alloc (.cells (fsC mi mb nx (.slice a l.length ca)) 24)) 24 (fsC 0 0 0 (.slice none 0 0))
  have hB0 : Below w.heap.size w ((w.alloc (.cells (fsC mi mb nx (.slice a l.length ca)) 24)).alloc (.cells (fsC 0 0 0 (.slice none 0 0)) 24)) := ((Below.refl _ w).alloc (Nat.le_refl _) _).alloc (by simp) _
  simp only [World.size_alloc] at bR
  have hnv := hv.below hB0
  obtain ⟨⟨p0, p1, p2, p3⟩, _⟩ := bF.four
  go_enter Try.func16, Try.ntmps16
  go_wp2_with fail
  refine (changedTake_any mi mb nx l p _ _ hnv hp hc he hd).mono ?_
  rintro e w1 ⟨y, ev, rfl, hM, b1⟩
  obtain ⟨ay, cy, rfl⟩ := nds_slice (hM.now hnv b1)
  have hB1 := hB0.trans (b1.mono hB0.size)
  have bR1 := bR.next b1
  clear p0 p1 p2 p3
  obtain ⟨⟨q0, q1, q2, q3⟩, e0, e1, e2, e3⟩ := bR1.four
  obtain ⟨W', hW', hb4, hg4⟩ := bR1.put4 (.int .i64 mi) (.int .i64 mb) (.int .i64 nx) (.slice ay (takeN l (atP l p).1 ev).length cy)
  have hbl := below_grown hB1 hg4 (Nat.le_refl _) (by omega)
  go_wp2
  obtain ⟨⟨r0, r1, r2, r3⟩, _⟩ := hb4.four
  refine bodyPost_ret (v := .agg (fsC mi mb nx (.slice ay (takeN l (atP l p).1 ev).length cy))) (by simp [results, Try.f16, go_sem, r0, r1, r2, r3]) rfl ?_
  exact ⟨_, ev, rfl, hM.up hB0.size (Kept.grown hg4 bR.lt) W' (Kept.refl _ _) (hv.below hbl), hbl⟩
end Go.Proofs.Ytbdgcpimnkieiaa
