/- Walks: the program's Move (printed by tools/move14p.py). -/
import Derived.Test.YtkdmfeikikmiiaaGreatVMWalkB05
import Derived.Test.YtkdmfeikikmiiaaGreatVMWalkD11
import Derived.Test.YtkdmfeikikmiiaaGreatVWalkO12
set_option linter.unusedVariables false
set_option linter.unusedSimpArgs false
namespace Go.Proofs.YtkdmfeikikmiiaaGreat
open Go.RowKit
def DataP (L : List Nd) : Prop := ∀ x ∈ L, x.data.length ≤ 281474976710656
def EntP (es : List Ent) : Prop := sortP es ∧ es.length ≤ 1000 ∧ shortP 100000000 es
theorem dataP_get {L : List Nd} (h : DataP L) (i : Int) : (getN L i).data.length ≤ 281474976710656 := by
  cases hh : hasN L i
  · rw [getN_none hh]; exact Nat.zero_le _
  · exact h _ (get_mem hh).1
theorem calm_entP {L : List Nd} (h : Calm L) (i : Int) : EntP (getN L i).ents := calm_ents h i
theorem without_entP {es : List Ent} (n : List UInt8) (h : EntP es) : EntP (withoutB es n) := by
  refine ⟨without_sort _ h.1, ?_, fun e he => h.2.2 e (mem_without.1 he).1⟩
  have := h.2.1
  unfold withoutB
  rw [List.length_append]
  exact Nat.le_trans (parts_len _ _) this
theorem un_calm {mi mb nx : Int} {l : List Nd} {d i : Int} {n : List UInt8} {ev : Value} (h : OkS mi mb nx l) (hg : Gone l d n i) : OkS mi mb nx (unL l d n i ev) := by
  have hs := sound_of h.check
  have hs2 := un_sound (ev := ev) hs hg
  refine ⟨sound_check hs2, hs2.rise, fun x hx => ?_, fun x hx => ?_, Nat.le_trans (un_len hs hg) h.calm.len⟩
  · by_cases hk : x.kind = 2
    · exact hs2.tree.rights x hx hk
    · rw [hs2.tree.files x hx hk]; rfl
  have hd := calm_get h.calm d
  have hi := calm_get h.calm i
  rcases un_mem hs hg hx with ⟨rfl, _⟩ | rfl | ⟨hx, _⟩
  · exact hi.2
  · refine ⟨?_, hd.2.2.1, fun e he => hd.2.2.2 e (mem_without.1 he).1⟩
    show (withoutB (getN l d).ents n).length ≤ 1000
    have : (withoutB (getN l d).ents n).length ≤ (getN l d).ents.length := by
      unfold withoutB
      rw [List.length_append]
      exact parts_len _ _
    omega
  · exact h.calm.size x hx
theorem tL_ok {mi mb nx : Int} {l : List Nd} (h : OkS mi mb nx l) {B : Sp} (hB : B.ino ≠ 0 → Gone l B.dir B.name B.ino) (ev : Value) : OkS mi mb nx (tL l B ev) := by
  unfold tL
  split
  · rename_i c
    exact un_calm h (hB c)
  · exact h
theorem mv_fine {mi mb nx : Int} {l : List Nd} (h : OkS mi mb nx l) {A B : Sp} (hB : B.ino ≠ 0 → Gone l B.dir B.name B.ino) (ev : Value) : riseP (tL l B ev) ∧ (tL l B ev).length ≤ 1000 ∧ DataP (tL l B ev) ∧ EntP (getN (tL l B ev) A.dir).ents ∧ ∀ e1, EntP (getN (setN (tL l B ev) (lessD (getN (tL l B ev) A.dir) A.name e1)) B.dir).ents := by
  have hc := (tL_ok h hB ev).calm
  generalize tL l B ev = t at *
  refine ⟨hc.rise, hc.len, calm_data hc, calm_entP hc _, fun e1 => ?_⟩
  rw [get_set hc.rise]
  split
  · exact without_entP _ (calm_entP hc _)
  · exact calm_entP hc _
set_option maxHeartbeats 16000000 in
set_option maxRecDepth 100000 in
theorem MoveS_any (mi mb nx : Int) (l : List Nd) (A B : Sp) (v : Value) (w : World) (hv : Nds w v l) (hok : OkS mi mb nx l) (hg : B.ino ≠ 0 → Gone l B.dir B.name B.ino) (hnm : B.name.length ≤ 255)
    (hT : ∀ ev, riseP (tL l B ev) ∧ (tL l B ev).length ≤ 1000 ∧ DataP (tL l B ev) ∧ EntP (getN (tL l B ev) A.dir).ents ∧ ∀ e1, EntP (getN (setN (tL l B ev) (lessD (getN (tL l B ev) A.dir) A.name e1)) B.dir).ents) :
    Calls Tryz.prog 82 #[.agg (fsC mi mb nx v), .agg (spC A), .agg (spC B)] w fun e w' => ∃ y ev e1 e2, e = .returned (.agg (fsC mi mb nx y)) ∧ MadeFs w v l w' y (mvL (tL l B ev) A.dir A.name A.ino B.dir B.name e1 e2) ∧ Below w.heap.size w w' := by
  obtain ⟨a, ca, rfl⟩ := nds_slice hv
  obtain ⟨ad, an_, ai_⟩ := A
  obtain ⟨bd, bn_, bi⟩ := B
  dsimp only at hg hnm hT ⊢
  have bF := (((Blk.new w 28 (fsC mi mb nx (.slice a l.length ca))).alloc (.cells (spC ⟨ad, an_, ai_⟩) 81)).alloc (.cells (spC ⟨bd, bn_, bi⟩) 81)).alloc (.cells (fsC 0 0 0 (.slice none 0 0)) 28)
  have bA := ((Blk.new (w.alloc (.cells (fsC mi mb nx (.slice a l.length ca)) 28)) 81 (spC ⟨ad, an_, ai_⟩)).alloc (.cells (spC ⟨bd, bn_, bi⟩) 81)).alloc (.cells (fsC 0 0 0 (.slice none 0 0)) 28)
  have bB := (Blk.new ((w.alloc (.cells (fsC mi mb nx (.slice a l.length ca)) 28)).alloc (.cells (spC ⟨ad, an_, ai_⟩) 81)) 81 (spC ⟨bd, bn_, bi⟩)).alloc (.cells (fsC 0 0 0 (.slice none 0 0)) 28)
  have bR := Blk.new (((w.alloc (.cells (fsC mi mb nx (.slice a l.length ca)) 28)).alloc (.cells (spC ⟨ad, an_, ai_⟩) 81)).alloc (.cells (spC ⟨bd, bn_, bi⟩) 81)) 28 (fsC 0 0 0 (.slice none 0 0))
  have hB : Below w.heap.size w ((((w.alloc (.cells (fsC mi mb nx (.slice a l.length ca)) 28)).alloc (.cells (spC ⟨ad, an_, ai_⟩) 81)).alloc (.cells (spC ⟨bd, bn_, bi⟩) 81)).alloc (.cells (fsC 0 0 0 (.slice none 0 0)) 28)) := ((((Below.refl _ w).alloc (Nat.le_refl _) _).alloc (by simp) _).alloc (by simp; omega) _).alloc (by simp; omega) _
  simp only [World.size_alloc] at bA bB bR
  have HV := Lib.hid hv
  clear hv
  have HT := Lib.hid hT
  clear hT
  go_enter Tryz.func82, Tryz.ntmps82
  have hRl := bR.lt
  obtain ⟨⟨p0, p1, p2, p3⟩, _⟩ := bF.four
  obtain ⟨⟨t0, t1, t2⟩, _⟩ := bB.three
  dsimp only at t0 t1 t2
  go_upto_if 15 with (fail)
  generalize (((w.alloc (.cells (fsC mi mb nx (.slice a l.length ca)) 28)).alloc (.cells (spC ⟨ad, an_, ai_⟩) 81)).alloc (.cells (spC ⟨bd, bn_, bi⟩) 81)).alloc (.cells (fsC 0 0 0 (.slice none 0 0)) 28) = w0 at *
  have hF0 : w.heap.size < w0.heap.size := by omega
  go_cut [3] from 15 (fun s3 wc => s3 = .pointer (some ⟨w.heap.size, 0, none⟩) ∧ ∃ L1 a1 c1 ev, Aside (L1 = tL l ⟨bd, bn_, bi⟩ ev ∧ Blk wc w.heap.size 28 (fsC mi mb nx (.slice a1 L1.length c1)) ∧ Blk wc (w.heap.size + 1) 81 (spC ⟨ad, an_, ai_⟩) ∧ Blk wc (w.heap.size + 1 + 1) 81 (spC ⟨bd, bn_, bi⟩) ∧ Blk wc (w.heap.size + 1 + 1 + 1) 28 (fsC 0 0 0 (.slice none 0 0)) ∧ Below w.heap.size w wc ∧ MadeFs w0 (.slice a l.length ca) l wc (.slice a1 L1.length c1) L1 ∧ w0.heap.size ≤ wc.heap.size))
  case first =>
    by_cases hb0 : bi = 0
    · subst hb0
      go_wp2_with fail
      go_meet
      exact ⟨rfl, l, a, ca, .slice none 0 0, rfl, bF, bA, bB, bR, hB, MadeFs.same _ _ _ _, Nat.le_refl _⟩
    · have hU := Unname_any mi mb nx l ⟨bd, bn_, bi⟩ _ _ (HV.out.below hB) hok (hg hb0) hnm
      have hu : ∀ ev, unL l bd bn_ bi ev = tL l ⟨bd, bn_, bi⟩ ev := fun ev => by unfold tL; rw [if_pos hb0]
      have HU := Lib.hid hu
      clear hu
      go_wp2_with fail
      refine hU.mono ?_
      rintro e x1 ⟨y, ev, rfl, hN, b1⟩
      obtain ⟨ay, cy, rfl⟩ := nds_slice (hN.now (HV.out.below hB) b1)
      have hTL := HU.out ev
      generalize unL l bd bn_ bi ev = Z at *
      clear hU p0 p1 p2 p3 t0 t1 t2
      have bF1 := bF.next b1
      obtain ⟨_, f0, f1, f2, f3⟩ := bF1.four
      obtain ⟨W', hW', bF2, hg⟩ := bF1.put4 (.int .i64 mi) (.int .i64 mb) (.int .i64 nx) (.slice ay Z.length cy)
      have h1 := (bA.next b1).kept hg (by simp)
      have h2 := (bB.next b1).kept hg (by simp; omega)
      have h3 := (bR.next b1).kept hg (by simp; omega)
      have h4 := below_grown (hB.trans (b1.mono hB.size)) hg (Nat.le_refl _) (Nat.le_refl _)
      have h5 := hN.up (Nat.le_refl _) (Kept.grown hg hF0)
      have h6 := Nat.le_trans b1.size hg.size
      have HH := Lib.hid (show _ ∧ _ ∧ _ ∧ _ ∧ _ ∧ _ ∧ _ ∧ _ from ⟨hTL, bF2, h1, h2, h3, h4, h5, h6⟩)
      clear hTL h1 h2 h3 h4 h5 h6 bF2
      go_wp2_with fail
      go_meet
      exact ⟨rfl, Z, ay, cy, ev, HH.out⟩
  case rest =>
   obtain ⟨rfl, L1, a1, c1, ev, HQ⟩ := hcut
   obtain ⟨hL1, bF1, bA1, bB1, bR1, hB1, MF1, hsz1⟩ := HQ.out
   clear HQ bF bA bB bR hB p0 p1 p2 p3 t0 t1 t2 hg hok
   rename World => w1
   have hc := HT.out ev
   rw [← hL1] at hc
   obtain ⟨hr1, hl1, hda1, hs12, hs3⟩ := hc
   have hdG := dataP_get hda1 ad
   have hmv : ∀ e1 e2, mvL L1 ad an_ ai_ bd bn_ e1 e2 = if (getN (setN (setN L1 (lessD (getN L1 ad) an_ e1)) (moreD (getN (setN L1 (lessD (getN L1 ad) an_ e1)) bd) bn_ ai_ e2)) ai_).kind = 2 then setN (setN (setN L1 (lessD (getN L1 ad) an_ e1)) (moreD (getN (setN L1 (lessD (getN L1 ad) an_ e1)) bd) bn_ ai_ e2)) { getN (setN (setN L1 (lessD (getN L1 ad) an_ e1)) (moreD (getN (setN L1 (lessD (getN L1 ad) an_ e1)) bd) bn_ ai_ e2)) ai_ with parent := bd } else setN (setN L1 (lessD (getN L1 ad) an_ e1)) (moreD (getN (setN L1 (lessD (getN L1 ad) an_ e1)) bd) bn_ ai_ e2) := fun _ _ => rfl
   have hq : EntP (getN L1 ad).ents ∧ ∀ e1, EntP (getN (setN L1 (lessD (getN L1 ad) an_ e1)) bd).ents ∧ ∀ e2, ∃ f1 f2, mvL L1 ad an_ ai_ bd bn_ f1 f2 = if (getN (setN (setN L1 (lessD (getN L1 ad) an_ e1)) (moreD (getN (setN L1 (lessD (getN L1 ad) an_ e1)) bd) bn_ ai_ e2)) ai_).kind = 2 then setN (setN (setN L1 (lessD (getN L1 ad) an_ e1)) (moreD (getN (setN L1 (lessD (getN L1 ad) an_ e1)) bd) bn_ ai_ e2)) { getN (setN (setN L1 (lessD (getN L1 ad) an_ e1)) (moreD (getN (setN L1 (lessD (getN L1 ad) an_ e1)) bd) bn_ ai_ e2)) ai_ with parent := bd } else setN (setN L1 (lessD (getN L1 ad) an_ e1)) (moreD (getN (setN L1 (lessD (getN L1 ad) an_ e1)) bd) bn_ ai_ e2) := ⟨hs12, fun e1 => ⟨hs3 e1, fun e2 => ⟨e1, e2, hmv e1 e2⟩⟩⟩
   unfold lessD moreD at hq
   clear hmv hs12 hs3 HT
   subst hL1
   generalize hLL : tL l ⟨bd, bn_, bi⟩ ev = L1 at *
   have HLL := Lib.hid hLL
   clear hLL
   have HP1 := Lib.hid hq
   clear hq
   have NV1 := MF1 _ (Kept.refl _ _) (HV.out.below hB1)
   have hG := GetN_any mi mb nx ad L1 _ _ NV1 hr1 (by omega) hda1
   have hEG := get_ents NV1.all ad
   obtain ⟨ag, ng, cg, hgs⟩ := get_slice NV1 ad
   have hq := HP1.out
   generalize getN L1 ad = G at *
   generalize hasN L1 ad = hs1 at *
   obtain ⟨gi, gk, gl, gd, gp, ge, gn⟩ := G
   dsimp only at hgs hEG hq hdG
   subst hgs
   obtain ⟨⟨hsoK, helK, hshK⟩, hq⟩ := hq
   have HQ1 := Lib.hid hq
   clear hq HP1
   obtain ⟨⟨p0, p1, p2, p3⟩, _⟩ := bF1.four
   obtain ⟨⟨s0, s1, s2⟩, _⟩ := bA1.three
   obtain ⟨⟨t0, t1, t2⟩, _⟩ := bB1.three
   dsimp only at s0 s1 s2 t0 t1 t2
   go_wp2_with fail
   refine hG.mono ?_
   rintro e x1 ⟨rfl, b1⟩
   clear hG p0 p1 p2 p3 s0 s1 s2 t0 t1 t2
   have k1 := b1.trans ((alloc_below x1 (.cells (ndC ⟨gi, gk, gl, gd, gp, .slice ag ng cg, gn⟩) 49)).mono b1.size)
   have bD := Blk.new x1 49 (ndC ⟨gi, gk, gl, gd, gp, .slice ag ng cg, gn⟩)
   have hDl : w1.heap.size ≤ x1.heap.size := b1.size
   have hRx : w.heap.size + 1 + 1 + 1 < x1.heap.size := (bR1.next b1).lt
   have bFx := bF1.next k1
   have bAx := bA1.next k1
   have bBx := bB1.next k1
   have bRx := bR1.next k1
   replace hEG := hEG.below k1
   clear b1
   obtain ⟨⟨s0, s1, s2⟩, _⟩ := bAx.three
   obtain ⟨⟨t0, t1, t2⟩, _⟩ := bBx.three
   obtain ⟨⟨x0, x1', x2, x3, x4, x5⟩, _⟩ := bD.six
   dsimp only at s0 s1 s2 t0 t1 t2 x0 x1' x2 x3 x4 x5
   have hWi := Without_any gn an_ _ _ hEG hsoK (by omega) hshK
   go_wp2_with fail
   refine hWi.mono ?_
   rintro e x3w ⟨gN, rfl, hgN, bN, b3⟩
   clear hWi s0 s1 s2 t0 t1 t2 x0 x1' x2 x3 x4 x5 hEG
   have hoB : x1.heap.size < (x1.alloc (.cells (ndC ⟨gi, gk, gl, gd, gp, .slice ag ng cg, gn⟩) 49)).heap.size := by simp
   replace k1 := k1.trans (b3.mono k1.size)
   replace bFx := bFx.next b3
   replace bAx := bAx.next b3
   replace bBx := bBx.next b3
   replace bRx := bRx.next b3
   replace bD := bD.next b3
   have hdn : (withoutB gn an_).length ≤ 1001 := Nat.le_trans (without_len _ _) (by omega)
   clear b3
   generalize withoutB gn an_ = m at *
   obtain ⟨⟨x0, x1', x2, x3, x4, x5⟩, f0, f1, f2, f3, f4, f5⟩ := bD.six
   dsimp only at x0 x1' x2 x3 x4 x5
   have bD5 := bD.set 5 (.slice (some ⟨gN, 0, none⟩) m.length m.length)
   rw [nd_set5 gi gk gl gd gp (.slice ag ng cg) (.slice (some ⟨gN, 0, none⟩) m.length m.length) gn m] at bD5
   have bF5 := bFx.other (B2 := x1.heap.size) (i := 5) (by omega) (.slice (some ⟨gN, 0, none⟩) m.length m.length)
   have bA5 := bAx.other (B2 := x1.heap.size) (i := 5) (by omega) (.slice (some ⟨gN, 0, none⟩) m.length m.length)
   have bB5 := bBx.other (B2 := x1.heap.size) (i := 5) (by omega) (.slice (some ⟨gN, 0, none⟩) m.length m.length)
   have bR5 := bRx.other (B2 := x1.heap.size) (i := 5) (by omega) (.slice (some ⟨gN, 0, none⟩) m.length m.length)
   have bN5 := bN.other (B2 := x1.heap.size) (i := 5) (by omega) (.slice (some ⟨gN, 0, none⟩) m.length m.length)
   have k5 := k1.setCell (p := ⟨x1.heap.size, 5, none⟩) hDl (.slice (some ⟨gN, 0, none⟩) m.length m.length)
   generalize (x1.alloc (.cells (ndC ⟨gi, gk, gl, gd, gp, .slice ag ng cg, gn⟩) 49)).heap.size = NB at *
   have hgNl : w0.heap.size ≤ gN := by omega
   generalize hw5 : World.setCell x3w ⟨x1.heap.size, 5, none⟩ (.slice (some ⟨gN, 0, none⟩) m.length m.length) = x5w at *
   clear bFx bAx bBx bRx bD k1 bN
   have hEN5 := blk_ents bN5 (by unfold maxLen; omega)
   generalize x1.heap.size = BD at *
   have hB5 := hB1.trans (k5.mono hB1.size)
   obtain ⟨⟨p0, p1, p2, p3⟩, _⟩ := bF5.four
   obtain ⟨⟨d0, d1, d2, d3, d4, d5⟩, _⟩ := bD5.six
   dsimp only at d0 d1 d2 d3 d4 d5
   have NV5 := MF1 _ (Kept.of_below k5) (HV.out.below hB5)
   have hS := SetN_any mi mb nx L1 ⟨gi, gk, gl, gd, gp, .slice (some ⟨gN, 0, none⟩) m.length m.length, m⟩ _ _ NV5 hEN5 hr1 (by omega) hda1 hdG
   have hr2 : riseP (setN L1 ⟨gi, gk, gl, gd, gp, .slice (some ⟨gN, 0, none⟩) m.length m.length, m⟩) := set_rise _ hr1
   have hl2 := setN_len L1 ⟨gi, gk, gl, gd, gp, .slice (some ⟨gN, 0, none⟩) m.length m.length, m⟩
   have HM := Lib.hid (show ∀ z ∈ setN L1 ⟨gi, gk, gl, gd, gp, .slice (some ⟨gN, 0, none⟩) m.length m.length, m⟩, z = ⟨gi, gk, gl, gd, gp, .slice (some ⟨gN, 0, none⟩) m.length m.length, m⟩ ∨ z ∈ L1 from fun z hz => mem_setN hz)
   have HP2 := Lib.hid (HQ1.out (.slice (some ⟨gN, 0, none⟩) m.length m.length))
   have hda2 : DataP (setN L1 ⟨gi, gk, gl, gd, gp, .slice (some ⟨gN, 0, none⟩) m.length m.length, m⟩) := fun z hz => (mem_setN hz).elim (fun h => by rw [h]; exact hdG) (hda1 z)
   clear HQ1 NV5 NV1 hdG
   generalize setN L1 ⟨gi, gk, gl, gd, gp, .slice (some ⟨gN, 0, none⟩) m.length m.length, m⟩ = L2 at *
   go_wp2_with fail
   refine hS.mono ?_
   rintro e x7 ⟨v7, rfl, hnew⟩
   obtain ⟨a2, c2, rfl⟩ := own_slice hnew.1
   have b7 := hnew.2
   have hown7 := hnew.1
   have k7 := k5.trans (b7.mono k5.size)
   have bF7 := bF5.next b7
   have bA7 := bA5.next b7
   have bB7 := bB5.next b7
   have bR7 := bR5.next b7
   have bN7 := bN5.next b7
   have hz5 : w1.heap.size ≤ x5w.heap.size := k5.size
   have hB7 := hB5.trans (b7.mono hB5.size)
   have hz7 := b7.size
   clear hS hnew b7 p0 p1 p2 p3 d0 d1 d2 d3 d4 d5 x0 x1' x2 x3 x4 x5 bF5 bR5 bA5 bB5 bD5 hB5 bN5 hEN5 f0 f1 f2 f3 f4 f5 k5
   obtain ⟨_, f0, f1, f2, f3⟩ := bF7.four
   obtain ⟨w2, hw2, bF2, hg8⟩ := bF7.put4 (.int .i64 mi) (.int .i64 mb) (.int .i64 nx) (.slice a2 L2.length c2)
   have bR2 := bR7.kept hg8 (by simp; omega)
   have bA2 := bA7.kept hg8 (by simp)
   have bB2 := bB7.kept hg8 (by simp; omega)
   have hB2 := below_grown hB7 hg8 (Nat.le_refl _) (Nat.le_refl _)
   have hsz2 : w0.heap.size ≤ w2.heap.size := by have := hg8.size; omega
   have MF2 : MadeFs w0 (.slice a l.length ca) l w2 (.slice a2 L2.length c2) L2 := by
     have h7 := hown7.kept hg8 (own_not hown7 (by omega))
     have bN8 := bN7.kept hg8 (by simp; omega)
     have hK : Kept w0.heap.size w1 w2 := (Kept.of_below k7).trans (Kept.grown hg8 hF0)
     intro W hkW hvW
     have hEW := blk_ents (show Blk W gN _ _ from (hkW.2 gN (by omega) bN8.lt).trans bN8) (by unfold maxLen; omega)
     refine own_nds (own_kept h7 hkW (by omega)) fun z hz => ?_
     rcases HM.out z hz with rfl | h
     · exact hEW
     · exact (MF1 W (hK.trans hkW) hvW).all z h
   clear HM hown7 bN7 k7 bF7 bA7 bB7 bR7 hB7 MF1 bF1 bA1 bB1 bR1 hB1 hz5 hz7 hg8 hDl hRx hoB hsoK helK hshK hgN hgNl hdn
   generalize x5w.heap.size = T7 at *
   have NV2 := MF2 _ (Kept.refl _ _) (HV.out.below hB2)
   have hdG := dataP_get hda2 bd
   have hG := GetN_any mi mb nx bd L2 _ _ NV2 hr2 (by omega) hda2
   have hEG := get_ents NV2.all bd
   obtain ⟨ag, ng, cg, hgs⟩ := get_slice NV2 bd
   have hq := HP2.out
   generalize getN L2 bd = G at *
   generalize hasN L2 bd = hs2 at *
   obtain ⟨gi, gk, gl, gd, gp, ge, gn⟩ := G
   dsimp only at hgs hEG hq hdG
   subst hgs
   obtain ⟨⟨hsoK, helK, hshK⟩, hq⟩ := hq
   have HQ2 := Lib.hid hq
   clear hq HP2
   obtain ⟨⟨p0, p1, p2, p3⟩, _⟩ := bF2.four
   obtain ⟨⟨s0, s1, s2⟩, _⟩ := bA2.three
   obtain ⟨⟨t0, t1, t2⟩, _⟩ := bB2.three
   dsimp only at s0 s1 s2 t0 t1 t2
   go_wp2_with fail
   refine hG.mono ?_
   rintro e x1 ⟨rfl, b1⟩
   clear hG p0 p1 p2 p3 s0 s1 s2 t0 t1 t2
   have k1 := b1.trans ((alloc_below x1 (.cells (ndC ⟨gi, gk, gl, gd, gp, .slice ag ng cg, gn⟩) 49)).mono b1.size)
   have bD := Blk.new x1 49 (ndC ⟨gi, gk, gl, gd, gp, .slice ag ng cg, gn⟩)
   have hDl : w2.heap.size ≤ x1.heap.size := b1.size
   have hRx : w.heap.size + 1 + 1 + 1 < x1.heap.size := (bR2.next b1).lt
   have bFx := bF2.next k1
   have bAx := bA2.next k1
   have bBx := bB2.next k1
   have bRx := bR2.next k1
   replace hEG := hEG.below k1
   clear b1
   obtain ⟨⟨s0, s1, s2⟩, _⟩ := bAx.three
   obtain ⟨⟨t0, t1, t2⟩, _⟩ := bBx.three
   obtain ⟨⟨x0, x1', x2, x3, x4, x5⟩, _⟩ := bD.six
   dsimp only at s0 s1 s2 t0 t1 t2 x0 x1' x2 x3 x4 x5
   have hWi := With_any gn bn_ ai_ _ _ hEG hsoK (by omega) hshK (by omega)
   go_wp2_with fail
   refine hWi.mono ?_
   rintro e x3w ⟨gN, rfl, hgN, bN, b3⟩
   clear hWi s0 s1 s2 t0 t1 t2 x0 x1' x2 x3 x4 x5 hEG
   have hoB : x1.heap.size < (x1.alloc (.cells (ndC ⟨gi, gk, gl, gd, gp, .slice ag ng cg, gn⟩) 49)).heap.size := by simp
   replace k1 := k1.trans (b3.mono k1.size)
   replace bFx := bFx.next b3
   replace bAx := bAx.next b3
   replace bBx := bBx.next b3
   replace bRx := bRx.next b3
   replace bD := bD.next b3
   have hdn : (withB gn bn_ ai_).length ≤ 1001 := Nat.le_trans (with_len _ _ _) (by omega)
   clear b3
   generalize withB gn bn_ ai_ = m at *
   obtain ⟨⟨x0, x1', x2, x3, x4, x5⟩, f0, f1, f2, f3, f4, f5⟩ := bD.six
   dsimp only at x0 x1' x2 x3 x4 x5
   have bD5 := bD.set 5 (.slice (some ⟨gN, 0, none⟩) m.length m.length)
   rw [nd_set5 gi gk gl gd gp (.slice ag ng cg) (.slice (some ⟨gN, 0, none⟩) m.length m.length) gn m] at bD5
   have bF5 := bFx.other (B2 := x1.heap.size) (i := 5) (by omega) (.slice (some ⟨gN, 0, none⟩) m.length m.length)
   have bA5 := bAx.other (B2 := x1.heap.size) (i := 5) (by omega) (.slice (some ⟨gN, 0, none⟩) m.length m.length)
   have bB5 := bBx.other (B2 := x1.heap.size) (i := 5) (by omega) (.slice (some ⟨gN, 0, none⟩) m.length m.length)
   have bR5 := bRx.other (B2 := x1.heap.size) (i := 5) (by omega) (.slice (some ⟨gN, 0, none⟩) m.length m.length)
   have bN5 := bN.other (B2 := x1.heap.size) (i := 5) (by omega) (.slice (some ⟨gN, 0, none⟩) m.length m.length)
   have k5 := k1.setCell (p := ⟨x1.heap.size, 5, none⟩) hDl (.slice (some ⟨gN, 0, none⟩) m.length m.length)
   generalize (x1.alloc (.cells (ndC ⟨gi, gk, gl, gd, gp, .slice ag ng cg, gn⟩) 49)).heap.size = NB at *
   have hgNl : w0.heap.size ≤ gN := by omega
   generalize hw5 : World.setCell x3w ⟨x1.heap.size, 5, none⟩ (.slice (some ⟨gN, 0, none⟩) m.length m.length) = x5w at *
   clear bFx bAx bBx bRx bD k1 bN
   have hEN5 := blk_ents bN5 (by unfold maxLen; omega)
   generalize x1.heap.size = BD at *
   have hB5 := hB2.trans (k5.mono hB2.size)
   obtain ⟨⟨p0, p1, p2, p3⟩, _⟩ := bF5.four
   obtain ⟨⟨d0, d1, d2, d3, d4, d5⟩, _⟩ := bD5.six
   dsimp only at d0 d1 d2 d3 d4 d5
   have NV5 := MF2 _ (Kept.of_below k5) (HV.out.below hB5)
   have hS := SetN_any mi mb nx L2 ⟨gi, gk, gl, gd, gp, .slice (some ⟨gN, 0, none⟩) m.length m.length, m⟩ _ _ NV5 hEN5 hr2 (by omega) hda2 hdG
   have hr3 : riseP (setN L2 ⟨gi, gk, gl, gd, gp, .slice (some ⟨gN, 0, none⟩) m.length m.length, m⟩) := set_rise _ hr2
   have hl3 := setN_len L2 ⟨gi, gk, gl, gd, gp, .slice (some ⟨gN, 0, none⟩) m.length m.length, m⟩
   have HM := Lib.hid (show ∀ z ∈ setN L2 ⟨gi, gk, gl, gd, gp, .slice (some ⟨gN, 0, none⟩) m.length m.length, m⟩, z = ⟨gi, gk, gl, gd, gp, .slice (some ⟨gN, 0, none⟩) m.length m.length, m⟩ ∨ z ∈ L2 from fun z hz => mem_setN hz)
   have HP3 := Lib.hid (HQ2.out (.slice (some ⟨gN, 0, none⟩) m.length m.length))
   have hda3 : DataP (setN L2 ⟨gi, gk, gl, gd, gp, .slice (some ⟨gN, 0, none⟩) m.length m.length, m⟩) := fun z hz => (mem_setN hz).elim (fun h => by rw [h]; exact hdG) (hda2 z)
   clear HQ2 NV5 NV2 hdG
   generalize setN L2 ⟨gi, gk, gl, gd, gp, .slice (some ⟨gN, 0, none⟩) m.length m.length, m⟩ = L3 at *
   go_wp2_with fail
   refine hS.mono ?_
   rintro e x7 ⟨v7, rfl, hnew⟩
   obtain ⟨a3, c3, rfl⟩ := own_slice hnew.1
   have b7 := hnew.2
   have hown7 := hnew.1
   have k7 := k5.trans (b7.mono k5.size)
   have bF7 := bF5.next b7
   have bA7 := bA5.next b7
   have bB7 := bB5.next b7
   have bR7 := bR5.next b7
   have bN7 := bN5.next b7
   have hz5 : w2.heap.size ≤ x5w.heap.size := k5.size
   have hB7 := hB5.trans (b7.mono hB5.size)
   have hz7 := b7.size
   clear hS hnew b7 p0 p1 p2 p3 d0 d1 d2 d3 d4 d5 x0 x1' x2 x3 x4 x5 bF5 bR5 bA5 bB5 bD5 hB5 bN5 hEN5 f0 f1 f2 f3 f4 f5 k5
   obtain ⟨_, f0, f1, f2, f3⟩ := bF7.four
   obtain ⟨w3, hw3, bF3, hg8⟩ := bF7.put4 (.int .i64 mi) (.int .i64 mb) (.int .i64 nx) (.slice a3 L3.length c3)
   have bR3 := bR7.kept hg8 (by simp; omega)
   have bA3 := bA7.kept hg8 (by simp)
   have bB3 := bB7.kept hg8 (by simp; omega)
   have hB3 := below_grown hB7 hg8 (Nat.le_refl _) (Nat.le_refl _)
   have hsz3 : w0.heap.size ≤ w3.heap.size := by have := hg8.size; omega
   have MF3 : MadeFs w0 (.slice a l.length ca) l w3 (.slice a3 L3.length c3) L3 := by
     have h7 := hown7.kept hg8 (own_not hown7 (by omega))
     have bN8 := bN7.kept hg8 (by simp; omega)
     have hK : Kept w0.heap.size w2 w3 := (Kept.of_below k7).trans (Kept.grown hg8 hF0)
     intro W hkW hvW
     have hEW := blk_ents (show Blk W gN _ _ from (hkW.2 gN (by omega) bN8.lt).trans bN8) (by unfold maxLen; omega)
     refine own_nds (own_kept h7 hkW (by omega)) fun z hz => ?_
     rcases HM.out z hz with rfl | h
     · exact hEW
     · exact (MF2 W (hK.trans hkW) hvW).all z h
   clear HM hown7 bN7 k7 bF7 bA7 bB7 bR7 hB7 MF2 bF2 bA2 bB2 bR2 hB2 hz5 hz7 hg8 hDl hRx hoB hsoK helK hshK hgN hgNl hdn
   generalize x5w.heap.size = T7 at *
   obtain ⟨f1, f2, hmv⟩ := HP3.out
   have NV3 := MF3 _ (Kept.refl _ _) (HV.out.below hB3)
   have hdG := dataP_get hda3 ai_
   have hG := GetN_any mi mb nx ai_ L3 _ _ NV3 hr3 (by omega) hda3
   have HEX := Lib.hid (fun W (h : EntsAll W L3) => get_ents h ai_)
   obtain ⟨ax, nxx, cx, hxs⟩ := get_slice NV3 ai_
   clear HP3
   generalize getN L3 ai_ = X at *
   generalize hasN L3 ai_ = hs9 at *
   obtain ⟨xi, xk, xl, xd, xp, xe, xn⟩ := X
   dsimp only at hxs hmv hdG
   subst hxs
   have HMV := Lib.hid hmv
   clear hmv
   obtain ⟨⟨p0, p1, p2, p3⟩, _⟩ := bF3.four
   obtain ⟨⟨s0, s1, s2⟩, _⟩ := bA3.three
   dsimp only at s0 s1 s2
   go_wp2_with fail
   refine hG.mono ?_
   rintro e x1 ⟨rfl, b1⟩
   clear hG p0 p1 p2 p3 s0 s1 s2
   have k1 := b1.trans ((alloc_below x1 (.cells (ndC ⟨xi, xk, xl, xd, xp, .slice ax nxx cx, xn⟩) 49)).mono b1.size)
   have bX := Blk.new x1 49 (ndC ⟨xi, xk, xl, xd, xp, .slice ax nxx cx, xn⟩)
   have hDl : w3.heap.size ≤ x1.heap.size := b1.size
   have hRx : w.heap.size + 1 + 1 + 1 < x1.heap.size := (bR3.next b1).lt
   have bFx := bF3.next k1
   have bBx := bB3.next k1
   have bRx := bR3.next k1
   have hBx := hB3.trans (k1.mono hB3.size)
   clear b1
   have hsz0 : w.heap.size ≤ w0.heap.size := by omega
   obtain ⟨⟨x0, x1', x2, x3, x4, x5⟩, f0, f1', f2', f3, f4, f5⟩ := bX.six
   dsimp only at x0 x1' x2 x3 x4 x5
   go_upto_if 62 with (fail)
   generalize hx2 : x1.alloc (.cells (ndC ⟨xi, xk, xl, xd, xp, .slice ax nxx cx, xn⟩) 49) = x2w at *
   clear hx2
   by_cases hk : xk = 2
   case neg =>
     have h2 := HMV.out
     rw [if_neg hk] at h2
     have HN := Lib.hid h2
     clear HMV h2
     obtain ⟨⟨p0, p1, p2, p3⟩, _⟩ := bFx.four
     obtain ⟨⟨r0, r1, r2, r3⟩, e0, e1, e2, e3⟩ := bRx.four
     obtain ⟨W', hW', hb4, hg4⟩ := bRx.put4 (.int .i64 mi) (.int .i64 mb) (.int .i64 nx) (.slice a3 L3.length c3)
     have hbl := below_grown hBx hg4 (Nat.le_refl _) (by omega)
     have hM := MF3.up (w := w) (w' := W') hsz0 ((Kept.of_below k1).trans (Kept.grown hg4 hRl))
     go_wp2
     obtain ⟨⟨y0, y1, y2, y3⟩, _⟩ := hb4.four
     refine bodyPost_ret (v := .agg (fsC mi mb nx (.slice a3 L3.length c3))) (by simp [results, Tryz.f82, go_sem, y0, y1, y2, y3]) rfl ?_
     exact ⟨_, ev, f1, f2, rfl, by rw [HLL.out, HN.out]; exact hM, hbl⟩
   have h2 := HMV.out
   rw [if_pos hk] at h2
   subst hk
   have HN0 := Lib.hid h2
   clear HMV h2
   have bX5 := bX.set 4 (.int .i64 bd)
   rw [nd_set4] at bX5
   have bF5 := bFx.other (B2 := x1.heap.size) (i := 4) (by omega) (.int .i64 bd)
   have bR5 := bRx.other (B2 := x1.heap.size) (i := 4) (by omega) (.int .i64 bd)
   have k5 := k1.setCell (p := ⟨x1.heap.size, 4, none⟩) hDl (.int .i64 bd)
   obtain ⟨⟨t0, t1, t2⟩, _⟩ := bBx.three
   dsimp only at t0 t1 t2
   generalize hw5 : World.setCell x2w ⟨x1.heap.size, 4, none⟩ (.int .i64 bd) = x5w at *
   clear bFx bBx bRx bX k1 hBx
   have hB5 := hB3.trans (k5.mono hB3.size)
   obtain ⟨⟨p0, p1, p2, p3⟩, _⟩ := bF5.four
   obtain ⟨⟨d0, d1, d2, d3, d4, d5⟩, _⟩ := bX5.six
   dsimp only at d0 d1 d2 d3 d4 d5
   have NV5 := MF3 _ (Kept.of_below k5) (HV.out.below hB5)
   have hS := SetN_any mi mb nx L3 ⟨xi, 2, xl, xd, bd, .slice ax nxx cx, xn⟩ _ _ NV5 (HEX.out _ NV5.all) hr3 (by omega) hda3 hdG
   have HM := Lib.hid (show ∀ z ∈ setN L3 ⟨xi, 2, xl, xd, bd, .slice ax nxx cx, xn⟩, z = ⟨xi, 2, xl, xd, bd, .slice ax nxx cx, xn⟩ ∨ z ∈ L3 from fun z hz => mem_setN hz)
   clear NV5 NV3
   generalize setN L3 ⟨xi, 2, xl, xd, bd, .slice ax nxx cx, xn⟩ = L4 at *
   go_wp2_with fail
   refine hS.mono ?_
   rintro e x7 ⟨v7, rfl, hnew⟩
   obtain ⟨a4, c4, rfl⟩ := own_slice hnew.1
   have b7 := hnew.2
   have hown7 := hnew.1
   have k7 := k5.trans (b7.mono k5.size)
   have bF7 := bF5.next b7
   have bR7 := bR5.next b7
   have hz5 : w3.heap.size ≤ x5w.heap.size := k5.size
   have hB7 := hB5.trans (b7.mono hB5.size)
   clear hS hnew b7 p0 p1 p2 p3 d0 d1 d2 d3 d4 d5 x0 x1' x2 x3 x4 x5 t0 t1 t2 bF5 bR5 bX5 hB5 f0 f1' f2' f3 f4 f5 k5
   obtain ⟨_, f0, f1', f2', f3⟩ := bF7.four
   obtain ⟨w4, hw4, bF4, hg8⟩ := bF7.put4 (.int .i64 mi) (.int .i64 mb) (.int .i64 nx) (.slice a4 L4.length c4)
   have bR4 := bR7.kept hg8 (by simp; omega)
   have hB4 := below_grown hB7 hg8 (Nat.le_refl _) (Nat.le_refl _)
   have MF4 : MadeFs w0 (.slice a l.length ca) l w4 (.slice a4 L4.length c4) L4 := by
     have h7 := hown7.kept hg8 (own_not hown7 (by omega))
     have hK : Kept w0.heap.size w3 w4 := (Kept.of_below k7).trans (Kept.grown hg8 hF0)
     intro W hkW hvW
     have hAll := (MF3 W (hK.trans hkW) hvW).all
     refine own_nds (own_kept h7 hkW (by omega)) fun z hz => ?_
     rcases HM.out z hz with rfl | h
     · exact HEX.out W hAll
     · exact hAll z h
   clear HM hown7 k7 bF7 bR7 hB7 hg8
   obtain ⟨⟨p0, p1, p2, p3⟩, _⟩ := bF4.four
   obtain ⟨⟨r0, r1, r2, r3⟩, e0, e1, e2, e3⟩ := bR4.four
   obtain ⟨W', hW', hb4, hg4⟩ := bR4.put4 (.int .i64 mi) (.int .i64 mb) (.int .i64 nx) (.slice a4 L4.length c4)
   have hbl := below_grown hB4 hg4 (Nat.le_refl _) (by omega)
   have hM := MF4.up (w := w) (w' := W') hsz0 (Kept.grown hg4 hRl)
   go_wp2
   obtain ⟨⟨y0, y1, y2, y3⟩, _⟩ := hb4.four
   refine bodyPost_ret (v := .agg (fsC mi mb nx (.slice a4 L4.length c4))) (by simp [results, Tryz.f82, go_sem, y0, y1, y2, y3]) rfl ?_
   exact ⟨_, ev, f1, f2, rfl, by rw [HLL.out, HN0.out]; exact hM, hbl⟩
set_option maxHeartbeats 4000000 in
theorem Move_any (mi mb nx : Int) (l : List Nd) (A B : Sp) (v : Value) (w : World) (hv : Nds w v l) (hok : OkS mi mb nx l) (hB : B.ino ≠ 0 → Gone l B.dir B.name B.ino) (hM : ∀ ev, Mv (tL l B ev) A.dir A.name A.ino B.dir B.name) :
    Calls Tryz.prog 82 #[.agg (fsC mi mb nx v), .agg (spC A), .agg (spC B)] w fun e w' => ∃ y ev e1 e2, e = .returned (.agg (fsC mi mb nx y)) ∧ MadeFs w v l w' y (mvL (tL l B ev) A.dir A.name A.ino B.dir B.name e1 e2) ∧ Below w.heap.size w w' :=
  MoveS_any mi mb nx l A B v w hv hok hB (may_len (hM (.slice none 0 0)).may) (mv_fine hok hB)
end Go.Proofs.YtkdmfeikikmiiaaGreat
