/- Walks: the program's found, Link, Unlink and Rmdir. -/
import Derived.Test.YtkdmfeikikmiiaaGreatVWalkO12
import Derived.Test.YtkdmfeikikmiiaaGreatVWalkP11
import Derived.RegionTactic
import Derived.ChangeAlike
set_option linter.unusedVariables false
set_option linter.unusedSimpArgs false
namespace Go.Proofs.YtkdmfeikikmiiaaGreat
open Go.RowKit
/-- Where a path leads, its last name not followed, and what is there. -/
def foundF (l : List Nd) (base p : List UInt8) : (Sp × Nd) × Int :=
  if (seekP l base p false).2 ≠ 0 then ((zeroS, zeroN), (seekP l base p false).2)
  else if (seekP l base p false).1.ino = 0 then ((zeroS, zeroN), 1)
  else (((seekP l base p false).1, getN l (seekP l base p false).1.ino), 0)
theorem found_slice {w : World} {v : Value} {l : List Nd} (h : Nds w v l) (base p : List UInt8) : ∃ a n c, (foundF l base p).1.2.ev = .slice a n c := by
  unfold foundF
  split
  · exact ⟨_, _, _, rfl⟩
  split
  · exact ⟨_, _, _, rfl⟩
  · exact get_slice h _
theorem found_ents {w : World} {l : List Nd} (h : EntsAll w l) (base p : List UInt8) : Ents w (foundF l base p).1.2.ev (foundF l base p).1.2.ents := by
  unfold foundF
  split
  · exact Ents.nil_ w
  split
  · exact Ents.nil_ w
  · exact get_ents h _
theorem found_name (l : List Nd) (base p : List UInt8) : (foundF l base p).1.1.name.length ≤ 255 := by
  unfold foundF
  split
  · exact Nat.zero_le _
  split
  · exact Nat.zero_le _
  · exact seek_short l base p false
theorem found_ok {l : List Nd} {base p : List UInt8} (h0 : (foundF l base p).2 = 0) : (seekP l base p false).2 = 0 ∧ (seekP l base p false).1.ino ≠ 0 ∧ foundF l base p = (((seekP l base p false).1, getN l (seekP l base p false).1.ino), 0) := by
  unfold foundF at h0 ⊢
  split at h0
  · rename_i c; exact absurd h0 c
  rename_i c1
  split at h0
  · cases h0
  rename_i c2
  exact ⟨by simpa using c1, c2, by rw [if_neg c1, if_neg c2]⟩
theorem found_leaf {mi mb nx : Int} {l : List Nd} (hs : SoundP mi mb nx l) {base p : List UInt8} (h0 : (foundF l base p).2 = 0) (hk : (foundF l base p).1.2.kind ≠ 2) : Gone l (foundF l base p).1.1.dir (foundF l base p).1.1.name (foundF l base p).1.1.ino := by
  obtain ⟨h1, h2, h3⟩ := found_ok h0
  rw [h3] at hk ⊢
  have p1 := (seek_spot hs base p false).1 h1
  exact spot_gone hs p1 h2 (fun e => hk (dir_parts (p1.bare e).1).2) (leaf_bare hs (spot_has hs p1 h2) hk)
theorem found_bare {mi mb nx : Int} {l : List Nd} (hs : SoundP mi mb nx l) {base p : List UInt8} (h0 : (foundF l base p).2 = 0) (hn : (foundF l base p).1.1.name ≠ []) (hb : (foundF l base p).1.2.ents = []) : Gone l (foundF l base p).1.1.dir (foundF l base p).1.1.name (foundF l base p).1.1.ino := by
  obtain ⟨h1, h2, h3⟩ := found_ok h0
  rw [h3] at hn hb ⊢
  exact spot_gone hs ((seek_spot hs base p false).1 h1) h2 hn hb
theorem found_given {mi mb nx : Int} {l : List Nd} (hs : SoundP mi mb nx l) {base p q : List UInt8} (h0 : (foundF l base p).2 = 0) (hk : (foundF l base p).1.2.kind ≠ 2) (h4 : (seekP l base q false).2 = 0) (h5 : (seekP l base q false).1.ino = 0) (h6 : mayB (seekP l base q false).1.name = true) : Given l (seekP l base q false).1.dir (seekP l base q false).1.name (foundF l base p).1.2.ino := by
  obtain ⟨h1, h2, h3⟩ := found_ok h0
  rw [h3] at hk ⊢
  have hh := spot_has hs ((seek_spot hs base p false).1 h1) h2
  have hin := (get_mem hh).2
  obtain ⟨g1, _, g3⟩ := ((seek_spot hs base q false).1 h4).entry (mayB_good h6).2
  refine ⟨g1, by rw [g3, h5]; rfl, h6, ?_, ?_⟩
  · show hasN l (getN l _).ino = true
    rw [hin]; exact hh
  · show (getN l (getN l _).ino).kind ≠ 2
    rw [hin]; exact hk
theorem unlink_found (l : List Nd) (base p : List UInt8) (ev : Value) : unlinkF l base p ev = if (foundF l base p).2 ≠ 0 then (l, (foundF l base p).2) else if (foundF l base p).1.2.kind = 2 then (l, 4) else (unL l (foundF l base p).1.1.dir (foundF l base p).1.1.name (foundF l base p).1.1.ino ev, 0) := by
  unfold unlinkF foundF
  by_cases h1 : (seekP l base p false).2 ≠ 0
  · simp only [if_pos h1]
  by_cases h2 : (seekP l base p false).1.ino = 0
  · simp only [if_neg h1, if_pos h2]; rfl
  · simp only [if_neg h1, if_neg h2]; rfl
theorem rmdir_found (l : List Nd) (base p : List UInt8) (ev : Value) : rmdirF l base p ev = if (foundF l base p).2 ≠ 0 then (l, (foundF l base p).2) else if (foundF l base p).1.2.kind ≠ 2 then (l, 3) else if (foundF l base p).1.2.ino = 1 then (l, 10) else if (foundF l base p).1.1.name = [] then (l, 9) else if (foundF l base p).1.2.ents.length > 0 then (l, 5) else (unL l (foundF l base p).1.1.dir (foundF l base p).1.1.name (foundF l base p).1.1.ino ev, 0) := by
  unfold rmdirF foundF
  by_cases h1 : (seekP l base p false).2 ≠ 0
  · simp only [if_pos h1]
  by_cases h2 : (seekP l base p false).1.ino = 0
  · simp only [if_neg h1, if_pos h2]; rfl
  · simp only [if_neg h1, if_neg h2]; rfl
theorem link_found (l : List Nd) (base src dst : List UInt8) (ev : Value) : linkF l base src dst ev = if (foundF l base src).2 ≠ 0 then (l, (foundF l base src).2) else if (foundF l base src).1.2.kind = 2 then (l, 11) else if (seekP l base dst false).2 ≠ 0 then (l, (seekP l base dst false).2) else if (seekP l base dst false).1.ino ≠ 0 then (l, 2) else if slashB dst = true then (l, 1) else if mayB (seekP l base dst false).1.name = false then (l, 9) else (naL l (seekP l base dst false).1.dir (seekP l base dst false).1.name (foundF l base src).1.2.ino ev, 0) := by
  unfold linkF foundF
  by_cases h1 : (seekP l base src false).2 ≠ 0
  · simp only [if_pos h1]
  by_cases h2 : (seekP l base src false).1.ino = 0
  · simp only [if_neg h1, if_pos h2]; rfl
  · simp only [if_neg h1, if_neg h2]; rfl
set_option maxHeartbeats 8000000 in
set_option maxRecDepth 100000 in
theorem found_any (mi mb nx : Int) (l : List Nd) (base p : List UInt8) (v : Value) (w : World) (hv : Nds w v l) (hok : OkS mi mb nx l) (hb : base.length ≤ 20000) (hp : p.length ≤ 20000) :
    Calls Tryz.prog 76 #[.agg (fsC mi mb nx v), .string ⟨base.toArray⟩, .string ⟨p.toArray⟩] w fun e w' => e = .returned (.tuple #[.agg (spC (foundF l base p).1.1), .agg (ndC (foundF l base p).1.2), .int .i64 (foundF l base p).2]) ∧ Below w.heap.size w w' := by
  obtain ⟨a, ca, rfl⟩ := nds_slice hv
  have bF := ((Blk.new w 28 (fsC mi mb nx (.slice a l.length ca))).alloc (.cells (spC zeroS) 81)).alloc (.cells #[.int .i64 0, .int .i64 0, .int .i64 0, .string ⟨#[]⟩, .int .i64 0, .slice none 0 0] 49)
  have bR := (Blk.new (w.alloc (.cells (fsC mi mb nx (.slice a l.length ca)) 28)) 81 (spC zeroS)).alloc (.cells #[.int .i64 0, .int .i64 0, .int .i64 0, .string ⟨#[]⟩, .int .i64 0, .slice none 0 0] 49)
  have bQ : Blk (((w.alloc (.cells (fsC mi mb nx (.slice a l.length ca)) 28)).alloc (.cells (spC zeroS) 81)).alloc (.cells #[.int .i64 0, .int .i64 0, .int .i64 0, .string ⟨#[]⟩, .int .i64 0, .slice none 0 0] 49)) _ 49 (ndC zeroN) := Blk.new ((w.alloc (.cells (fsC mi mb nx (.slice a l.length ca)) 28)).alloc (.cells (spC zeroS) 81)) 49 (ndC zeroN)
  have hB := (((Below.refl w.heap.size w).alloc (Nat.le_refl _) (.cells (fsC mi mb nx (.slice a l.length ca)) 28)).alloc (by simp) (.cells (spC zeroS) 81)).alloc (by simp; omega) (.cells #[.int .i64 0, .int .i64 0, .int .i64 0, .string ⟨#[]⟩, .int .i64 0, .slice none 0 0] 49)
  simp only [World.size_alloc] at bR bQ
  have HV := Lib.hid hv
  have hSk := Seek_any mi mb nx l base p false _ _ (hv.below hB) hok hb hp
  have hl0 : w.heap.size + 3 ≤ (((w.alloc (.cells (fsC mi mb nx (.slice a l.length ca)) 28)).alloc (.cells (spC zeroS) 81)).alloc (.cells #[.int .i64 0, .int .i64 0, .int .i64 0, .string ⟨#[]⟩, .int .i64 0, .slice none 0 0] 49)).heap.size := by simp
  have hHas : (seekP l base p false).2 = 0 → hasN l (seekP l base p false).1.ino = decide ((seekP l base p false).1.ino ≠ 0) := fun h => by
    by_cases h0 : (seekP l base p false).1.ino = 0
    · rw [h0, no_zero hok]; rfl
    · rw [decide_eq_true h0]; exact spot_has (sound_of hok.check) ((seek_spot (sound_of hok.check) base p false).1 h) h0
  have hGX := fun w' (h : Nds w' (.slice a l.length ca) l) => GetN_any mi mb nx (seekP l base p false).1.ino l _ w' h hok.calm.rise (by have := hok.calm.len; omega) (calm_data hok.calm)
  have hF : foundF l base p = foundF l base p := rfl
  conv at hF => rhs; unfold foundF
  obtain ⟨ag, ng, cg, hgs⟩ := get_slice hv (seekP l base p false).1.ino
  generalize seekP l base p false = Q at *
  obtain ⟨⟨qa, qb, qc⟩, qe⟩ := Q
  dsimp only at hF hSk hGX hHas hgs
  generalize hasN l qc = r at *
  generalize getN l qc = G at *
  obtain ⟨gi, gk, gl, gd, gp, ge, gn⟩ := G
  dsimp only at hgs
  subst hgs
  generalize foundF l base p = F at *
  have HF := Lib.hid hF
  have HHas := Lib.hid hHas
  clear hF hv hHas hok
  obtain ⟨⟨p0, p1, p2, p3⟩, _⟩ := bF.four
  go_enter Tryz.func76, Tryz.ntmps76
  go_wp2_with fail
  refine hSk.mono ?_
  rintro e w1 ⟨rfl, b1⟩
  clear hSk p0 p1 p2 p3
  have hl1 := Nat.le_trans hl0 b1.size
  have b2 := b1.trans ((alloc_below w1 (.cells (spC ⟨qa, qb, qc⟩) 81)).mono b1.size)
  have bS := Blk.new w1 81 (spC ⟨qa, qb, qc⟩)
  replace bF := bF.next b2
  replace bR := bR.next b2
  replace bQ := bQ.next b2
  replace hB := hB.trans (b2.mono hB.size)
  clear b1 b2
  obtain ⟨⟨p0, p1, p2, p3⟩, _⟩ := bF.four
  obtain ⟨⟨s0, s1, s2⟩, _⟩ := bS.three
  dsimp only at s0 s1 s2
  go_wp2_with fail
  refine (hGX _ (HV.out.below hB)).mono ?_
  rintro e w2 ⟨rfl, b1⟩
  clear hGX p0 p1 p2 p3 s0 s1 s2
  have hXl : w1.heap.size < w2.heap.size := (bS.next b1).lt
  have b2 := b1.trans ((alloc_below w2 (.cells (ndC ⟨gi, gk, gl, gd, gp, .slice ag ng cg, gn⟩) 49)).mono b1.size)
  have bX := Blk.new w2 49 (ndC ⟨gi, gk, gl, gd, gp, .slice ag ng cg, gn⟩)
  replace bS := bS.next b2
  have bR2 := bR.next b2
  have bQ2 := bQ.next b2
  have hB2 := hB.trans (b2.mono hB.size)
  clear b1 b2 bF bR bQ hB
  obtain ⟨⟨s0, s1, s2⟩, _⟩ := bS.three
  dsimp only at s0 s1 s2
  obtain ⟨⟨r0, r1, r2⟩, e0, e1, e2⟩ := bR2.three
  obtain ⟨⟨q0, q1, q2, q3, q4, q5⟩, f0, f1, f2, f3, f4, f5⟩ := bQ2.six
  obtain ⟨⟨x0, x1, x2, x3, x4, x5⟩, _⟩ := bX.six
  dsimp only at x0 x1 x2 x3 x4 x5
  by_cases he : qe = 0
  case neg =>
    have HN : Hid (F = ((zeroS, zeroN), qe)) := by show _ = _; rw [HF.out, if_pos he]
    clear HF HHas
    obtain ⟨W1, hW1, hb3, hg3⟩ := bR2.put3 (.int .i64 0) (.string ⟨#[]⟩) (.int .i64 0)
    have bQ3 := bQ2.kept hg3 (by simp)
    obtain ⟨W2, hW2, hb6, hg6⟩ := bQ3.put6 ⟨0, 0, 0, [], 0, .slice none 0 0, []⟩
    have hR3 := hb3.kept hg6 (by simp)
    have hbl := below_grown (below_grown hB2 hg3 (Nat.le_refl _) (by omega)) hg6 (Nat.le_refl _) (by omega)
    dsimp only at hW2
    obtain ⟨⟨z0, z1, z2, z3, z4, z5⟩, g0, g1, g2, g3, g4, g5⟩ := bQ3.six
    simp only [zeroN] at q0 q1 q2 q3 q4 q5 z0 z1 z2 z3 z4 z5
    go_wp2
    obtain ⟨⟨t0, t1, t2⟩, _⟩ := hR3.three
    obtain ⟨⟨u0, u1, u2, u3, u4, u5⟩, _⟩ := hb6.six
    dsimp only at u0 u1 u2 u3 u4 u5
    refine bodyPost_ret (v := .tuple #[.agg (spC ⟨0, [], 0⟩), .agg (ndC ⟨0, 0, 0, [], 0, .slice none 0 0, []⟩), .int .i64 qe]) (by simp [results, Tryz.f76, go_sem, t0, t1, t2, u0, u1, u2, u3, u4, u5]) rfl ?_
    exact ⟨by rw [HN.out] <;> rfl, hbl⟩
  subst he
  by_cases hc : qc = 0
  case pos =>
    have HN : Hid (F = ((zeroS, zeroN), 1)) := by show _ = _; rw [HF.out, if_neg (by simp), if_pos hc]
    have hr : r = false := by rw [HHas.out rfl, hc]; rfl
    subst hr
    clear HF HHas
    obtain ⟨W1, hW1, hb3, hg3⟩ := bR2.put3 (.int .i64 0) (.string ⟨#[]⟩) (.int .i64 0)
    have bQ3 := bQ2.kept hg3 (by simp)
    obtain ⟨W2, hW2, hb6, hg6⟩ := bQ3.put6 ⟨0, 0, 0, [], 0, .slice none 0 0, []⟩
    have hR3 := hb3.kept hg6 (by simp)
    have hbl := below_grown (below_grown hB2 hg3 (Nat.le_refl _) (by omega)) hg6 (Nat.le_refl _) (by omega)
    dsimp only at hW2
    obtain ⟨⟨z0, z1, z2, z3, z4, z5⟩, g0, g1, g2, g3, g4, g5⟩ := bQ3.six
    simp only [zeroN] at q0 q1 q2 q3 q4 q5 z0 z1 z2 z3 z4 z5
    go_wp2
    obtain ⟨⟨t0, t1, t2⟩, _⟩ := hR3.three
    obtain ⟨⟨u0, u1, u2, u3, u4, u5⟩, _⟩ := hb6.six
    dsimp only at u0 u1 u2 u3 u4 u5
    refine bodyPost_ret (v := .tuple #[.agg (spC ⟨0, [], 0⟩), .agg (ndC ⟨0, 0, 0, [], 0, .slice none 0 0, []⟩), .int .i64 1]) (by simp [results, Tryz.f76, go_sem, t0, t1, t2, u0, u1, u2, u3, u4, u5]) rfl ?_
    exact ⟨by rw [HN.out] <;> rfl, hbl⟩
  have hr : r = true := by rw [HHas.out rfl]; exact decide_eq_true hc
  have HN : Hid (F = ((⟨qa, qb, qc⟩, ⟨gi, gk, gl, gd, gp, .slice ag ng cg, gn⟩), 0)) := by show _ = _; rw [HF.out, if_neg (by simp), if_neg hc]
  subst hr
  clear HF HHas hc
  obtain ⟨W1, hW1, hb3, hg3⟩ := bR2.put3 (.int .i64 qa) (.string ⟨qb.toArray⟩) (.int .i64 qc)
  have bQ3 := bQ2.kept hg3 (by simp)
  obtain ⟨W2, hW2, hb6, hg6⟩ := bQ3.put6 ⟨gi, gk, gl, gd, gp, .slice ag ng cg, gn⟩
  have hR3 := hb3.kept hg6 (by simp)
  have hbl := below_grown (below_grown hB2 hg3 (Nat.le_refl _) (by omega)) hg6 (Nat.le_refl _) (by omega)
  dsimp only at hW2
  obtain ⟨⟨y0, y1, y2, y3, y4, y5⟩, _⟩ := (bX.kept hg3 (by simp; omega)).six
  obtain ⟨⟨z0, z1, z2, z3, z4, z5⟩, g0, g1, g2, g3, g4, g5⟩ := bQ3.six
  dsimp only at y0 y1 y2 y3 y4 y5
  simp only [zeroN] at q0 q1 q2 q3 q4 q5 z0 z1 z2 z3 z4 z5
  go_upto_region 7 with fail
  go_region
  go_wp2
  have hd := (Below.refl W2.heap.size W2).drew
  obtain ⟨⟨t0, t1, t2⟩, _⟩ := (hR3.next hd).three
  obtain ⟨⟨u0, u1, u2, u3, u4, u5⟩, _⟩ := (hb6.next hd).six
  dsimp only at u0 u1 u2 u3 u4 u5
  refine bodyPost_ret (v := .tuple #[.agg (spC ⟨qa, qb, qc⟩), .agg (ndC ⟨gi, gk, gl, gd, gp, .slice ag ng cg, gn⟩), .int .i64 0]) (by simp [results, Tryz.f76, go_sem, t0, t1, t2, u0, u1, u2, u3, u4, u5]) rfl ?_
  exact ⟨by rw [HN.out] <;> rfl, hbl.drew⟩
set_option maxHeartbeats 8000000 in
set_option maxRecDepth 100000 in
theorem Unlink_any (mi mb nx : Int) (l : List Nd) (base p : List UInt8) (v : Value) (w : World) (hv : Nds w v l) (hok : OkS mi mb nx l) (hb : base.length ≤ 20000) (hp : p.length ≤ 20000) :
    Calls Tryz.prog 44 #[.agg (fsC mi mb nx v), .string ⟨base.toArray⟩, .string ⟨p.toArray⟩] w fun e w' => ∃ y ev, e = .returned (.tuple #[.agg (fsC mi mb nx y), .int .i64 (unlinkF l base p ev).2]) ∧ MadeFs w v l w' y (unlinkF l base p ev).1 ∧ Below w.heap.size w w' := by
  obtain ⟨a, ca, rfl⟩ := nds_slice hv
  have bF := (Blk.new w 28 (fsC mi mb nx (.slice a l.length ca))).alloc (.cells (fsC 0 0 0 (.slice none 0 0)) 28)
  have bR := Blk.new (w.alloc (.cells (fsC mi mb nx (.slice a l.length ca)) 28)) 28 (fsC 0 0 0 (.slice none 0 0))
  have hB := ((Below.refl w.heap.size w).alloc (Nat.le_refl _) (.cells (fsC mi mb nx (.slice a l.length ca)) 28)).alloc (by simp) (.cells (fsC 0 0 0 (.slice none 0 0)) 28)
  simp only [World.size_alloc] at bR
  have HV := Lib.hid hv
  have hso := sound_of hok.check
  have hFd := found_any mi mb nx l base p _ _ (hv.below hB) hok hb hp
  have hF := fun ev => unlink_found l base p ev
  have hxs := found_slice hv base p
  have hEG := fun W (h : EntsAll W l) => found_ents h base p
  have hnm := found_name l base p
  have hUn := fun (h0 : (foundF l base p).2 = 0) (hk : (foundF l base p).1.2.kind ≠ 2) w' (h : Nds w' (.slice a l.length ca) l) => Unname_any mi mb nx l (foundF l base p).1.1 _ w' h hok (found_leaf hso h0 hk) hnm
  generalize foundF l base p = F at *
  obtain ⟨⟨⟨qa, qb, qc⟩, ⟨xi, xk, xl, xd, xp, xe, xn⟩⟩, fe⟩ := F
  dsimp only at hF hFd hxs hEG hnm hUn
  obtain ⟨ax, nxx, cx, rfl⟩ := hxs
  have hxn : nxx = xn.length := by
    obtain ⟨a2, c2, e2, _⟩ := hEG _ (HV.out).all
    simp only [Value.slice.injEq] at e2
    exact e2.2.1
  subst hxn
  have HF := Lib.hid hF
  clear hF hv hEG hso
  obtain ⟨⟨p0, p1, p2, p3⟩, _⟩ := bF.four
  go_enter Tryz.func44, Tryz.ntmps44
  go_wp2_with fail
  refine hFd.mono ?_
  rintro e w1 ⟨rfl, b1⟩
  clear hFd p0 p1 p2 p3
  have b2 := alloc_below w1 (.cells (spC ⟨qa, qb, qc⟩) 81)
  have b3 := alloc_below (w1.alloc (.cells (spC ⟨qa, qb, qc⟩) 81)) (.cells (ndC ⟨xi, xk, xl, xd, xp, .slice ax xn.length cx, xn⟩) 49)
  have b4 := b1.trans ((b2.trans (b3.mono b2.size)).mono b1.size)
  have bS := (Blk.new w1 81 (spC ⟨qa, qb, qc⟩)).next b3
  have bX := Blk.new (w1.alloc (.cells (spC ⟨qa, qb, qc⟩) 81)) 49 (ndC ⟨xi, xk, xl, xd, xp, .slice ax xn.length cx, xn⟩)
  simp only [World.size_alloc] at bX
  replace bF := bF.next b4
  replace bR := bR.next b4
  replace hB := hB.trans (b4.mono hB.size)
  clear b1 b2 b3 b4
  obtain ⟨⟨p0, p1, p2, p3⟩, _⟩ := bF.four
  obtain ⟨⟨s0, s1, s2⟩, _⟩ := bS.three
  obtain ⟨⟨x0, x1, x2, x3, x4, x5⟩, _⟩ := bX.six
  dsimp only at s0 s1 s2 x0 x1 x2 x3 x4 x5
  by_cases he : fe = 0
  case neg =>
    have HN : Hid (∀ ev, unlinkF l base p ev = (l, fe)) := fun ev => by rw [HF.out ev, if_pos he]
    clear HF hUn 
    obtain ⟨⟨r0, r1, r2, r3⟩, e0, e1, e2, e3⟩ := bR.four
    obtain ⟨W', hW', hb4, hg4⟩ := bR.put4 (.int .i64 mi) (.int .i64 mb) (.int .i64 nx) (.slice a l.length ca)
    have hbl := below_grown hB hg4 (Nat.le_refl _) (by omega)
    go_wp2
    obtain ⟨⟨y0, y1, y2, y3⟩, _⟩ := hb4.four
    refine bodyPost_ret (v := .tuple #[.agg (fsC mi mb nx (.slice a l.length ca)), .int .i64 fe]) (by simp [results, Tryz.f44, go_sem, y0, y1, y2, y3]) rfl ?_
    exact ⟨_, .slice none 0 0, by rw [HN.out], by rw [HN.out]; exact MadeFs.same _ _ _ _, hbl⟩
  subst he
  replace HF : Hid _ := fun ev => by have := HF.out ev; rw [if_neg (by simp)] at this; exact this
  by_cases hk : xk = 2
  case pos =>
    have HN : Hid (∀ ev, unlinkF l base p ev = (l, 4)) := fun ev => by rw [HF.out ev, if_pos hk]
    clear HF hUn
    subst hk
    obtain ⟨⟨r0, r1, r2, r3⟩, e0, e1, e2, e3⟩ := bR.four
    obtain ⟨W', hW', hb4, hg4⟩ := bR.put4 (.int .i64 mi) (.int .i64 mb) (.int .i64 nx) (.slice a l.length ca)
    have hbl := below_grown hB hg4 (Nat.le_refl _) (by omega)
    go_wp2
    obtain ⟨⟨y0, y1, y2, y3⟩, _⟩ := hb4.four
    refine bodyPost_ret (v := .tuple #[.agg (fsC mi mb nx (.slice a l.length ca)), .int .i64 4]) (by simp [results, Tryz.f44, go_sem, y0, y1, y2, y3]) rfl ?_
    exact ⟨_, .slice none 0 0, by rw [HN.out], by rw [HN.out]; exact MadeFs.same _ _ _ _, hbl⟩
  replace HF : Hid _ := fun ev => by have := HF.out ev; rw [if_neg hk] at this; exact this
  go_wp2_with fail
  refine (hUn (by trivial) hk _ (HV.out.below hB)).mono ?_
  rintro e w3 ⟨y, ev, rfl, hN, b3⟩
  obtain ⟨ay, cy, rfl⟩ := nds_slice (hN.now (HV.out.below hB) b3)
  have HN := Lib.hid (HF.out ev)
  generalize unL l qa qb qc ev = Z at *
  have hRl := bR.lt
  have hsz := hB.size
  clear hUn HF p0 p1 p2 p3 s0 s1 s2 x0 x1 x2 x3 x4 x5
  have bR3 := bR.next b3
  have hB3 := hB.trans (b3.mono hB.size)
  obtain ⟨⟨r0, r1, r2, r3⟩, e0, e1, e2, e3⟩ := bR3.four
  obtain ⟨W', hW', hb4, hg4⟩ := bR3.put4 (.int .i64 mi) (.int .i64 mb) (.int .i64 nx) (.slice ay Z.length cy)
  have hbl := below_grown hB3 hg4 (Nat.le_refl _) (by omega)
  have hM := hN.up (w := w) (w' := W') hsz (Kept.grown hg4 hRl)
  go_wp2
  obtain ⟨⟨y0, y1, y2, y3⟩, _⟩ := hb4.four
  refine bodyPost_ret (v := .tuple #[.agg (fsC mi mb nx (.slice ay Z.length cy)), .int .i64 0]) (by simp [results, Tryz.f44, go_sem, y0, y1, y2, y3]) rfl ?_
  exact ⟨_, ev, by rw [HN.out], by rw [HN.out]; exact hM, hbl⟩
set_option maxHeartbeats 8000000 in
set_option maxRecDepth 100000 in
theorem Rmdir_any (mi mb nx : Int) (l : List Nd) (base p : List UInt8) (v : Value) (w : World) (hv : Nds w v l) (hok : OkS mi mb nx l) (hb : base.length ≤ 20000) (hp : p.length ≤ 20000) :
    Calls Tryz.prog 45 #[.agg (fsC mi mb nx v), .string ⟨base.toArray⟩, .string ⟨p.toArray⟩] w fun e w' => ∃ y ev, e = .returned (.tuple #[.agg (fsC mi mb nx y), .int .i64 (rmdirF l base p ev).2]) ∧ MadeFs w v l w' y (rmdirF l base p ev).1 ∧ Below w.heap.size w w' := by
  obtain ⟨a, ca, rfl⟩ := nds_slice hv
  have bF := (Blk.new w 28 (fsC mi mb nx (.slice a l.length ca))).alloc (.cells (fsC 0 0 0 (.slice none 0 0)) 28)
  have bR := Blk.new (w.alloc (.cells (fsC mi mb nx (.slice a l.length ca)) 28)) 28 (fsC 0 0 0 (.slice none 0 0))
  have hB := ((Below.refl w.heap.size w).alloc (Nat.le_refl _) (.cells (fsC mi mb nx (.slice a l.length ca)) 28)).alloc (by simp) (.cells (fsC 0 0 0 (.slice none 0 0)) 28)
  simp only [World.size_alloc] at bR
  have HV := Lib.hid hv
  have hso := sound_of hok.check
  have hFd := found_any mi mb nx l base p _ _ (hv.below hB) hok hb hp
  have hF := fun ev => rmdir_found l base p ev
  have hxs := found_slice hv base p
  have hEG := fun W (h : EntsAll W l) => found_ents h base p
  have hnm := found_name l base p
  have hUn := fun (h0 : (foundF l base p).2 = 0) (hn : (foundF l base p).1.1.name ≠ []) (hb : (foundF l base p).1.2.ents = []) w' (h : Nds w' (.slice a l.length ca) l) => Unname_any mi mb nx l (foundF l base p).1.1 _ w' h hok (found_bare hso h0 hn hb) hnm
  generalize foundF l base p = F at *
  obtain ⟨⟨⟨qa, qb, qc⟩, ⟨xi, xk, xl, xd, xp, xe, xn⟩⟩, fe⟩ := F
  dsimp only at hF hFd hxs hEG hnm hUn
  obtain ⟨ax, nxx, cx, rfl⟩ := hxs
  have hxn : nxx = xn.length := by
    obtain ⟨a2, c2, e2, _⟩ := hEG _ (HV.out).all
    simp only [Value.slice.injEq] at e2
    exact e2.2.1
  subst hxn
  have HF := Lib.hid hF
  clear hF hv hEG hso
  obtain ⟨⟨p0, p1, p2, p3⟩, _⟩ := bF.four
  go_enter Tryz.func45, Tryz.ntmps45
  go_wp2_with fail
  refine hFd.mono ?_
  rintro e w1 ⟨rfl, b1⟩
  clear hFd p0 p1 p2 p3
  have b2 := alloc_below w1 (.cells (spC ⟨qa, qb, qc⟩) 81)
  have b3 := alloc_below (w1.alloc (.cells (spC ⟨qa, qb, qc⟩) 81)) (.cells (ndC ⟨xi, xk, xl, xd, xp, .slice ax xn.length cx, xn⟩) 49)
  have b4 := b1.trans ((b2.trans (b3.mono b2.size)).mono b1.size)
  have bS := (Blk.new w1 81 (spC ⟨qa, qb, qc⟩)).next b3
  have bX := Blk.new (w1.alloc (.cells (spC ⟨qa, qb, qc⟩) 81)) 49 (ndC ⟨xi, xk, xl, xd, xp, .slice ax xn.length cx, xn⟩)
  simp only [World.size_alloc] at bX
  replace bF := bF.next b4
  replace bR := bR.next b4
  replace hB := hB.trans (b4.mono hB.size)
  clear b1 b2 b3 b4
  obtain ⟨⟨p0, p1, p2, p3⟩, _⟩ := bF.four
  obtain ⟨⟨s0, s1, s2⟩, _⟩ := bS.three
  obtain ⟨⟨x0, x1, x2, x3, x4, x5⟩, _⟩ := bX.six
  dsimp only at s0 s1 s2 x0 x1 x2 x3 x4 x5
  by_cases he : fe = 0
  case neg =>
    have HN : Hid (∀ ev, rmdirF l base p ev = (l, fe)) := fun ev => by rw [HF.out ev, if_pos he]
    clear HF hUn 
    obtain ⟨⟨r0, r1, r2, r3⟩, e0, e1, e2, e3⟩ := bR.four
    obtain ⟨W', hW', hb4, hg4⟩ := bR.put4 (.int .i64 mi) (.int .i64 mb) (.int .i64 nx) (.slice a l.length ca)
    have hbl := below_grown hB hg4 (Nat.le_refl _) (by omega)
    go_wp2
    obtain ⟨⟨y0, y1, y2, y3⟩, _⟩ := hb4.four
    refine bodyPost_ret (v := .tuple #[.agg (fsC mi mb nx (.slice a l.length ca)), .int .i64 fe]) (by simp [results, Tryz.f45, go_sem, y0, y1, y2, y3]) rfl ?_
    exact ⟨_, .slice none 0 0, by rw [HN.out], by rw [HN.out]; exact MadeFs.same _ _ _ _, hbl⟩
  subst he
  replace HF : Hid _ := fun ev => by have := HF.out ev; rw [if_neg (by simp)] at this; exact this
  by_cases hk : xk ≠ 2
  case pos =>
    have HN : Hid (∀ ev, rmdirF l base p ev = (l, 3)) := fun ev => by rw [HF.out ev, if_pos hk]
    clear HF hUn
    obtain ⟨⟨r0, r1, r2, r3⟩, e0, e1, e2, e3⟩ := bR.four
    obtain ⟨W', hW', hb4, hg4⟩ := bR.put4 (.int .i64 mi) (.int .i64 mb) (.int .i64 nx) (.slice a l.length ca)
    have hbl := below_grown hB hg4 (Nat.le_refl _) (by omega)
    go_wp2
    obtain ⟨⟨y0, y1, y2, y3⟩, _⟩ := hb4.four
    refine bodyPost_ret (v := .tuple #[.agg (fsC mi mb nx (.slice a l.length ca)), .int .i64 3]) (by simp [results, Tryz.f45, go_sem, y0, y1, y2, y3]) rfl ?_
    exact ⟨_, .slice none 0 0, by rw [HN.out], by rw [HN.out]; exact MadeFs.same _ _ _ _, hbl⟩
  replace HF : Hid _ := fun ev => by have := HF.out ev; rw [if_neg hk] at this; exact this
  have hk2 : xk = 2 := by omega
  clear hk
  subst hk2
  by_cases hk1 : xi = 1
  case pos =>
    have HN : Hid (∀ ev, rmdirF l base p ev = (l, 10)) := fun ev => by rw [HF.out ev, if_pos hk1]
    clear HF hUn
    subst hk1
    obtain ⟨⟨r0, r1, r2, r3⟩, e0, e1, e2, e3⟩ := bR.four
    obtain ⟨W', hW', hb4, hg4⟩ := bR.put4 (.int .i64 mi) (.int .i64 mb) (.int .i64 nx) (.slice a l.length ca)
    have hbl := below_grown hB hg4 (Nat.le_refl _) (by omega)
    go_wp2
    obtain ⟨⟨y0, y1, y2, y3⟩, _⟩ := hb4.four
    refine bodyPost_ret (v := .tuple #[.agg (fsC mi mb nx (.slice a l.length ca)), .int .i64 10]) (by simp [results, Tryz.f45, go_sem, y0, y1, y2, y3]) rfl ?_
    exact ⟨_, .slice none 0 0, by rw [HN.out], by rw [HN.out]; exact MadeFs.same _ _ _ _, hbl⟩
  replace HF : Hid _ := fun ev => by have := HF.out ev; rw [if_neg hk1] at this; exact this
  by_cases hnm2 : qb = []
  case pos =>
    have HN : Hid (∀ ev, rmdirF l base p ev = (l, 9)) := fun ev => by rw [HF.out ev, if_pos hnm2]
    clear HF hUn
    subst hnm2
    obtain ⟨⟨r0, r1, r2, r3⟩, e0, e1, e2, e3⟩ := bR.four
    obtain ⟨W', hW', hb4, hg4⟩ := bR.put4 (.int .i64 mi) (.int .i64 mb) (.int .i64 nx) (.slice a l.length ca)
    have hbl := below_grown hB hg4 (Nat.le_refl _) (by omega)
    go_wp2
    obtain ⟨⟨y0, y1, y2, y3⟩, _⟩ := hb4.four
    refine bodyPost_ret (v := .tuple #[.agg (fsC mi mb nx (.slice a l.length ca)), .int .i64 9]) (by simp [results, Tryz.f45, go_sem, y0, y1, y2, y3]) rfl ?_
    exact ⟨_, .slice none 0 0, by rw [HN.out], by rw [HN.out]; exact MadeFs.same _ _ _ _, hbl⟩
  replace HF : Hid _ := fun ev => by have := HF.out ev; rw [if_neg hnm2] at this; exact this
  have hnb : (qb == []) = false := by simpa using hnm2
  by_cases hen : xn.length > 0
  case pos =>
    have HN : Hid (∀ ev, rmdirF l base p ev = (l, 5)) := fun ev => by rw [HF.out ev, if_pos hen]
    clear HF hUn
    obtain ⟨⟨r0, r1, r2, r3⟩, e0, e1, e2, e3⟩ := bR.four
    obtain ⟨W', hW', hb4, hg4⟩ := bR.put4 (.int .i64 mi) (.int .i64 mb) (.int .i64 nx) (.slice a l.length ca)
    have hbl := below_grown hB hg4 (Nat.le_refl _) (by omega)
    go_wp2
    obtain ⟨⟨y0, y1, y2, y3⟩, _⟩ := hb4.four
    refine bodyPost_ret (v := .tuple #[.agg (fsC mi mb nx (.slice a l.length ca)), .int .i64 5]) (by simp [results, Tryz.f45, go_sem, y0, y1, y2, y3]) rfl ?_
    exact ⟨_, .slice none 0 0, by rw [HN.out], by rw [HN.out]; exact MadeFs.same _ _ _ _, hbl⟩
  replace HF : Hid _ := fun ev => by have := HF.out ev; rw [if_neg hen] at this; exact this
  go_wp2_with fail
  refine (hUn (by trivial) hnm2 (List.length_eq_zero_iff.1 (by omega)) _ (HV.out.below hB)).mono ?_
  rintro e w3 ⟨y, ev, rfl, hN, b3⟩
  obtain ⟨ay, cy, rfl⟩ := nds_slice (hN.now (HV.out.below hB) b3)
  have HN := Lib.hid (HF.out ev)
  generalize unL l qa qb qc ev = Z at *
  have hRl := bR.lt
  have hsz := hB.size
  clear hUn HF p0 p1 p2 p3 s0 s1 s2 x0 x1 x2 x3 x4 x5
  have bR3 := bR.next b3
  have hB3 := hB.trans (b3.mono hB.size)
  obtain ⟨⟨r0, r1, r2, r3⟩, e0, e1, e2, e3⟩ := bR3.four
  obtain ⟨W', hW', hb4, hg4⟩ := bR3.put4 (.int .i64 mi) (.int .i64 mb) (.int .i64 nx) (.slice ay Z.length cy)
  have hbl := below_grown hB3 hg4 (Nat.le_refl _) (by omega)
  have hM := hN.up (w := w) (w' := W') hsz (Kept.grown hg4 hRl)
  go_wp2
  obtain ⟨⟨y0, y1, y2, y3⟩, _⟩ := hb4.four
  refine bodyPost_ret (v := .tuple #[.agg (fsC mi mb nx (.slice ay Z.length cy)), .int .i64 0]) (by simp [results, Tryz.f45, go_sem, y0, y1, y2, y3]) rfl ?_
  exact ⟨_, ev, by rw [HN.out], by rw [HN.out]; exact hM, hbl⟩
set_option maxHeartbeats 8000000 in
set_option maxRecDepth 100000 in
theorem Link_any (mi mb nx : Int) (l : List Nd) (base src dst : List UInt8) (v : Value) (w : World) (hv : Nds w v l) (hok : OkS mi mb nx l) (hb : base.length ≤ 20000) (hp : src.length ≤ 20000) (hq : dst.length ≤ 20000) :
    Calls Tryz.prog 43 #[.agg (fsC mi mb nx v), .string ⟨base.toArray⟩, .string ⟨src.toArray⟩, .string ⟨dst.toArray⟩] w fun e w' => ∃ y ev, e = .returned (.tuple #[.agg (fsC mi mb nx y), .int .i64 (linkF l base src dst ev).2]) ∧ MadeFs w v l w' y (linkF l base src dst ev).1 ∧ Below w.heap.size w w' := by
  obtain ⟨a, ca, rfl⟩ := nds_slice hv
  have bF := (Blk.new w 28 (fsC mi mb nx (.slice a l.length ca))).alloc (.cells (fsC 0 0 0 (.slice none 0 0)) 28)
  have bR := Blk.new (w.alloc (.cells (fsC mi mb nx (.slice a l.length ca)) 28)) 28 (fsC 0 0 0 (.slice none 0 0))
  have hB := ((Below.refl w.heap.size w).alloc (Nat.le_refl _) (.cells (fsC mi mb nx (.slice a l.length ca)) 28)).alloc (by simp) (.cells (fsC 0 0 0 (.slice none 0 0)) 28)
  simp only [World.size_alloc] at bR
  have HV := Lib.hid hv
  have hso := sound_of hok.check
  have hFd := found_any mi mb nx l base src _ _ (hv.below hB) hok hb hp
  have hF := fun ev => link_found l base src dst ev
  have hxs := found_slice hv base src
  have hEG := fun W (h : EntsAll W l) => found_ents h base src
  have hnm := found_name l base src
  have hSk2 := fun w' (h : Nds w' (.slice a l.length ca) l) => Seek_any mi mb nx l base dst false _ w' h hok hb hq
  have hUn := fun (h0 : (foundF l base src).2 = 0) (hk : (foundF l base src).1.2.kind ≠ 2) (h4 : (seekP l base dst false).2 = 0) (h5 : (seekP l base dst false).1.ino = 0) (h6 : mayB (seekP l base dst false).1.name = true) w' (h : Nds w' (.slice a l.length ca) l) => Name_any mi mb nx l (seekP l base dst false).1 (foundF l base src).1.2.ino _ w' h hok (found_given hso h0 hk h4 h5 h6)
  have hMy := fun w' => May_any (seekP l base dst false).1.name w' (by have := seek_short l base dst false; omega)
  have hRd := fun w' => Read_any dst (by omega) w'
  generalize seekP l base dst false = P at *
  obtain ⟨⟨pa, pb, pc⟩, pe⟩ := P
  dsimp only at hF hSk2 hUn hMy
  generalize foundF l base src = F at *
  obtain ⟨⟨⟨qa, qb, qc⟩, ⟨xi, xk, xl, xd, xp, xe, xn⟩⟩, fe⟩ := F
  dsimp only at hF hFd hxs hEG hnm hUn
  obtain ⟨ax, nxx, cx, rfl⟩ := hxs
  have hxn : nxx = xn.length := by
    obtain ⟨a2, c2, e2, _⟩ := hEG _ (HV.out).all
    simp only [Value.slice.injEq] at e2
    exact e2.2.1
  subst hxn
  have HF := Lib.hid hF
  clear hF hv hEG hso
  obtain ⟨⟨p0, p1, p2, p3⟩, _⟩ := bF.four
  go_enter Tryz.func43, Tryz.ntmps43
  go_wp2_with fail
  refine hFd.mono ?_
  rintro e w1 ⟨rfl, b1⟩
  clear hFd p0 p1 p2 p3
  have b2 := alloc_below w1 (.cells (spC ⟨qa, qb, qc⟩) 81)
  have b3 := alloc_below (w1.alloc (.cells (spC ⟨qa, qb, qc⟩) 81)) (.cells (ndC ⟨xi, xk, xl, xd, xp, .slice ax xn.length cx, xn⟩) 49)
  have b4 := b1.trans ((b2.trans (b3.mono b2.size)).mono b1.size)
  have bS := (Blk.new w1 81 (spC ⟨qa, qb, qc⟩)).next b3
  have bX := Blk.new (w1.alloc (.cells (spC ⟨qa, qb, qc⟩) 81)) 49 (ndC ⟨xi, xk, xl, xd, xp, .slice ax xn.length cx, xn⟩)
  simp only [World.size_alloc] at bX
  replace bF := bF.next b4
  replace bR := bR.next b4
  replace hB := hB.trans (b4.mono hB.size)
  clear b1 b2 b3 b4
  obtain ⟨⟨p0, p1, p2, p3⟩, _⟩ := bF.four
  obtain ⟨⟨s0, s1, s2⟩, _⟩ := bS.three
  obtain ⟨⟨x0, x1, x2, x3, x4, x5⟩, _⟩ := bX.six
  dsimp only at s0 s1 s2 x0 x1 x2 x3 x4 x5
  by_cases he : fe = 0
  case neg =>
    have HN : Hid (∀ ev, linkF l base src dst ev = (l, fe)) := fun ev => by rw [HF.out ev, if_pos he]
    clear HF hUn hSk2 hMy hRd
    obtain ⟨⟨r0, r1, r2, r3⟩, e0, e1, e2, e3⟩ := bR.four
    obtain ⟨W', hW', hb4, hg4⟩ := bR.put4 (.int .i64 mi) (.int .i64 mb) (.int .i64 nx) (.slice a l.length ca)
    have hbl := below_grown hB hg4 (Nat.le_refl _) (by omega)
    go_wp2
    obtain ⟨⟨y0, y1, y2, y3⟩, _⟩ := hb4.four
    refine bodyPost_ret (v := .tuple #[.agg (fsC mi mb nx (.slice a l.length ca)), .int .i64 fe]) (by simp [results, Tryz.f43, go_sem, y0, y1, y2, y3]) rfl ?_
    exact ⟨_, .slice none 0 0, by rw [HN.out], by rw [HN.out]; exact MadeFs.same _ _ _ _, hbl⟩
  subst he
  replace HF : Hid _ := fun ev => by have := HF.out ev; rw [if_neg (by simp)] at this; exact this
  by_cases hk : xk = 2
  case pos =>
    have HN : Hid (∀ ev, linkF l base src dst ev = (l, 11)) := fun ev => by rw [HF.out ev, if_pos hk]
    clear HF hUn hSk2 hMy hRd
    subst hk
    obtain ⟨⟨r0, r1, r2, r3⟩, e0, e1, e2, e3⟩ := bR.four
    obtain ⟨W', hW', hb4, hg4⟩ := bR.put4 (.int .i64 mi) (.int .i64 mb) (.int .i64 nx) (.slice a l.length ca)
    have hbl := below_grown hB hg4 (Nat.le_refl _) (by omega)
    go_wp2
    obtain ⟨⟨y0, y1, y2, y3⟩, _⟩ := hb4.four
    refine bodyPost_ret (v := .tuple #[.agg (fsC mi mb nx (.slice a l.length ca)), .int .i64 11]) (by simp [results, Tryz.f43, go_sem, y0, y1, y2, y3]) rfl ?_
    exact ⟨_, .slice none 0 0, by rw [HN.out], by rw [HN.out]; exact MadeFs.same _ _ _ _, hbl⟩
  replace HF : Hid _ := fun ev => by have := HF.out ev; rw [if_neg hk] at this; exact this
  go_wp2_with fail
  refine (hSk2 _ (HV.out.below hB)).mono ?_
  rintro e w3 ⟨rfl, b1⟩
  clear hSk2 p0 p1 p2 p3 s0 s1 s2 x0 x1 x2 x3 x4 x5 bS
  have b2 := b1.trans ((alloc_below w3 (.cells (spC ⟨pa, pb, pc⟩) 81)).mono b1.size)
  have bS := Blk.new w3 81 (spC ⟨pa, pb, pc⟩)
  replace bF := bF.next b2
  replace bR := bR.next b2
  replace bX := bX.next b2
  replace hB := hB.trans (b2.mono hB.size)
  clear b1 b2
  obtain ⟨⟨p0, p1, p2, p3⟩, _⟩ := bF.four
  obtain ⟨⟨s0, s1, s2⟩, _⟩ := bS.three
  dsimp only at s0 s1 s2
  by_cases he : pe ≠ 0
  case pos =>
    have HN : Hid (∀ ev, linkF l base src dst ev = (l, pe)) := fun ev => by rw [HF.out ev, if_pos he]
    clear HF hUn hMy hRd
    obtain ⟨⟨r0, r1, r2, r3⟩, e0, e1, e2, e3⟩ := bR.four
    obtain ⟨W', hW', hb4, hg4⟩ := bR.put4 (.int .i64 mi) (.int .i64 mb) (.int .i64 nx) (.slice a l.length ca)
    have hbl := below_grown hB hg4 (Nat.le_refl _) (by omega)
    go_wp2
    obtain ⟨⟨y0, y1, y2, y3⟩, _⟩ := hb4.four
    refine bodyPost_ret (v := .tuple #[.agg (fsC mi mb nx (.slice a l.length ca)), .int .i64 pe]) (by simp [results, Tryz.f43, go_sem, y0, y1, y2, y3]) rfl ?_
    exact ⟨_, .slice none 0 0, by rw [HN.out], by rw [HN.out]; exact MadeFs.same _ _ _ _, hbl⟩
  replace HF : Hid _ := fun ev => by have := HF.out ev; rw [if_neg he] at this; exact this
  have he0 : pe = 0 := by omega
  clear he
  subst he0
  by_cases hc2 : pc ≠ 0
  case pos =>
    have HN : Hid (∀ ev, linkF l base src dst ev = (l, 2)) := fun ev => by rw [HF.out ev, if_pos hc2]
    clear HF hUn hMy hRd
    obtain ⟨⟨r0, r1, r2, r3⟩, e0, e1, e2, e3⟩ := bR.four
    obtain ⟨W', hW', hb4, hg4⟩ := bR.put4 (.int .i64 mi) (.int .i64 mb) (.int .i64 nx) (.slice a l.length ca)
    have hbl := below_grown hB hg4 (Nat.le_refl _) (by omega)
    go_wp2
    obtain ⟨⟨y0, y1, y2, y3⟩, _⟩ := hb4.four
    refine bodyPost_ret (v := .tuple #[.agg (fsC mi mb nx (.slice a l.length ca)), .int .i64 2]) (by simp [results, Tryz.f43, go_sem, y0, y1, y2, y3]) rfl ?_
    exact ⟨_, .slice none 0 0, by rw [HN.out], by rw [HN.out]; exact MadeFs.same _ _ _ _, hbl⟩
  replace HF : Hid _ := fun ev => by have := HF.out ev; rw [if_neg hc2] at this; exact this
  have hc0 : pc = 0 := by omega
  clear hc2
  subst hc0
  cases hsl : slashB dst
  case true =>
    have HN : Hid (∀ ev, linkF l base src dst ev = (l, 1)) := fun ev => by rw [HF.out ev, if_pos hsl]
    clear HF hUn hMy
    rw [hsl] at hRd
    go_wp2_with fail
    refine (hRd _).mono ?_
    rintro e w4 ⟨vp, rfl, hst, b2⟩
    have hfi := fieldV2 (absB dst) true vp
    replace bF := bF.next b2
    replace bR := bR.next b2
    replace bX := bX.next b2
    replace bS := bS.next b2
    replace hB := hB.trans (b2.mono hB.size)
    clear hst b2 hRd p0 p1 p2 p3 s0 s1 s2
    obtain ⟨⟨p0, p1, p2, p3⟩, _⟩ := bF.four
    obtain ⟨⟨s0, s1, s2⟩, _⟩ := bS.three
    obtain ⟨⟨x0, x1, x2, x3, x4, x5⟩, _⟩ := bX.six
    dsimp only at s0 s1 s2 x0 x1 x2 x3 x4 x5
    obtain ⟨⟨r0, r1, r2, r3⟩, e0, e1, e2, e3⟩ := bR.four
    obtain ⟨W', hW', hb4, hg4⟩ := bR.put4 (.int .i64 mi) (.int .i64 mb) (.int .i64 nx) (.slice a l.length ca)
    have hbl := below_grown hB hg4 (Nat.le_refl _) (by omega)
    go_wp2
    obtain ⟨⟨y0, y1, y2, y3⟩, _⟩ := hb4.four
    refine bodyPost_ret (v := .tuple #[.agg (fsC mi mb nx (.slice a l.length ca)), .int .i64 1]) (by simp [results, Tryz.f43, go_sem, y0, y1, y2, y3]) rfl ?_
    exact ⟨_, .slice none 0 0, by rw [HN.out], by rw [HN.out]; exact MadeFs.same _ _ _ _, hbl⟩
  replace HF : Hid _ := fun ev => by have := HF.out ev; rw [if_neg (by rw [hsl]; simp)] at this; exact this
  rw [hsl] at hRd
  go_wp2_with fail
  refine (hRd _).mono ?_
  rintro e w4 ⟨vp, rfl, hst, b2⟩
  have hfi := fieldV2 (absB dst) false vp
  replace bF := bF.next b2
  replace bR := bR.next b2
  replace bX := bX.next b2
  replace bS := bS.next b2
  replace hB := hB.trans (b2.mono hB.size)
  clear hst b2 hRd p0 p1 p2 p3 s0 s1 s2
  obtain ⟨⟨p0, p1, p2, p3⟩, _⟩ := bF.four
  obtain ⟨⟨s0, s1, s2⟩, _⟩ := bS.three
  obtain ⟨⟨x0, x1, x2, x3, x4, x5⟩, _⟩ := bX.six
  dsimp only at s0 s1 s2 x0 x1 x2 x3 x4 x5
  cases hm : mayB pb
  case false =>
    have HN : Hid (∀ ev, linkF l base src dst ev = (l, 9)) := fun ev => by rw [HF.out ev, if_pos hm]
    clear HF hUn
    rw [hm] at hMy
    go_wp2_with fail
    refine (hMy _).mono ?_
    rintro e wz ⟨rfl, b2⟩
    replace bF := bF.next b2
    replace bR := bR.next b2
    replace bX := bX.next b2
    replace bS := bS.next b2
    replace hB := hB.trans (b2.mono hB.size)
    clear b2 hMy p0 p1 p2 p3 s0 s1 s2 x0 x1 x2 x3 x4 x5
    obtain ⟨⟨p0, p1, p2, p3⟩, _⟩ := bF.four
    obtain ⟨⟨s0, s1, s2⟩, _⟩ := bS.three
    obtain ⟨⟨x0, x1, x2, x3, x4, x5⟩, _⟩ := bX.six
    dsimp only at s0 s1 s2 x0 x1 x2 x3 x4 x5
    obtain ⟨⟨r0, r1, r2, r3⟩, e0, e1, e2, e3⟩ := bR.four
    obtain ⟨W', hW', hb4, hg4⟩ := bR.put4 (.int .i64 mi) (.int .i64 mb) (.int .i64 nx) (.slice a l.length ca)
    have hbl := below_grown hB hg4 (Nat.le_refl _) (by omega)
    go_wp2
    obtain ⟨⟨y0, y1, y2, y3⟩, _⟩ := hb4.four
    refine bodyPost_ret (v := .tuple #[.agg (fsC mi mb nx (.slice a l.length ca)), .int .i64 9]) (by simp [results, Tryz.f43, go_sem, y0, y1, y2, y3]) rfl ?_
    exact ⟨_, .slice none 0 0, by rw [HN.out], by rw [HN.out]; exact MadeFs.same _ _ _ _, hbl⟩
  replace HF : Hid _ := fun ev => by have := HF.out ev; rw [if_neg (by rw [hm]; simp)] at this; exact this
  rw [hm] at hMy
  go_wp2_with fail
  refine (hMy _).mono ?_
  rintro e wz ⟨rfl, b2⟩
  replace bF := bF.next b2
  replace bR := bR.next b2
  replace bX := bX.next b2
  replace bS := bS.next b2
  replace hB := hB.trans (b2.mono hB.size)
  clear b2 hMy p0 p1 p2 p3 s0 s1 s2 x0 x1 x2 x3 x4 x5
  obtain ⟨⟨p0, p1, p2, p3⟩, _⟩ := bF.four
  obtain ⟨⟨s0, s1, s2⟩, _⟩ := bS.three
  obtain ⟨⟨x0, x1, x2, x3, x4, x5⟩, _⟩ := bX.six
  dsimp only at s0 s1 s2 x0 x1 x2 x3 x4 x5
  go_wp2_with fail
  refine (hUn (by trivial) hk (by trivial) (by trivial) hm _ (HV.out.below hB)).mono ?_
  rintro e w3 ⟨y, ev, rfl, hN, b3⟩
  obtain ⟨ay, cy, rfl⟩ := nds_slice (hN.now (HV.out.below hB) b3)
  have HN := Lib.hid (HF.out ev)
  generalize naL l pa pb xi ev = Z at *
  have hRl := bR.lt
  have hsz := hB.size
  clear hUn HF p0 p1 p2 p3 s0 s1 s2 x0 x1 x2 x3 x4 x5
  have bR3 := bR.next b3
  have hB3 := hB.trans (b3.mono hB.size)
  obtain ⟨⟨r0, r1, r2, r3⟩, e0, e1, e2, e3⟩ := bR3.four
  obtain ⟨W', hW', hb4, hg4⟩ := bR3.put4 (.int .i64 mi) (.int .i64 mb) (.int .i64 nx) (.slice ay Z.length cy)
  have hbl := below_grown hB3 hg4 (Nat.le_refl _) (by omega)
  have hM := hN.up (w := w) (w' := W') hsz (Kept.grown hg4 hRl)
  go_wp2
  obtain ⟨⟨y0, y1, y2, y3⟩, _⟩ := hb4.four
  refine bodyPost_ret (v := .tuple #[.agg (fsC mi mb nx (.slice ay Z.length cy)), .int .i64 0]) (by simp [results, Tryz.f43, go_sem, y0, y1, y2, y3]) rfl ?_
  exact ⟨_, ev, by rw [HN.out], by rw [HN.out]; exact hM, hbl⟩
end Go.Proofs.YtkdmfeikikmiiaaGreat
