/- Walks: the document's Rename, in parts (printed by tools/rename14.py). -/
import Derived.Test.YtkdmfeikikmiiaaGreatQMWalkD11
import Derived.Test.YtkdmfeikikmiiaaGreatQMWalkB05
import Derived.Test.YtkdmfeikikmiiaaGreatQWalkD12
set_option linter.unusedVariables false
set_option linter.unusedSimpArgs false
namespace Go.Proofs.YtkdmfeikikmiiaaGreat
open Go.RowKit
set_option maxHeartbeats 16000000 in
set_option maxRecDepth 100000 in
theorem refRename_early (mi mb nx : Int) (l : List Nd) (base src dst : List UInt8) (v : Value) (w : World) (hv : Nds w v l) (hf : Fit l) (hb : base.length ≤ 100000) (hp : src.length ≤ 100000) (hp2 : dst.length ≤ 100000)
    (hE : (seekP l base src false).2 ≠ 0 ∨ (seekP l base src false).1.ino = 0 ∨ (seekP l base src false).1.name = [] ∨ (seekP l base dst false).2 ≠ 0 ∨ (seekP l base dst false).1.name = [] ∨ (seekP l base src false).1.ino = (seekP l base dst false).1.ino) :
    Calls Tryz.prog 33 #[.agg (fsC mi mb nx v), .string ⟨base.toArray⟩, .string ⟨src.toArray⟩, .string ⟨dst.toArray⟩] w fun e w' => ∃ y ev e1 e2, e = .returned (.tuple #[.agg (fsC mi mb nx y), .int .i64 (renameF l base src dst ev e1 e2).2]) ∧ MadeFs w v l w' y (renameF l base src dst ev e1 e2).1 ∧ Below w.heap.size w w' := by
  obtain ⟨a, ca, rfl⟩ := nds_slice hv
  have bF := (Blk.new w 28 (fsC mi mb nx (.slice a l.length ca))).alloc (.cells (fsC 0 0 0 (.slice none 0 0)) 28)
  have bR := Blk.new (w.alloc (.cells (fsC mi mb nx (.slice a l.length ca)) 28)) 28 (fsC 0 0 0 (.slice none 0 0))
  have hB := ((Below.refl w.heap.size w).alloc (Nat.le_refl _) (.cells (fsC mi mb nx (.slice a l.length ca)) 28)).alloc (by simp) (.cells (fsC 0 0 0 (.slice none 0 0)) 28)
  simp only [World.size_alloc] at bR
  have HV := Lib.hid hv
  have hda : ∀ i, (getN l i).data.length ≤ 5000 := fun i => (calm_get hf.calm i).2.2.1
  have hSk := refSeek_any mi mb nx l base src false _ _ (hv.below hB) hda hb hp
  have hSk2 := fun w' (h : Nds w' (.slice a l.length ca) l) => refSeek_any mi mb nx l base dst false _ w' h hda hb hp2
  have hF : ∀ ev e1 e2, renameF l base src dst ev e1 e2 = renameF l base src dst ev e1 e2 := fun _ _ _ => rfl
  conv at hF => enter [ev, e1, e2]; rhs; unfold renameF
  generalize seekP l base src false = Q at *
  generalize seekP l base dst false = P at *
  obtain ⟨⟨qa, qb, qc⟩, qe⟩ := Q
  obtain ⟨⟨pa, pb, pc⟩, pe⟩ := P
  dsimp only at hF hSk hSk2 hE
  have HF := Lib.hid hF
  have HE := Lib.hid hE
  clear hF hv hda hE
  obtain ⟨⟨p0, p1, p2, p3⟩, _⟩ := bF.four
  go_enter Tryz.func33, Tryz.ntmps33
  go_wp2_with fail
  refine (hSk).mono ?_
  rintro e v1w ⟨rfl, b1⟩
  clear p0 p1 p2 p3
  have k1 := b1.trans ((alloc_below v1w (.cells (spC ⟨qa, qb, qc⟩) 81)).mono b1.size)
  have bA := Blk.new v1w 81 (spC ⟨qa, qb, qc⟩)
  replace bF := bF.next k1
  replace bR := bR.next k1
  replace hB := hB.trans (k1.mono hB.size)
  clear b1 k1
  obtain ⟨⟨p0, p1, p2, p3⟩, _⟩ := bF.four
  obtain ⟨⟨s0, s1, s2⟩, _⟩ := bA.three
  dsimp only at s0 s1 s2
  clear hSk
  by_cases he : qe = 0
  rotate_left
  · have HN : Hid (∀ ev e1 e2, renameF l base src dst ev e1 e2 = (l, qe)) := fun ev e1 e2 => by have := HF.out ev e1 e2; rw [if_pos he] at this; exact this
    clear HF HE hSk2
    obtain ⟨⟨r0, r1, r2, r3⟩, e0, e1, e2, e3⟩ := bR.four
    obtain ⟨W', hW', hb4, hg4⟩ := bR.put4 (.int .i64 mi) (.int .i64 mb) (.int .i64 nx) (.slice a l.length ca)
    have hbl := below_grown hB hg4 (Nat.le_refl _) (by omega)
    go_wp2
    obtain ⟨⟨z0, z1, z2, z3⟩, _⟩ := hb4.four
    refine bodyPost_ret (v := .tuple #[.agg (fsC mi mb nx (.slice a l.length ca)), .int .i64 qe]) (by simp [results, Tryz.f33, go_sem, z0, z1, z2, z3]) rfl ?_
    exact ⟨_, .slice none 0 0, .slice none 0 0, .slice none 0 0, by rw [HN.out], by rw [HN.out]; exact MadeFs.same _ _ _ _, hbl⟩
  subst he
  replace HF : Hid _ := fun ev e1 e2 => by have := HF.out ev e1 e2; rw [if_neg (by simp)] at this; exact this
  by_cases hc : qc = 0
  · have HN : Hid (∀ ev e1 e2, renameF l base src dst ev e1 e2 = (l, 1)) := fun ev e1 e2 => by have := HF.out ev e1 e2; rw [if_pos hc] at this; exact this
    subst hc
    clear HF HE hSk2
    obtain ⟨⟨r0, r1, r2, r3⟩, e0, e1, e2, e3⟩ := bR.four
    obtain ⟨W', hW', hb4, hg4⟩ := bR.put4 (.int .i64 mi) (.int .i64 mb) (.int .i64 nx) (.slice a l.length ca)
    have hbl := below_grown hB hg4 (Nat.le_refl _) (by omega)
    go_wp2
    obtain ⟨⟨z0, z1, z2, z3⟩, _⟩ := hb4.four
    refine bodyPost_ret (v := .tuple #[.agg (fsC mi mb nx (.slice a l.length ca)), .int .i64 1]) (by simp [results, Tryz.f33, go_sem, z0, z1, z2, z3]) rfl ?_
    exact ⟨_, .slice none 0 0, .slice none 0 0, .slice none 0 0, by rw [HN.out], by rw [HN.out]; exact MadeFs.same _ _ _ _, hbl⟩
  replace HF : Hid _ := fun ev e1 e2 => by have := HF.out ev e1 e2; rw [if_neg hc] at this; exact this
  by_cases hq0 : qb = []
  · have HN : Hid (∀ ev e1 e2, renameF l base src dst ev e1 e2 = (l, 10)) := fun ev e1 e2 => by have := HF.out ev e1 e2; rw [if_pos hq0] at this; exact this
    subst hq0
    clear HF HE hSk2
    obtain ⟨⟨r0, r1, r2, r3⟩, e0, e1, e2, e3⟩ := bR.four
    obtain ⟨W', hW', hb4, hg4⟩ := bR.put4 (.int .i64 mi) (.int .i64 mb) (.int .i64 nx) (.slice a l.length ca)
    have hbl := below_grown hB hg4 (Nat.le_refl _) (by omega)
    go_wp2
    obtain ⟨⟨z0, z1, z2, z3⟩, _⟩ := hb4.four
    refine bodyPost_ret (v := .tuple #[.agg (fsC mi mb nx (.slice a l.length ca)), .int .i64 10]) (by simp [results, Tryz.f33, go_sem, z0, z1, z2, z3]) rfl ?_
    exact ⟨_, .slice none 0 0, .slice none 0 0, .slice none 0 0, by rw [HN.out], by rw [HN.out]; exact MadeFs.same _ _ _ _, hbl⟩
  replace HF : Hid _ := fun ev e1 e2 => by have := HF.out ev e1 e2; rw [if_neg hq0] at this; exact this
  have hqb : (qb == []) = false := by simpa using hq0
  have HQ0 := Lib.hid hq0
  clear hq0
  go_wp2_with fail
  refine (hSk2 _ (HV.out.below hB)).mono ?_
  rintro e v2w ⟨rfl, b1⟩
  clear p0 p1 p2 p3 s0 s1 s2
  have k1 := b1.trans ((alloc_below v2w (.cells (spC ⟨pa, pb, pc⟩) 81)).mono b1.size)
  have bB := Blk.new v2w 81 (spC ⟨pa, pb, pc⟩)
  replace bF := bF.next k1
  replace bA := bA.next k1
  replace bR := bR.next k1
  replace hB := hB.trans (k1.mono hB.size)
  clear b1 k1
  obtain ⟨⟨p0, p1, p2, p3⟩, _⟩ := bF.four
  obtain ⟨⟨s0, s1, s2⟩, _⟩ := bA.three
  dsimp only at s0 s1 s2
  obtain ⟨⟨t0, t1, t2⟩, _⟩ := bB.three
  dsimp only at t0 t1 t2
  clear hSk2
  by_cases he : pe = 0
  rotate_left
  · have HN : Hid (∀ ev e1 e2, renameF l base src dst ev e1 e2 = (l, pe)) := fun ev e1 e2 => by have := HF.out ev e1 e2; rw [if_pos he] at this; exact this
    clear HF HE
    obtain ⟨⟨r0, r1, r2, r3⟩, e0, e1, e2, e3⟩ := bR.four
    obtain ⟨W', hW', hb4, hg4⟩ := bR.put4 (.int .i64 mi) (.int .i64 mb) (.int .i64 nx) (.slice a l.length ca)
    have hbl := below_grown hB hg4 (Nat.le_refl _) (by omega)
    go_wp2
    obtain ⟨⟨z0, z1, z2, z3⟩, _⟩ := hb4.four
    refine bodyPost_ret (v := .tuple #[.agg (fsC mi mb nx (.slice a l.length ca)), .int .i64 pe]) (by simp [results, Tryz.f33, go_sem, z0, z1, z2, z3]) rfl ?_
    exact ⟨_, .slice none 0 0, .slice none 0 0, .slice none 0 0, by rw [HN.out], by rw [HN.out]; exact MadeFs.same _ _ _ _, hbl⟩
  subst he
  replace HF : Hid _ := fun ev e1 e2 => by have := HF.out ev e1 e2; rw [if_neg (by simp)] at this; exact this
  by_cases hp0 : pb = []
  · have HN : Hid (∀ ev e1 e2, renameF l base src dst ev e1 e2 = (l, 10)) := fun ev e1 e2 => by have := HF.out ev e1 e2; rw [if_pos hp0] at this; exact this
    subst hp0
    clear HF HE
    obtain ⟨⟨r0, r1, r2, r3⟩, e0, e1, e2, e3⟩ := bR.four
    obtain ⟨W', hW', hb4, hg4⟩ := bR.put4 (.int .i64 mi) (.int .i64 mb) (.int .i64 nx) (.slice a l.length ca)
    have hbl := below_grown hB hg4 (Nat.le_refl _) (by omega)
    go_wp2
    obtain ⟨⟨z0, z1, z2, z3⟩, _⟩ := hb4.four
    refine bodyPost_ret (v := .tuple #[.agg (fsC mi mb nx (.slice a l.length ca)), .int .i64 10]) (by simp [results, Tryz.f33, go_sem, z0, z1, z2, z3]) rfl ?_
    exact ⟨_, .slice none 0 0, .slice none 0 0, .slice none 0 0, by rw [HN.out], by rw [HN.out]; exact MadeFs.same _ _ _ _, hbl⟩
  replace HF : Hid _ := fun ev e1 e2 => by have := HF.out ev e1 e2; rw [if_neg hp0] at this; exact this
  have hpb : (pb == []) = false := by simpa using hp0
  have HP0 := Lib.hid hp0
  clear hp0
  by_cases hqp : qc = pc
  · have HN : Hid (∀ ev e1 e2, renameF l base src dst ev e1 e2 = (l, 0)) := fun ev e1 e2 => by have := HF.out ev e1 e2; rw [if_pos hqp] at this; exact this
    subst hqp
    clear HF HE
    obtain ⟨⟨r0, r1, r2, r3⟩, e0, e1, e2, e3⟩ := bR.four
    obtain ⟨W', hW', hb4, hg4⟩ := bR.put4 (.int .i64 mi) (.int .i64 mb) (.int .i64 nx) (.slice a l.length ca)
    have hbl := below_grown hB hg4 (Nat.le_refl _) (by omega)
    go_wp2
    obtain ⟨⟨z0, z1, z2, z3⟩, _⟩ := hb4.four
    refine bodyPost_ret (v := .tuple #[.agg (fsC mi mb nx (.slice a l.length ca)), .int .i64 0]) (by simp [results, Tryz.f33, go_sem, z0, z1, z2, z3]) rfl ?_
    exact ⟨_, .slice none 0 0, .slice none 0 0, .slice none 0 0, by rw [HN.out], by rw [HN.out]; exact MadeFs.same _ _ _ _, hbl⟩
  rcases HE.out with h | h | h | h | h | h
  · exact absurd rfl h
  · exact absurd h hc
  · exact absurd h HQ0.out
  · exact absurd rfl h
  · exact absurd h HP0.out
  · exact absurd h hqp
end Go.Proofs.YtkdmfeikikmiiaaGreat
