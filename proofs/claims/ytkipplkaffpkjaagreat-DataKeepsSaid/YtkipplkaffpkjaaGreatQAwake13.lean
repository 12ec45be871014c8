import Derived.Test.YtkipplkaffpkjaaGreatQSmall13
import Derived.Test.YtkipplkaffpkjaaGreatQMWalkH04
import Derived.Test.YtkipplkaffpkjaaGreatQMWalkB08
import Derived.Laws.StructEq
set_option linter.unusedVariables false
set_option linter.unusedSimpArgs false
/- Walks: awake, of what files and links hold; whether a file system, a path and data may be looked at. -/
set_option linter.unusedVariables false
set_option linter.unusedSimpArgs false
namespace Go.Proofs.YtkipplkaffpkjaaGreat
open Go.RowKit
set_option linter.unusedVariables false

theorem aw13_ok1 (e1 : Value) : okB 9 4 9 [stR e1, ⟨4, 1, 1, [119, 120, 121, 122], 0, .slice none 0 0, []⟩, stS] = true := by kernel_rfl
theorem aw13_write (l : List Nd) (base p d : List UInt8) (r : Sp × Int) (R : List Nd × Int) (v : Value) (w : World) (hv : Nds w v l) (hok : okB 9 4 9 l = true) (hb : base.length ≤ 100) (hp : p.length ≤ 100) (hd : d.length ≤ 100) (h : seekF 20 l base p true = some r) (h3 : writeE 9 4 (statE r l) l d = R) :
    Calls Tryz.prog 17 #[.agg (fsC 9 4 9 v), .string ⟨base.toArray⟩, .string ⟨p.toArray⟩, .string ⟨d.toArray⟩] w fun e w' => ∃ y, e = .returned (.tuple #[.agg (fsC 9 4 9 y), .int .i64 R.2]) ∧ Nds w' y R.1 ∧ Below w.heap.size w w' := by
  refine (Write13_any 9 4 9 l base p d v w hv (ok_s hok) (by omega) (by omega) (by omega)).mono ?_
  rintro e w' ⟨y, rfl, hM, hB⟩
  have hn := hM.now hv hB
  rw [writeF_eq 20 h, h3] at hn
  exact ⟨y, by rw [writeF_eq 20 h, h3], hn, hB⟩
theorem aw13_read (l : List Nd) (base p : List UInt8) (r : Sp × Int) (R : List UInt8 × Int) (v : Value) (w : World) (hv : Nds w v l) (hok : okB 9 4 9 l = true) (hb : base.length ≤ 100) (hp : p.length ≤ 100) (h : seekF 20 l base p true = some r) (h3 : readE (statE r l) = R) :
    Calls Tryz.prog 12 #[.agg (fsC 9 4 9 v), .string ⟨base.toArray⟩, .string ⟨p.toArray⟩] w fun e w' => e = .returned (.tuple #[.string ⟨R.1.toArray⟩, .int .i64 R.2]) ∧ Below w.heap.size w w' := by
  have := Read13_any 9 4 9 l base p v w hv (ok_s hok) (by omega) (by omega)
  rwa [readF_eq 20 h, h3] at this
theorem aw13_rdlnk (l : List Nd) (base p : List UInt8) (r : Sp × Int) (R : List UInt8 × Int) (v : Value) (w : World) (hv : Nds w v l) (hok : okB 9 4 9 l = true) (hb : base.length ≤ 100) (hp : p.length ≤ 100) (h : seekF 20 l base p false = some r) (h3 : rdlnkE (statE r l) = R) :
    Calls Tryz.prog 14 #[.agg (fsC 9 4 9 v), .string ⟨base.toArray⟩, .string ⟨p.toArray⟩] w fun e w' => e = .returned (.tuple #[.string ⟨R.1.toArray⟩, .int .i64 R.2]) ∧ Below w.heap.size w w' := by
  have := Readlink13_any 9 4 9 l base p v w hv (ok_s hok) (by omega) (by omega)
  rwa [rdlnkF_eq 20 h, h3] at this
theorem aw13_stat (l : List Nd) (base p : List UInt8) (r : Sp × Int) (R : Nd × Int) (v : Value) (w : World) (hv : Nds w v l) (hok : okB 9 4 9 l = true) (hb : base.length ≤ 100) (hp : p.length ≤ 100) (h : seekF 20 l base p false = some r) (h3 : statE r l = R) :
    Calls Tryz.prog 10 #[.agg (fsC 9 4 9 v), .string ⟨base.toArray⟩, .string ⟨p.toArray⟩, .bool false] w fun e w' => e = .returned (.tuple #[.agg (ndC R.1), .int .i64 R.2]) ∧ Below w.heap.size w w' := by
  have := Stat_any 9 4 9 l base p false v w hv (ok_s hok) (by omega) (by omega)
  rwa [statF_eq 20 h, h3] at this
theorem aw13_set (l : List Nd) (i : Int) (d : List UInt8) (R : List Nd × Int) (v : Value) (w : World) (hv : Nds w v l) (hok : okB 9 4 9 l = true) (hi : hasN l i = true) (hk : (getN l i).kind = 1) (hd : d.length ≤ 100) (h3 : setF 9 4 l i d = R) :
    Calls Tryz.prog 21 #[.agg (fsC 9 4 9 v), .int .i64 i, .string ⟨d.toArray⟩] w fun e w' => ∃ y, e = .returned (.tuple #[.agg (fsC 9 4 9 y), .int .i64 R.2]) ∧ Nds w' y R.1 ∧ Below w.heap.size w w' := by
  refine (Set13_any 9 4 9 i l d v w hv (ok_s hok) hi hk (by omega)).mono ?_
  rintro e w' ⟨y, rfl, hM, hB⟩
  have hn := hM.now hv hB
  rw [h3] at hn
  exact ⟨y, by rw [h3], hn, hB⟩

set_option maxRecDepth 100000 in
set_option maxHeartbeats 16000000 in
theorem awake13 (w : World) : Calls Tryz.prog 8 #[] w fun e w' => e = .returned (.bool true) ∧ Below w.heap.size w w' := by
  go_enter Tryz.func8, Tryz.ntmps8
  go_wp2_with fail
  refine (small13_any _).mono ?_
  rintro e w0 ⟨v0, g1, rfl, n0, hB⟩
  obtain ⟨a0, c0, rfl⟩ := nds_slice n0
  have s0 := alloc_below w0 (.cells (fsC 9 4 9 (.slice a0 3 c0)) 24)
  have b0 := Blk.new w0 24 (fsC 9 4 9 (.slice a0 3 c0))
  replace n0 := n0.below s0
  replace hB := hB.trans (s0.mono hB.size)
  clear s0
  obtain ⟨⟨p0, p1, p2, p3⟩, _⟩ := b0.four
  go_wp2_with fail; refine (aw13_write [stR g1, stF, stS] [47] [115] [119, 120, 121, 122] (⟨1, [102], 4⟩, 0) ([stR g1, ⟨4, 1, 1, [119, 120, 121, 122], 0, .slice none 0 0, []⟩, stS], 0) _ _ n0 (st_ok g1) (by decide) (by decide) (by decide) (by kernel_rfl) (by kernel_rfl)).mono ?_; rintro e w1 ⟨v1, rfl, n1, c1⟩
  clear p0 p1 p2 p3
  obtain ⟨a1, k1, rfl⟩ := nds_slice n1
  have s1 := alloc_below w1 (.cells (fsC 9 4 9 (.slice a1 3 k1)) 24)
  have d1 := c1.trans (s1.mono c1.size)
  have b1 := Blk.new w1 24 (fsC 9 4 9 (.slice a1 3 k1))
  replace n1 := n1.below s1
  replace b0 := b0.next d1
  replace n0 := n0.below d1
  replace hB := hB.trans (d1.mono hB.size)
  obtain ⟨⟨p0, p1, p2, p3⟩, _⟩ := b1.four
  clear s1 c1 d1
  go_wp2_with fail; refine (aw13_read [stR g1, ⟨4, 1, 1, [119, 120, 121, 122], 0, .slice none 0 0, []⟩, stS] [47] [102] (⟨1, [102], 4⟩, 0) ([119, 120, 121, 122], 0) _ _ n1 (aw13_ok1 g1) (by decide) (by decide) (by kernel_rfl) (by kernel_rfl)).mono ?_; rintro e w2 ⟨rfl, c2⟩
  clear p0 p1 p2 p3
  replace b0 := b0.next c2
  replace n0 := n0.below c2
  replace b1 := b1.next c2
  replace n1 := n1.below c2
  replace hB := hB.trans (c2.mono hB.size)
  obtain ⟨⟨p0, p1, p2, p3⟩, _⟩ := b0.four
  clear c2
  go_wp2_with fail; refine (aw13_write [stR g1, stF, stS] [47] [102] [118, 119, 120, 121, 122] (⟨1, [102], 4⟩, 0) ([stR g1, stF, stS], 8) _ _ n0 (st_ok g1) (by decide) (by decide) (by decide) (by kernel_rfl) (by kernel_rfl)).mono ?_; rintro e w3 ⟨v3, rfl, n3, c3⟩
  clear p0 p1 p2 p3
  obtain ⟨a3, k3, rfl⟩ := nds_slice n3
  have s3 := alloc_below w3 (.cells (fsC 9 4 9 (.slice a3 3 k3)) 24)
  have d3 := c3.trans (s3.mono c3.size)
  replace b0 := b0.next d3
  replace n0 := n0.below d3
  replace b1 := b1.next d3
  replace n1 := n1.below d3
  replace hB := hB.trans (d3.mono hB.size)
  obtain ⟨⟨p0, p1, p2, p3⟩, _⟩ := b0.four
  clear s3 c3 d3 n3
  go_wp2_with fail; refine (aw13_rdlnk [stR g1, stF, stS] [47] [115] (⟨1, [115], 5⟩, 0) ([102], 0) _ _ n0 (st_ok g1) (by decide) (by decide) (by kernel_rfl) (by kernel_rfl)).mono ?_; rintro e w4 ⟨rfl, c4⟩
  clear p0 p1 p2 p3
  replace b0 := b0.next c4
  replace n0 := n0.below c4
  replace b1 := b1.next c4
  replace n1 := n1.below c4
  replace hB := hB.trans (c4.mono hB.size)
  obtain ⟨⟨p0, p1, p2, p3⟩, _⟩ := b0.four
  clear c4
  go_wp2_with fail; refine (aw13_rdlnk [stR g1, stF, stS] [47] [102] (⟨1, [102], 4⟩, 0) ([], 9) _ _ n0 (st_ok g1) (by decide) (by decide) (by kernel_rfl) (by kernel_rfl)).mono ?_; rintro e w5 ⟨rfl, c5⟩
  clear p0 p1 p2 p3
  replace b0 := b0.next c5
  replace n0 := n0.below c5
  replace b1 := b1.next c5
  replace n1 := n1.below c5
  replace hB := hB.trans (c5.mono hB.size)
  obtain ⟨⟨p0, p1, p2, p3⟩, _⟩ := b0.four
  clear c5
  go_wp2_with fail; refine (aw13_read [stR g1, stF, stS] [47] [47] (⟨0, [], 1⟩, 0) ([], 4) _ _ n0 (st_ok g1) (by decide) (by decide) (by kernel_rfl) (by kernel_rfl)).mono ?_; rintro e w6 ⟨rfl, c6⟩
  clear p0 p1 p2 p3
  replace b0 := b0.next c6
  replace n0 := n0.below c6
  replace b1 := b1.next c6
  replace n1 := n1.below c6
  replace hB := hB.trans (c6.mono hB.size)
  obtain ⟨⟨p0, p1, p2, p3⟩, _⟩ := b0.four
  clear c6
  go_wp2_with fail; refine (aw13_stat [stR g1, stF, stS] [47] [115] (⟨1, [115], 5⟩, 0) (⟨5, 3, 1, [102], 0, .slice none 0 0, []⟩, 0) _ _ n0 (st_ok g1) (by decide) (by decide) (by kernel_rfl) (by kernel_rfl)).mono ?_; rintro e w7 ⟨rfl, c7⟩
  clear p0 p1 p2 p3
  have s7 := alloc_below w7 (.cells (ndC ⟨5, 3, 1, [102], 0, .slice none 0 0, []⟩) 29)
  have d7 := c7.trans (s7.mono c7.size)
  have bX := Blk.new w7 29 (ndC ⟨5, 3, 1, [102], 0, .slice none 0 0, []⟩)
  replace b0 := b0.next d7
  replace n0 := n0.below d7
  replace b1 := b1.next d7
  replace n1 := n1.below d7
  replace hB := hB.trans (d7.mono hB.size)
  obtain ⟨⟨p0, p1, p2, p3⟩, _⟩ := b0.four
  clear s7 c7 d7
  go_wp2_with fail; refine (aw13_stat [stR g1, stF, stS] [47] [116] (⟨1, [116], 0⟩, 0) (⟨0, 0, 0, [], 0, .slice none 0 0, []⟩, 1) _ _ n0 (st_ok g1) (by decide) (by decide) (by kernel_rfl) (by kernel_rfl)).mono ?_; rintro e w8 ⟨rfl, c8⟩
  clear p0 p1 p2 p3
  have s8 := alloc_below w8 (.cells (ndC ⟨0, 0, 0, [], 0, .slice none 0 0, []⟩) 29)
  have d8 := c8.trans (s8.mono c8.size)
  replace b0 := b0.next d8
  replace n0 := n0.below d8
  replace b1 := b1.next d8
  replace n1 := n1.below d8
  replace bX := bX.next d8
  replace hB := hB.trans (d8.mono hB.size)
  obtain ⟨⟨p0, p1, p2, p3⟩, _⟩ := b0.four
  clear s8 c8 d8
  go_wp2_with fail; refine (aw13_set [stR g1, stF, stS] 4 [] ([stR g1, ⟨4, 1, 1, [], 0, .slice none 0 0, []⟩, stS], 0) _ _ n0 (st_ok g1) (by kernel_rfl) (by kernel_rfl) (by decide) (by kernel_rfl)).mono ?_; rintro e w9 ⟨v9, rfl, n9, c9⟩
  clear p0 p1 p2 p3
  obtain ⟨a9, k9, rfl⟩ := nds_slice n9
  have s9 := alloc_below w9 (.cells (fsC 9 4 9 (.slice a9 3 k9)) 24)
  have d9 := c9.trans (s9.mono c9.size)
  replace b0 := b0.next d9
  replace n0 := n0.below d9
  replace b1 := b1.next d9
  replace n1 := n1.below d9
  replace bX := bX.next d9
  replace hB := hB.trans (d9.mono hB.size)
  clear s9 c9 d9 n9
  obtain ⟨⟨x0, x1, x2, x3, x4, x5⟩, _⟩ := bX.six
  dsimp only at x0 x1 x2 x3 x4 x5
  go_wp2
  go_ret
  exact ⟨rfl, hB⟩

/-! ### May a file system, a path and data be looked at? -/
def fit13B (mi mb nx : Int) (l : List Nd) (base p d : List UInt8) : Bool := okB mi mb nx l && shortB l base p && decide (d.length ≤ 5000)
theorem fit13_parts {mi mb nx : Int} {l : List Nd} {base p d : List UInt8} (h : fit13B mi mb nx l base p d = true) : okB mi mb nx l = true ∧ shortB l base p = true ∧ d.length ≤ 5000 := by
  unfold fit13B at h
  simp only [Bool.and_eq_true, decide_eq_true_eq] at h
  exact ⟨h.1.1, h.1.2, h.2⟩

set_option maxHeartbeats 4000000 in
theorem fits13_any (mi mb nx : Int) (l : List Nd) (base p d : List UInt8) (v : Value) (w : World) (hv : Nds w v l) :
    Calls Tryz.prog 9 #[.agg (fsC mi mb nx v), .string ⟨base.toArray⟩, .string ⟨p.toArray⟩, .string ⟨d.toArray⟩] w fun e w' => e = .returned (.bool (fit13B mi mb nx l base p d)) ∧ Below w.heap.size w w' := by
  obtain ⟨a, ca, rfl⟩ := nds_slice hv
  have bF := Blk.new w 24 (fsC mi mb nx (.slice a l.length ca))
  have hB := alloc_below w (.cells (fsC mi mb nx (.slice a l.length ca)) 24)
  have nV := hv.below hB
  clear hv
  go_enter Tryz.func9, Tryz.ntmps9
  obtain ⟨⟨p0, p1, p2, p3⟩, _⟩ := bF.four
  go_wp2_with fail; refine (refOk_any mi mb nx l _ _ nV).mono ?_; rintro e w1 ⟨rfl, b1⟩
  (replace bF := bF.next b1; replace nV := nV.below b1; replace hB := hB.trans (b1.mono hB.size))
  clear b1 p0 p1 p2 p3
  obtain ⟨⟨p0, p1, p2, p3⟩, _⟩ := bF.four
  cases hok : okB mi mb nx l
  · have HN : Hid (fit13B mi mb nx l base p d = false) := by (show _ = _); unfold fit13B; rw [hok]; rfl
    go_wp2
    go_ret
    exact ⟨ret_bool (by rw [HN.out]), hB⟩
  go_wp2_with fail
  refine (refShort_any mi mb nx l base p _ _ nV).mono ?_
  rintro e w2 ⟨rfl, b2⟩
  have hB2 := hB.trans (b2.mono hB.size)
  cases hsh : shortB l base p
  · have HN : Hid (fit13B mi mb nx l base p d = false) := by (show _ = _); unfold fit13B; rw [hok, hsh]; rfl
    go_wp2
    go_ret
    exact ⟨ret_bool (by rw [HN.out]), hB2⟩
  · have HN : Hid (fit13B mi mb nx l base p d = decide (d.length ≤ 5000)) := by (show _ = _); unfold fit13B; rw [hok, hsh]; rfl
    go_wp2
    go_ret
    exact ⟨ret_bool (by rw [HN.out]; first | rfl | (simp; try omega)), hB2⟩
end Go.Proofs.YtkipplkaffpkjaaGreat
