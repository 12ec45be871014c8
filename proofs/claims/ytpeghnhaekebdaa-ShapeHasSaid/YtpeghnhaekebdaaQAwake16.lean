import Derived.Test.YtpeghnhaekebdaaQMWalkQ16
import Derived.Test.YtpeghnhaekebdaaQWalkR16
import Derived.Test.YtpeghnhaekebdaaQMWalkF07
import Derived.Test.YtpeghnhaekebdaaQMSeq08
import Derived.Deep.RegionHeld3
set_option linter.unusedVariables false
set_option linter.unusedSimpArgs false
/- Walks: awake, of shapes. -/
set_option linter.unusedVariables false
set_option linter.unusedSimpArgs false
namespace Go.Proofs.Ytpeghnhaekebdaa
open Go.RowKit
set_option linter.unusedVariables false

def sxW : List Shp := [⟨[47], 2, [], 0⟩, ⟨[47, 100], 2, [], 1⟩, ⟨[47, 100, 47, 102], 1, [122], 2⟩, ⟨[47, 103], 1, [122], 2⟩]
theorem sx_shape (e1 e2 : Value) : shapeN [sxR e1, sxD e2, sxF] = sxW := by kernel_rfl
theorem sx_root : shapeN [rootN] = [⟨[47], 2, [], 0⟩] := by kernel_rfl
theorem sx_ok0 : okB 9 9 2 [rootN] = true := by kernel_rfl
theorem sx_ok9 (e1 e2 : Value) : okB 9 9 99 [sxR e1, sxD e2, sxF] = true := by kernel_rfl
theorem trim_of {mi mb nx : Int} {l : List Nd} (h : okB mi mb nx l = true) : Trim l := by
  obtain ⟨f1, f2, f3⟩ := few_ents (ok_parts h).1
  exact ⟨f3, by omega, by rw [list_exact (tree_of h)]; omega⟩
theorem sx_trim (e1 e2 : Value) : Trim [sxR e1, sxD e2, sxF] := trim_of (sx_ok9 e1 e2)
theorem sx_trim0 : Trim [rootN] := trim_of sx_ok0
theorem aw16_of (e1 e2 : Value) (v : Value) (w : World) (hv : Nds w v [sxR e1, sxD e2, sxF]) : Calls Try.prog 9 #[.agg (fsC 9 9 9 v)] w fun e w' => ∃ y, e = .returned y ∧ Shps w' y sxW ∧ Below w.heap.size w w' := by
  have := Of16_any 9 9 9 [sxR e1, sxD e2, sxF] v w hv (ok_s (sx_ok e1 e2)) (sx_trim e1 e2)
  rwa [sx_shape] at this
theorem aw16_lines (va vb : Value) (w : World) (ha : Shps w va sxW) (hb : Shps w vb sxW) : Calls Try.prog 8 #[va, vb] w fun e w' => e = .returned (.bool true) ∧ Below w.heap.size w w' := by
  have := refLines_any sxW sxW va vb w ha hb
  rwa [decide_eq_true (rfl : sxW = sxW)] at this
theorem aw16_same (e1 e2 : Value) (v : Value) (w : World) (hv : Nds w v [sxR e1, sxD e2, sxF]) : Calls Try.prog 11 #[.agg (fsC 9 9 9 v), .agg (fsC 9 9 99 v)] w fun e w' => e = .returned (.bool true) ∧ Below w.heap.size w w' := by
  have := Same16_any 9 9 9 9 9 99 _ _ v v w hv hv (ok_s (sx_ok e1 e2)) (ok_s (sx_ok9 e1 e2)) (sx_trim e1 e2) (sx_trim e1 e2)
  rwa [decide_eq_true rfl] at this
theorem aw16_apart (e1 e2 : Value) (v u : Value) (w : World) (hv : Nds w v [sxR e1, sxD e2, sxF]) (hu : Nds w u [rootN]) : Calls Try.prog 11 #[.agg (fsC 9 9 9 v), .agg (fsC 9 9 2 u)] w fun e w' => e = .returned (.bool false) ∧ Below w.heap.size w w' := by
  have := Same16_any 9 9 9 9 9 2 _ _ v u w hv hu (ok_s (sx_ok e1 e2)) (ok_s sx_ok0) (sx_trim e1 e2) sx_trim0
  rwa [decide_eq_false (by rw [sx_shape, sx_root]; decide)] at this
theorem aw16_has (e1 e2 : Value) (k : Int) (v : Value) (w : World) (r : Bool) (hv : Nds w v [sxR e1, sxD e2, sxF]) (hr : ([sxR e1, sxD e2, sxF].any (fun x => x.data == [122] && x.kind == k)) = r) : Calls Try.prog 13 #[.agg (fsC 9 9 9 v), .string ⟨#[122]⟩, .int .i64 k] w fun e w' => e = .returned (.bool r) ∧ Below w.heap.size w w' := by
  have := Has16_any 9 9 9 k [sxR e1, sxD e2, sxF] [122] v w hv (by simp)
  rwa [hr] at this
theorem aw16_lit {w : World} {g : Nat} {t : TypeId} (h : Blk w g t #[.string ⟨#[47]⟩, .int .i64 2, .string ⟨#[]⟩, .int .i64 0, .string ⟨#[47, 100]⟩, .int .i64 2, .string ⟨#[]⟩, .int .i64 1, .string ⟨#[47, 100, 47, 102]⟩, .int .i64 1, .string ⟨#[122]⟩, .int .i64 2, .string ⟨#[47, 103]⟩, .int .i64 1, .string ⟨#[122]⟩, .int .i64 2]) : Shps w (.slice (some ⟨g, 0, none⟩) 4 4) sxW := blk_shps (L := sxW) h (by unfold maxLen; decide)

set_option maxRecDepth 100000 in
set_option maxHeartbeats 16000000 in
theorem awake16 (w : World) : Calls Try.prog 6 #[] w fun e w' => e = .returned (.bool true) ∧ Below w.heap.size w w' := by
  go_enter Try.func6, Try.ntmps6
  go_wp2_with fail
  refine (small16_any _).mono ?_
  rintro e w1 ⟨v1, e1, e2, rfl, n1, b1⟩
  unfold sxL at n1
  obtain ⟨a1, c1, rfl⟩ := nds_slice n1
  have bF2 := (Blk.new w1 24 (fsC 9 9 9 (.slice a1 3 c1))).alloc (.cells (fsC 9 9 99 (.slice a1 3 c1)) 24)
  have bG2 := Blk.new (w1.alloc (.cells (fsC 9 9 9 (.slice a1 3 c1)) 24)) 24 (fsC 9 9 99 (.slice a1 3 c1))
  have s2 : Below w1.heap.size w1 ((w1.alloc (.cells (fsC 9 9 9 (.slice a1 3 c1)) 24)).alloc (.cells (fsC 9 9 99 (.slice a1 3 c1)) 24)) := (alloc_below w1 _).alloc (by simp) _
  simp only [World.size_alloc] at bG2
  have n3 := n1.below s2
  have hB2 := b1.trans (s2.mono b1.size)
  obtain ⟨r0, r1, r2, r3⟩ := (Blk.new w1 24 (fsC 9 9 9 (.slice a1 3 c1))).four.1
  go_upto_region 4 with fail
  generalize (w1.alloc (.cells (fsC 9 9 9 (.slice a1 3 c1)) 24)).alloc (.cells (fsC 9 9 99 (.slice a1 3 c1)) 24) = w0 at *
  generalize w1.heap.size = BF at *
  clear r0 r1 r2 r3 s2 n1
  replace n3 : Nds w0 (.slice a1 3 c1) [sxR e1, sxD e2, sxF] := n3
  have HMK : ∀ W, Below w0.heap.size w0 W → (fun W => W.cell? ⟨BF, 0, none⟩ = some (.int .i64 9) ∧ W.cell? ⟨BF, 1, none⟩ = some (.int .i64 9) ∧ W.cell? ⟨BF, 2, none⟩ = some (.int .i64 9) ∧ W.cell? ⟨BF, 3, none⟩ = some (.slice a1 3 c1) ∧ W.cell? ⟨BF + 1, 0, none⟩ = some (.int .i64 9) ∧ W.cell? ⟨BF + 1, 1, none⟩ = some (.int .i64 9) ∧ W.cell? ⟨BF + 1, 2, none⟩ = some (.int .i64 99) ∧ W.cell? ⟨BF + 1, 3, none⟩ = some (.slice a1 3 c1)) W := by
    intro W h
    obtain ⟨⟨x0, x1, x2, x3⟩, _⟩ := (bF2.next h).four
    obtain ⟨⟨y0, y1, y2, y3⟩, _⟩ := (bG2.next h).four
    exact ⟨x0, x1, x2, x3, y0, y1, y2, y3⟩
  have hq : Below w0.heap.size w0 w0.drew := (Below.refl _ _).drew
  have hL1 : Shps (w0.alloc (.cells #[.string ⟨#[47]⟩, .int .i64 2, .string ⟨#[]⟩, .int .i64 0, .string ⟨#[47, 100]⟩, .int .i64 2, .string ⟨#[]⟩, .int .i64 1, .string ⟨#[47, 100, 47, 102]⟩, .int .i64 1, .string ⟨#[122]⟩, .int .i64 2, .string ⟨#[47, 103]⟩, .int .i64 1, .string ⟨#[122]⟩, .int .i64 2] 37)).drew (.slice (some ⟨w0.heap.size, 0, none⟩) 4 4) sxW := aw16_lit (Blk.new w0 37 #[.string ⟨#[47]⟩, .int .i64 2, .string ⟨#[]⟩, .int .i64 0, .string ⟨#[47, 100]⟩, .int .i64 2, .string ⟨#[]⟩, .int .i64 1, .string ⟨#[47, 100, 47, 102]⟩, .int .i64 1, .string ⟨#[122]⟩, .int .i64 2, .string ⟨#[47, 103]⟩, .int .i64 1, .string ⟨#[122]⟩, .int .i64 2])
  have hq1 : Below w0.heap.size w0 (w0.alloc (.cells #[.string ⟨#[47]⟩, .int .i64 2, .string ⟨#[]⟩, .int .i64 0, .string ⟨#[47, 100]⟩, .int .i64 2, .string ⟨#[]⟩, .int .i64 1, .string ⟨#[47, 100, 47, 102]⟩, .int .i64 1, .string ⟨#[122]⟩, .int .i64 2, .string ⟨#[47, 103]⟩, .int .i64 1, .string ⟨#[122]⟩, .int .i64 2] 37)).drew := ((Below.refl _ w0).alloc (Nat.le_refl _) _).drew
  go_region_held3 (fun W => W.cell? ⟨BF, 0, none⟩ = some (.int .i64 9) ∧ W.cell? ⟨BF, 1, none⟩ = some (.int .i64 9) ∧ W.cell? ⟨BF, 2, none⟩ = some (.int .i64 9) ∧ W.cell? ⟨BF, 3, none⟩ = some (.slice a1 3 c1) ∧ W.cell? ⟨BF + 1, 0, none⟩ = some (.int .i64 9) ∧ W.cell? ⟨BF + 1, 1, none⟩ = some (.int .i64 9) ∧ W.cell? ⟨BF + 1, 2, none⟩ = some (.int .i64 99) ∧ W.cell? ⟨BF + 1, 3, none⟩ = some (.slice a1 3 c1))
    (first | with_reducible exact HMK _ hq | with_reducible exact HMK _ (hq.alloc hq.size _) | with_reducible exact HMK _ hq1)
    (first
      | (go_at_call 9; (with_reducible refine (aw16_of e1 e2 _ _ (n3.below hq)).mono ?_); rintro e wz ⟨yA, rfl, nA, bz⟩; have hq := hq.trans (bz.mono hq.size))
      | (go_at_call 9; (with_reducible refine (aw16_of e1 e2 _ _ (n3.below hq1)).mono ?_); rintro e wz ⟨yA, rfl, nA, bz⟩; have hq := hq1.trans (bz.mono hq1.size); have nL := hL1.below bz)
      | (go_at_call 8; (with_reducible refine (aw16_lines _ _ _ nA nL).mono ?_); rintro e wz ⟨rfl, bz⟩; have hq := hq.trans (bz.mono hq.size))
      | (go_at_call 8; (with_reducible refine (aw16_lines _ _ _ (nA.below (alloc_below _ (.cells #[.string ⟨#[47]⟩, .int .i64 2, .string ⟨#[]⟩, .int .i64 0, .string ⟨#[47, 100]⟩, .int .i64 2, .string ⟨#[]⟩, .int .i64 1, .string ⟨#[47, 100, 47, 102]⟩, .int .i64 1, .string ⟨#[122]⟩, .int .i64 2, .string ⟨#[47, 103]⟩, .int .i64 1, .string ⟨#[122]⟩, .int .i64 2] 37))) (aw16_lit (Blk.new _ 37 #[.string ⟨#[47]⟩, .int .i64 2, .string ⟨#[]⟩, .int .i64 0, .string ⟨#[47, 100]⟩, .int .i64 2, .string ⟨#[]⟩, .int .i64 1, .string ⟨#[47, 100, 47, 102]⟩, .int .i64 1, .string ⟨#[122]⟩, .int .i64 2, .string ⟨#[47, 103]⟩, .int .i64 1, .string ⟨#[122]⟩, .int .i64 2]))).mono ?_); rintro e wz ⟨rfl, bz⟩; have hq := (hq.alloc hq.size (.cells #[.string ⟨#[47]⟩, .int .i64 2, .string ⟨#[]⟩, .int .i64 0, .string ⟨#[47, 100]⟩, .int .i64 2, .string ⟨#[]⟩, .int .i64 1, .string ⟨#[47, 100, 47, 102]⟩, .int .i64 1, .string ⟨#[122]⟩, .int .i64 2, .string ⟨#[47, 103]⟩, .int .i64 1, .string ⟨#[122]⟩, .int .i64 2] 37)).trans (bz.mono (hq.alloc hq.size (.cells #[.string ⟨#[47]⟩, .int .i64 2, .string ⟨#[]⟩, .int .i64 0, .string ⟨#[47, 100]⟩, .int .i64 2, .string ⟨#[]⟩, .int .i64 1, .string ⟨#[47, 100, 47, 102]⟩, .int .i64 1, .string ⟨#[122]⟩, .int .i64 2, .string ⟨#[47, 103]⟩, .int .i64 1, .string ⟨#[122]⟩, .int .i64 2] 37)).size))
      | (go_at_call 11; (with_reducible refine (aw16_same e1 e2 _ _ (n3.below hq)).mono ?_); rintro e wz ⟨rfl, bz⟩; have hq := hq.trans (bz.mono hq.size))
      | (go_at_call 15; refine (refNewT_any 9 9 _).mono ?_; rintro e wz ⟨vN, rfl, nN, bz⟩; obtain ⟨aN, cN, rfl⟩ := nds_slice nN; replace nN : Nds _ (.slice aN 1 cN) [rootN] := nN; have hq := hq.trans (bz.mono hq.size))
      | (go_at_call 11; (with_reducible refine (aw16_apart e1 e2 _ _ _ (n3.below hq) nN).mono ?_); rintro e wz ⟨rfl, bz⟩; have hq := hq.trans (bz.mono hq.size))
      | (go_at_call 13; (with_reducible refine (aw16_has e1 e2 1 _ _ true (n3.below hq) rfl).mono ?_); rintro e wz ⟨rfl, bz⟩; have hq := hq.trans (bz.mono hq.size))
      | (go_at_call 13; (with_reducible refine (aw16_has e1 e2 3 _ _ false (n3.below hq) rfl).mono ?_); rintro e wz ⟨rfl, bz⟩; have hq := hq.trans (bz.mono hq.size)))
  all_goals go_wp2
  all_goals go_ret
  all_goals exact ⟨rfl, hB2.trans (hq.mono hB2.size)⟩
end Go.Proofs.Ytpeghnhaekebdaa
