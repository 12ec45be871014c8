/- Texts put together: Awake15, LawBase15. -/
import Derived.Test.YtkdmfeikikmiiaaGreatVWalkP15
import Derived.Test.YtkdmfeikikmiiaaGreatVMWalkF07
import Derived.Test.YtkdmfeikikmiiaaGreatVMWalkH05
import Derived.Test.YtkdmfeikikmiiaaGreatVWalkI05
import Derived.Laws.StructEq
set_option linter.unusedVariables false
set_option linter.unusedSimpArgs false
namespace Go.Proofs.YtkdmfeikikmiiaaGreat
open Go.RowKit
set_option linter.unusedVariables false
/-- Calls, cell by cell. -/
def clsV : List CallV → List Value
  | [] => []
  | c :: l => .int .i64 c.op :: .string ⟨c.a.toArray⟩ :: .string ⟨c.b.toArray⟩ :: .string ⟨c.data.toArray⟩ :: clsV l
theorem clsV_at (l : List CallV) : ∀ (i : Nat) (h : i < l.length), (clsV l)[i * 4]? = some (.int .i64 l[i].op) ∧ (clsV l)[i * 4 + 1]? = some (.string ⟨l[i].a.toArray⟩) ∧ (clsV l)[i * 4 + 2]? = some (.string ⟨l[i].b.toArray⟩) ∧ (clsV l)[i * 4 + 3]? = some (.string ⟨l[i].data.toArray⟩) := by
  induction l with
  | nil => intro i h; cases h
  | cons c r ih =>
    intro i h
    cases i with
    | zero => exact ⟨rfl, rfl, rfl, rfl⟩
    | succ j =>
      have := ih j (by simpa using h)
      rw [show (j + 1) * 4 = j * 4 + 4 from by omega]
      exact this
theorem blk_cls {w : World} {g : Nat} {t : TypeId} {L : List CallV} (h : Blk w g t (clsV L).toArray) (hl : L.length ≤ maxLen) (hs : ∀ c ∈ L, c.a.length ≤ maxLen ∧ c.b.length ≤ maxLen ∧ c.data.length ≤ maxLen) : Cls w (.slice (some ⟨g, 0, none⟩) L.length L.length) L := by
  refine ⟨_, _, rfl, Nat.le_refl _, hl, hs, fun e => (nomatch e), fun _ => ⟨g, 0, rfl, h.lt, fun i hi => ?_⟩⟩
  have := clsV_at L i hi
  refine ⟨?_, ?_, ?_, ?_⟩
  · rw [h.cell, Nat.zero_add]; simpa using this.1
  · rw [h.cell, Nat.zero_add]; simpa using this.2.1
  · rw [h.cell, Nat.zero_add]; simpa using this.2.2.1
  · rw [h.cell, Nat.zero_add]; simpa using this.2.2.2
def wR (ev : Value) : Nd := ⟨1, 2, 0, [], 1, ev, [([97], 2)]⟩
def wA : Nd := ⟨2, 2, 1, [], 1, .slice none 0 0, []⟩
def wB (ev : Value) : Nd := ⟨2, 2, 1, [], 1, ev, [([102], 3)]⟩
def wF : Nd := ⟨3, 1, 1, [120], 0, .slice none 0 0, []⟩
def awCs : List CallV := [⟨1, [97], [], []⟩, ⟨2, [97, 47, 102], [], [120]⟩, ⟨6, [97], [], []⟩, ⟨9, [], [], []⟩]
theorem aw15_1 (ev e1 e2 : Value) : doF 9 9 (2, [rootN]) [47] ⟨1, [97], [], []⟩ ev e1 e2 = ((3, [wR ev, wA]), 0) := by
  unfold doF
  rw [if_pos rfl, putF_eq 20 (r := (⟨1, [97], 0⟩, 0)) (by kernel_rfl)]
  kernel_rfl
theorem aw15_2 (v ev e1 e2 : Value) : doF 9 9 (3, [wR v, wA]) [47] ⟨2, [97, 47, 102], [], [120]⟩ ev e1 e2 = ((4, [wR v, wB ev, wF]), 0) := by
  unfold doF
  rw [if_neg (by decide), if_pos rfl, putF_eq 20 (r := (⟨2, [102], 0⟩, 0)) (by kernel_rfl)]
  kernel_rfl
theorem aw15_3 (v u ev e1 e2 : Value) : doF 9 9 (4, [wR v, wB u, wF]) [47] ⟨6, [97], [], []⟩ ev e1 e2 = ((4, [wR v, wB u, wF]), 4) := by
  unfold doF
  rw [if_neg (by decide), if_neg (by decide), if_neg (by decide), if_neg (by decide), if_neg (by decide), if_pos rfl, unlinkF_eq 20 (r := (⟨1, [97], 2⟩, 0)) (by kernel_rfl)]
  kernel_rfl
theorem aw15_4 (s : St) (ev e1 e2 : Value) : doF 9 9 s [47] ⟨9, [], [], []⟩ ev e1 e2 = (s, 9) := by
  unfold doF
  rw [if_neg (by decide), if_neg (by decide), if_neg (by decide), if_neg (by decide), if_neg (by decide), if_neg (by decide), if_neg (by decide), if_neg (by decide)]
theorem aw_ran {s : St} {es : List Int} (h : RanN 9 9 [47] (2, [rootN]) awCs 4 s es) : es = [0, 0, 4, 9] ∧ s.2.length = 3 := by
  obtain ⟨c4, s3, es3, a1, a2, a3, hc4, ⟨c3, s2, es2, b1, b2, b3, hc3, ⟨c2, s1, es1, d1, d2, d3, hc2, ⟨c1, s0, es0, f1, f2, f3, hc1, ⟨rfl, rfl⟩, rfl, rfl⟩, rfl, rfl⟩, rfl, rfl⟩, rfl, rfl⟩ := h
  obtain rfl := Option.some.inj hc1
  obtain rfl := Option.some.inj hc2
  obtain rfl := Option.some.inj hc3
  obtain rfl := Option.some.inj hc4
  rw [aw15_1, aw15_2, aw15_3, aw15_4]
  exact ⟨rfl, rfl⟩
theorem aw_short : ∀ c ∈ awCs, c.a.length ≤ 300 ∧ c.b.length ≤ 300 ∧ c.data.length ≤ 300 := by decide
theorem aw_cls {w : World} {g : Nat} {t : TypeId} (h : Blk w g t #[.int .i64 1, .string ⟨#[97]⟩, .string ⟨#[]⟩, .string ⟨#[]⟩, .int .i64 2, .string ⟨#[97, 47, 102]⟩, .string ⟨#[]⟩, .string ⟨#[120]⟩, .int .i64 6, .string ⟨#[97]⟩, .string ⟨#[]⟩, .string ⟨#[]⟩, .int .i64 9, .string ⟨#[]⟩, .string ⟨#[]⟩, .string ⟨#[]⟩]) : Cls w (.slice (some ⟨g, 0, none⟩) 4 4) awCs := blk_cls (L := awCs) h (by unfold maxLen; decide) (fun c hc => by have := aw_short c hc; unfold maxLen; omega)
theorem aw15_run (v : Value) (w : World) (vc : Value) (hv : Nds w v [rootN]) (hc : Cls w vc awCs) :
    Calls Tryz.prog 10 #[.agg (fsC 9 9 2 v), .string ⟨#[47]⟩, vc] w fun e w' => ∃ ay cy nx g cap, e = .returned (.tuple #[.agg (fsC 9 9 nx (.slice ay 3 cy)), .slice (some ⟨g, 0, none⟩) 4 cap]) ∧ w'.cell? ⟨g, 0, none⟩ = some (.int .i64 0) ∧ w'.cell? ⟨g, 1, none⟩ = some (.int .i64 0) ∧ w'.cell? ⟨g, 2, none⟩ = some (.int .i64 4) ∧ w'.cell? ⟨g, 3, none⟩ = some (.int .i64 9) ∧ g < w'.heap.size ∧ Below w.heap.size w w' := by
  refine (Run15_any 9 9 2 [rootN] awCs [47] v vc w hv hc (n := 0) (root_kit (by decide) (by decide) (by decide) (by decide)) (by decide) (by decide) aw_short).mono ?_
  rintro e w' ⟨y, vo, s, es, rfl, hM, hO, hRan, hB⟩
  obtain ⟨rfl, hl⟩ := aw_ran hRan
  obtain ⟨ay, cy, rfl⟩ := nds_slice (hM.now hv hB)
  rw [hl]
  rcases own_cases hO with ⟨_, h, _⟩ | ⟨g, cap, rfl, _⟩
  · cases h
  · exact ⟨ay, cy, s.1, g, cap, rfl, own_int hO rfl (i := 0) (by decide), own_int hO rfl (i := 1) (by decide), own_int hO rfl (i := 2) (by decide), own_int hO rfl (i := 3) (by decide), (hO.lt g rfl).2, hB⟩
set_option maxRecDepth 100000 in
set_option maxHeartbeats 8000000 in
theorem awake15 (w : World) : Calls Tryz.prog 7 #[] w fun e w' => e = .returned (.bool true) ∧ Below w.heap.size w w' := by
  go_enter Tryz.func7, Tryz.ntmps7
  go_wp2_with fail
  refine (refNewT_any 9 9 _).mono ?_
  rintro e w0 ⟨v0, rfl, n0, hB⟩
  obtain ⟨a0, c0, rfl⟩ := nds_slice n0
  have s0 := alloc_below w0 (.cells (fsC 9 9 2 (.slice a0 1 c0)) 28)
  have b0 := Blk.new w0 28 (fsC 9 9 2 (.slice a0 1 c0))
  have s1 := alloc_below (w0.alloc (.cells (fsC 9 9 2 (.slice a0 1 c0)) 28)) (.cells #[.int .i64 1, .string ⟨#[97]⟩, .string ⟨#[]⟩, .string ⟨#[]⟩, .int .i64 2, .string ⟨#[97, 47, 102]⟩, .string ⟨#[]⟩, .string ⟨#[120]⟩, .int .i64 6, .string ⟨#[97]⟩, .string ⟨#[]⟩, .string ⟨#[]⟩, .int .i64 9, .string ⟨#[]⟩, .string ⟨#[]⟩, .string ⟨#[]⟩] 44)
  have hCl := aw_cls (Blk.new (w0.alloc (.cells (fsC 9 9 2 (.slice a0 1 c0)) 28)) 44 #[.int .i64 1, .string ⟨#[97]⟩, .string ⟨#[]⟩, .string ⟨#[]⟩, .int .i64 2, .string ⟨#[97, 47, 102]⟩, .string ⟨#[]⟩, .string ⟨#[120]⟩, .int .i64 6, .string ⟨#[97]⟩, .string ⟨#[]⟩, .string ⟨#[]⟩, .int .i64 9, .string ⟨#[]⟩, .string ⟨#[]⟩, .string ⟨#[]⟩])
  simp only [World.size_alloc] at hCl
  have n1 := (n0.below s0).below s1
  replace hB := (hB.trans (s0.mono hB.size)).trans (s1.mono (hB.trans (s0.mono hB.size)).size)
  clear s0 s1
  obtain ⟨⟨p0, p1, p2, p3⟩, _⟩ := b0.four
  go_wp2_with fail
  refine (aw15_run _ _ _ n1 hCl).mono ?_
  rintro e w1 ⟨ay, cy, nx, g, cap, rfl, g0, g1, g2, g3, hg, b1⟩
  clear p0 p1 p2 p3 b0 n0 n1 hCl
  have s2 := alloc_below w1 (.cells (fsC 9 9 nx (.slice ay 3 cy)) 28)
  have bG := Blk.new w1 28 (fsC 9 9 nx (.slice ay 3 cy))
  replace g0 := (s2.cell (p := ⟨g, 0, none⟩) hg).trans g0
  replace g1 := (s2.cell (p := ⟨g, 1, none⟩) hg).trans g1
  replace g2 := (s2.cell (p := ⟨g, 2, none⟩) hg).trans g2
  replace g3 := (s2.cell (p := ⟨g, 3, none⟩) hg).trans g3
  replace hg := Nat.lt_of_lt_of_le hg s2.size
  have hB2 := (hB.trans (b1.mono hB.size)).trans (s2.mono (hB.trans (b1.mono hB.size)).size)
  clear s2 b1 hB
  go_wp2_with fail
  refine (Tree15_bad 0 0 [] _ _ (Cls.nil_ _) (by decide)).mono ?_
  rintro e w3 ⟨rfl, b3⟩
  have s4 := alloc_below w3 (.cells (fsC 0 0 0 (.slice none 0 0)) 28)
  have d4 := b3.trans (s4.mono b3.size)
  have bH := Blk.new w3 28 (fsC 0 0 0 (.slice none 0 0))
  replace bG := bG.next d4
  replace g0 := (d4.cell (p := ⟨g, 0, none⟩) hg).trans g0
  replace g1 := (d4.cell (p := ⟨g, 1, none⟩) hg).trans g1
  replace g2 := (d4.cell (p := ⟨g, 2, none⟩) hg).trans g2
  replace g3 := (d4.cell (p := ⟨g, 3, none⟩) hg).trans g3
  have hB4 := hB2.trans (d4.mono hB2.size)
  obtain ⟨⟨p0, p1, p2, p3⟩, _⟩ := bG.four
  obtain ⟨⟨q0, q1, q2, q3⟩, _⟩ := bH.four
  have hS := refTab_any 0 0 0 0 0 0 [] [] _ _ _ (Nds.nil_ (w3.alloc (.cells (fsC 0 0 0 (.slice none 0 0)) 28))) (Nds.nil_ _)
  go_wp2_with fail
  refine hS.mono ?_
  rintro e w5 ⟨rfl, b5⟩
  go_wp2
  go_ret
  exact ⟨rfl, hB4.trans (b5.mono hB4.size)⟩
theorem zero_same (w : World) : Calls Tryz.prog 13 #[.agg #[.int .i64 0, .int .i64 0, .int .i64 0, .slice none 0 0], .agg #[.int .i64 0, .int .i64 0, .int .i64 0, .slice none 0 0]] w fun e w' => e = .returned (.bool true) ∧ Below w.heap.size w w' := by
  have := refTab_any 0 0 0 0 0 0 [] [] _ _ w (Nds.nil_ _) (Nds.nil_ _)
  exact this
/-- Tables that read alike. -/
theorem key_same (mi mb nx : Int) {a b : List Nd} (h : a.map Nd.key = b.map Nd.key) (x y : Value) (w : World) (hx : Nds w x a) (hy : Nds w y b) : Calls Tryz.prog 13 #[.agg (fsC mi mb nx x), .agg (fsC mi mb nx y)] w fun e w' => e = .returned (.bool true) ∧ Below w.heap.size w w' := by
  have := refTab_any mi mb nx mi mb nx a b x y w hx hy
  rw [show tabB mi mb nx a mi mb nx b = true from by simp [tabB, onesB, h]] at this
  exact this
end Go.Proofs.YtkdmfeikikmiiaaGreat
