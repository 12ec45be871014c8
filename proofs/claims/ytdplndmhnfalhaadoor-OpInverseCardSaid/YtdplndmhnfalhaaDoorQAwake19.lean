import Derived.Test.YtdplndmhnfalhaaDoorQWalkQ19
set_option linter.unusedVariables false
set_option linter.unusedSimpArgs false
/- Walks: awake, the answers that the document fixes for layer 19. -/
set_option linter.unusedVariables false
set_option linter.unusedSimpArgs false
namespace Go.Proofs.YtdplndmhnfalhaaDoor
open Go.RowKit

theorem one_op {W : World} {B : Nat} {t : TypeId} {o : OpV} (h : Blk W B t (opC o)) (hm : o.a.length ≤ maxLen ∧ o.b.length ≤ maxLen ∧ o.data.length ≤ maxLen) : Ops W (.slice (some ⟨B, 0, none⟩) 1 1) [o] := by
  refine ⟨_, _, rfl, Nat.le_refl _, by decide, fun c hc => by rw [List.mem_singleton.1 hc]; exact hm, (fun h => by cases h), fun _ => ⟨B, 0, rfl, h.lt, fun i hi => ?_⟩⟩
  obtain rfl : i = 0 := by simp at hi; omega
  exact ⟨(h.cell 0).trans rfl, (h.cell 1).trans rfl, (h.cell 2).trans rfl, (h.cell 3).trans rfl, (h.cell 4).trans rfl⟩
theorem two_ops {W : World} {B : Nat} {t : TypeId} {o u : OpV} (h : Blk W B t #[.int .i64 o.kind, .int .i64 o.slot, .string ⟨o.a.toArray⟩, .string ⟨o.b.toArray⟩, .string ⟨o.data.toArray⟩, .int .i64 u.kind, .int .i64 u.slot, .string ⟨u.a.toArray⟩, .string ⟨u.b.toArray⟩, .string ⟨u.data.toArray⟩]) (hm : ∀ c ∈ [o, u], c.a.length ≤ maxLen ∧ c.b.length ≤ maxLen ∧ c.data.length ≤ maxLen) : Ops W (.slice (some ⟨B, 0, none⟩) 2 2) [o, u] := by
  refine ⟨_, _, rfl, Nat.le_refl _, by decide, hm, (fun h => by cases h), fun _ => ⟨B, 0, rfl, h.lt, fun i hi => ?_⟩⟩
  obtain rfl | rfl : i = 0 ∨ i = 1 := by simp at hi; omega
  · exact ⟨(h.cell 0).trans rfl, (h.cell 1).trans rfl, (h.cell 2).trans rfl, (h.cell 3).trans rfl, (h.cell 4).trans rfl⟩
  · exact ⟨(h.cell 5).trans rfl, (h.cell 6).trans rfl, (h.cell 7).trans rfl, (h.cell 8).trans rfl, (h.cell 9).trans rfl⟩
theorem aw_may (o : OpV) (r : Bool) (h : mayO o = r) (w : World) (hL : Laid19 w) (ha : o.a.length ≤ 100000) (hb : o.b.length ≤ 100000) (hd : o.data.length ≤ 100000) :
    Calls Tryd.prog 9 #[.agg (opC o)] w fun e w' => e = .returned (.bool r) ∧ Below w.heap.size w w' := by
  have := May19_any o w hL ha hb hd
  rw [h] at this; exact this
theorem aw_plan (l : List OpV) (r : Bool) (h : planO l = r) (v : Value) (w : World) (hL : Laid19 w) (hv : Ops w v l) (hl : l.length ≤ 1000) (hsh : ∀ o ∈ l, o.a.length ≤ 100000 ∧ o.b.length ≤ 100000 ∧ o.data.length ≤ 100000) :
    Calls Tryd.prog 13 #[v] w fun e w' => e = .returned (.bool r) ∧ Below w.heap.size w w' := by
  have := Plan19_any l v w hL hv hl hsh
  rw [h] at this; exact this
theorem aw_undo (l : List OpV) (r : Bool) (h : undoO l = r) (v : Value) (w : World) (hL : Laid19 w) (hv : Ops w v l) (hl : l.length ≤ 1000) (hsh : ∀ o ∈ l, o.a.length ≤ 100000 ∧ o.b.length ≤ 100000 ∧ o.data.length ≤ 100000) :
    Calls Tryd.prog 15 #[v] w fun e w' => e = .returned (.bool r) ∧ Below w.heap.size w w' := by
  have := Undo19_any l v w hL hv hl hsh
  rw [h] at this; exact this
theorem aw_sameO (l m : List OpV) (r : Bool) (h : sameO l m = r) (v u : Value) (w : World) (hv : Ops w v l) (hu : Ops w u m) (hl : l.length ≤ 1000) (hm : m.length ≤ 1000) :
    Calls Tryd.prog 17 #[v, u] w fun e w' => e = .returned (.bool r) ∧ Below w.heap.size w w' := by
  have := Same19_any l m v u w hv hu hl hm
  rw [h] at this; exact this
theorem aw_slots (l : List OpV) (x y : Int) (h : slotsO l = [x, y]) (v : Value) (w : World) (hL : Laid19 w) (hv : Ops w v l) (hl : l.length ≤ 1000) :
    Calls Tryd.prog 11 #[v] w fun e w' => ∃ g c, e = .returned (.slice (some ⟨g, 0, none⟩) 2 c) ∧ g < w'.heap.size ∧ w'.cell? ⟨g, 0, none⟩ = some (.int .i64 x) ∧ Below w.heap.size w w' := by
  refine (Slots19_any l v w hL hv hl).mono ?_
  rintro e w' ⟨vo, rfl, ho, hb⟩
  rw [h] at ho
  rcases ho.2 with ⟨_, h2⟩ | ⟨g, cap, cur, rfl, hg, hh, _⟩
  · simp at h2
  · refine ⟨g, cap, rfl, (Array.getElem?_eq_some_iff.1 hh).1, ?_, hb⟩
    have := ho.cells (g := g) rfl 0 (.int .i64 x) rfl
    rw [Addr.add_lit] at this
    exact this
def awA : List OpV := [⟨7, 1, [47, 97], [], []⟩, ⟨7, 2, [47, 98], [], []⟩]
def awB : List OpV := [⟨9, 2, [47, 98], [], []⟩, ⟨9, 1, [47, 97], [], []⟩]
set_option maxHeartbeats 8000000 in
set_option maxRecDepth 100000 in
theorem awake19 (w : World) (hL : Laid19 w) : Calls Tryd.prog 7 #[] w fun e w' => e = .returned (.bool true) ∧ Below w.heap.size w w' := by
  have HL := Lib.hid hL
  clear hL
  have hB := Below.refl w.heap.size w
  have B1 := (Blk.new w 23 #[.int .i64 7, .int .i64 1, .string ⟨#[47, 97]⟩, .string ⟨#[]⟩, .string ⟨#[]⟩, .int .i64 7, .int .i64 2, .string ⟨#[47, 98]⟩, .string ⟨#[]⟩, .string ⟨#[]⟩]).alloc (.cells #[.int .i64 9, .int .i64 2, .string ⟨#[47, 98]⟩, .string ⟨#[]⟩, .string ⟨#[]⟩, .int .i64 9, .int .i64 1, .string ⟨#[47, 97]⟩, .string ⟨#[]⟩, .string ⟨#[]⟩] 23)
  have B2 := Blk.new (w.alloc (.cells #[.int .i64 7, .int .i64 1, .string ⟨#[47, 97]⟩, .string ⟨#[]⟩, .string ⟨#[]⟩, .int .i64 7, .int .i64 2, .string ⟨#[47, 98]⟩, .string ⟨#[]⟩, .string ⟨#[]⟩] 23)) 23 #[.int .i64 9, .int .i64 2, .string ⟨#[47, 98]⟩, .string ⟨#[]⟩, .string ⟨#[]⟩, .int .i64 9, .int .i64 1, .string ⟨#[47, 97]⟩, .string ⟨#[]⟩, .string ⟨#[]⟩]
  have g0 : Below w.heap.size w ((w.alloc (.cells #[.int .i64 7, .int .i64 1, .string ⟨#[47, 97]⟩, .string ⟨#[]⟩, .string ⟨#[]⟩, .int .i64 7, .int .i64 2, .string ⟨#[47, 98]⟩, .string ⟨#[]⟩, .string ⟨#[]⟩] 23)).alloc (.cells #[.int .i64 9, .int .i64 2, .string ⟨#[47, 98]⟩, .string ⟨#[]⟩, .string ⟨#[]⟩, .int .i64 9, .int .i64 1, .string ⟨#[47, 97]⟩, .string ⟨#[]⟩, .string ⟨#[]⟩] 23)) := ((Below.refl _ w).alloc (Nat.le_refl _) _).alloc (by simp) _
  simp only [World.size_alloc] at B2
  have nA : Ops _ _ awA := two_ops (o := ⟨7, 1, [47, 97], [], []⟩) (u := ⟨7, 2, [47, 98], [], []⟩) B1 (by decide)
  have nB : Ops _ _ awB := two_ops (o := ⟨9, 2, [47, 98], [], []⟩) (u := ⟨9, 1, [47, 97], [], []⟩) B2 (by decide)
  replace hB := hB.trans g0
  clear g0 B2
  generalize hy : (w.alloc (.cells #[.int .i64 7, .int .i64 1, .string ⟨#[47, 97]⟩, .string ⟨#[]⟩, .string ⟨#[]⟩, .int .i64 7, .int .i64 2, .string ⟨#[47, 98]⟩, .string ⟨#[]⟩, .string ⟨#[]⟩] 23)).alloc (.cells #[.int .i64 9, .int .i64 2, .string ⟨#[47, 98]⟩, .string ⟨#[]⟩, .string ⟨#[]⟩, .int .i64 9, .int .i64 1, .string ⟨#[47, 97]⟩, .string ⟨#[]⟩, .string ⟨#[]⟩] 23) = y at *
  go_enter Tryd.func7, Tryd.ntmps7
  go_wp2_with fail
  refine (aw_slots awB 2 1 (by decide) _ _ (HL.out.next hB) nB (by decide)).mono ?_
  rintro e x0 ⟨g, cg, rfl, hg, hc, g1⟩
  replace nA := nA.below g1
  replace nB := nB.below g1
  replace B1 := B1.next g1
  replace hB := hB.trans (g1.mono hB.size)
  clear g1 hy
  go_wp2_with fail
  refine (aw_plan awA true (by decide +kernel) _ _ (HL.out.next hB) nA (by decide) (by decide)).mono ?_
  rintro e x1 ⟨rfl, g1⟩
  replace nA := nA.below g1
  replace nB := nB.below g1
  replace B1 := B1.next g1
  replace hc := (g1.cell (p := ⟨g, 0, none⟩) hg).trans hc
  replace hg := Nat.lt_of_lt_of_le hg g1.size
  replace hB := hB.trans (g1.mono hB.size)
  clear g1
  go_wp2_with fail
  refine (aw_undo awA false (by decide +kernel) _ _ (HL.out.next hB) nA (by decide) (by decide)).mono ?_
  rintro e x2 ⟨rfl, g1⟩
  replace nA := nA.below g1
  replace nB := nB.below g1
  replace B1 := B1.next g1
  replace hc := (g1.cell (p := ⟨g, 0, none⟩) hg).trans hc
  replace hg := Nat.lt_of_lt_of_le hg g1.size
  replace hB := hB.trans (g1.mono hB.size)
  clear g1
  go_wp2_with fail
  refine (aw_undo awB true (by decide +kernel) _ _ (HL.out.next hB) nB (by decide) (by decide)).mono ?_
  rintro e x3 ⟨rfl, g1⟩
  replace nA := nA.below g1
  replace nB := nB.below g1
  replace B1 := B1.next g1
  replace hc := (g1.cell (p := ⟨g, 0, none⟩) hg).trans hc
  replace hg := Nat.lt_of_lt_of_le hg g1.size
  replace hB := hB.trans (g1.mono hB.size)
  clear g1
  go_wp2_with fail
  refine (aw_plan awB false (by decide +kernel) _ _ (HL.out.next hB) nB (by decide) (by decide)).mono ?_
  rintro e x4 ⟨rfl, g1⟩
  replace nA := nA.below g1
  replace nB := nB.below g1
  replace B1 := B1.next g1
  replace hc := (g1.cell (p := ⟨g, 0, none⟩) hg).trans hc
  replace hg := Nat.lt_of_lt_of_le hg g1.size
  replace hB := hB.trans (g1.mono hB.size)
  clear g1
  go_wp2_with fail
  refine (aw_sameO awA awA true (by decide) _ _ _ nA nA (by decide) (by decide)).mono ?_
  rintro e x5 ⟨rfl, g1⟩
  replace nA := nA.below g1
  replace nB := nB.below g1
  replace B1 := B1.next g1
  replace hc := (g1.cell (p := ⟨g, 0, none⟩) hg).trans hc
  replace hg := Nat.lt_of_lt_of_le hg g1.size
  replace hB := hB.trans (g1.mono hB.size)
  clear g1
  go_wp2_with fail
  refine (aw_sameO awA awB false (by decide) _ _ _ nA nB (by decide) (by decide)).mono ?_
  rintro e x6 ⟨rfl, g1⟩
  replace nA := nA.below g1
  replace nB := nB.below g1
  replace B1 := B1.next g1
  replace hc := (g1.cell (p := ⟨g, 0, none⟩) hg).trans hc
  replace hg := Nat.lt_of_lt_of_le hg g1.size
  replace hB := hB.trans (g1.mono hB.size)
  clear g1
  have c0 := (B1.cell 0).trans rfl
  have c1 := (B1.cell 1).trans rfl
  have c2 := (B1.cell 2).trans rfl
  have c3 := (B1.cell 3).trans rfl
  have c4 := (B1.cell 4).trans rfl
  go_wp2_with fail
  refine (aw_may ⟨7, 1, [47, 97], [], []⟩ true (by decide +kernel) _ (HL.out.next hB) (by decide) (by decide) (by decide)).mono ?_
  rintro e z1 ⟨rfl, g1⟩
  replace hB := hB.trans (g1.mono hB.size)
  clear g1 c0 c1 c2 c3 c4
  go_wp2_with fail
  refine (aw_may ⟨1, 0, [47], [], []⟩ false (by decide +kernel) _ (HL.out.next hB) (by decide) (by decide) (by decide)).mono ?_
  rintro e z2 ⟨rfl, g1⟩
  replace hB := hB.trans (g1.mono hB.size)
  clear g1
  go_wp2_with fail
  refine (aw_may ⟨6, 0, [47, 97], [47, 97, 47, 98], []⟩ false (by decide +kernel) _ (HL.out.next hB) (by decide) (by decide) (by decide)).mono ?_
  rintro e z3 ⟨rfl, g1⟩
  replace hB := hB.trans (g1.mono hB.size)
  go_wp2
  go_ret
  exact ⟨rfl, hB⟩
end Go.Proofs.YtdplndmhnfalhaaDoor
