/- Walks: the document's Symlink. -/
import Derived.Test.YtobepdmpacdakaaGreatQWalkC11
set_option linter.unusedVariables false
set_option linter.unusedSimpArgs false
namespace Go.Proofs.YtobepdmpacdakaaGreat
open Go.RowKit

theorem sym_empty {mi mb nx : Int} {l : List Nd} {base p : List UInt8} {ev : Value} : symF mi mb nx l base [] p ev = ((nx, l), 1) := by unfold symF; rw [if_pos rfl]
theorem sym_long {mi mb nx : Int} {l : List Nd} {base t p : List UInt8} {ev : Value} (h0 : t ≠ []) (h : 4095 < t.length) : symF mi mb nx l base t p ev = ((nx, l), 7) := by unfold symF; rw [if_neg h0, if_pos h]
theorem sym_zero {mi mb nx : Int} {l : List Nd} {base t p : List UInt8} {ev : Value} (h0 : t ≠ []) (h : ¬ 4095 < t.length) {k : Nat} (hk : k < t.length) (hz : t[k] = 0) : symF mi mb nx l base t p ev = ((nx, l), 9) := by
  have : t.contains 0 = true := by rw [List.contains_iff_mem, ← hz]; exact List.getElem_mem hk
  unfold symF; rw [if_neg h0, if_neg h, if_pos this]
theorem sym_put {mi mb nx : Int} {l : List Nd} {base t p : List UInt8} {ev : Value} (h0 : t ≠ []) (h : ¬ 4095 < t.length) (hz : ∀ j (hj : j < t.length), t[j] ≠ 0) : symF mi mb nx l base t p ev = putF mi mb nx l base p 3 t 1 ev := by
  have : t.contains 0 = false := by
    rw [Bool.eq_false_iff]
    intro hc
    rw [List.contains_iff_mem] at hc
    obtain ⟨j, hj, h2⟩ := List.getElem_of_mem hc
    exact hz j hj h2
  unfold symF; rw [if_neg h0, if_neg h, if_neg (by rw [this]; simp)]

set_option maxHeartbeats 4000000 in
theorem refSymlink_any (mi mb nx : Int) (l : List Nd) (base t p : List UInt8) (v : Value) (w : World) (hv : Nds w v l) (hf : Fit l) (hb : base.length ≤ 100000) (hp : p.length ≤ 100000) (hsn : (seekP l base p false).1.name.length ≤ 100000) (hnx : -4611686018427387904 ≤ nx ∧ nx ≤ 4611686018427387904) :
    Calls Tryz.prog 17 #[.agg (fsC mi mb nx v), .string ⟨base.toArray⟩, .string ⟨t.toArray⟩, .string ⟨p.toArray⟩] w fun e w' => ∃ y ev, e = .returned (.tuple #[.agg (fsC mi mb (symF mi mb nx l base t p ev).1.1 y), .int .i64 (symF mi mb nx l base t p ev).2]) ∧ MadeFs w v l w' y (symF mi mb nx l base t p ev).1.2 ∧ Below w.heap.size w w' := by
  obtain ⟨a, ca, rfl⟩ := nds_slice hv
  have bF := (Blk.new w 24 (fsC mi mb nx (.slice a l.length ca))).alloc (.cells (fsC 0 0 0 (.slice none 0 0)) 24)
  have bR := Blk.new (w.alloc (.cells (fsC mi mb nx (.slice a l.length ca)) 24)) 24 (fsC 0 0 0 (.slice none 0 0))
  have hB := ((Below.refl w.heap.size w).alloc (Nat.le_refl _) (.cells (fsC mi mb nx (.slice a l.length ca)) 24)).alloc (by simp) (.cells (fsC 0 0 0 (.slice none 0 0)) 24)
  simp only [World.size_alloc] at bR
  have hNV := hv.below hB
  have hPt := fun (h : t.length ≤ 100000) => refPut11_any mi mb nx 3 1 l base p t _ _ hNV hf hb hp h hsn hnx
  clear hv
  obtain ⟨⟨p0, p1, p2, p3⟩, _⟩ := bF.four
  have bR0 := bR
  obtain ⟨⟨r0, r1, r2, r3⟩, e0, e1, e2, e3⟩ := bR.four
  obtain ⟨W', hW', hb4, hg4⟩ := bR.put4 (.int .i64 mi) (.int .i64 mb) (.int .i64 nx) (.slice a l.length ca)
  have hbl := below_grown hB hg4 (Nat.le_refl _) (by omega)
  generalize hw0 : (w.alloc (.cells (fsC mi mb nx (.slice a l.length ca)) 24)).alloc (.cells (fsC 0 0 0 (.slice none 0 0)) 24) = W0 at *
  have HW := Lib.hid hW'
  clear hW'
  go_enter Tryz.func17, Tryz.ntmps17
  by_cases h0 : t = []
  · subst h0
    have HN := Lib.hid (fun ev => sym_empty (mi := mi) (mb := mb) (nx := nx) (l := l) (base := base) (p := p) (ev := ev))
    have hW' := HW.out
    go_wp2
    obtain ⟨⟨y0, y1, y2, y3⟩, _⟩ := hb4.four
    refine bodyPost_ret (v := .tuple #[.agg (fsC mi mb nx (.slice a l.length ca)), .int .i64 1]) (by simp [results, Tryz.f17, go_sem, y0, y1, y2, y3]) rfl ?_
    exact ⟨_, .slice none 0 0, by rw [HN.out], by rw [HN.out]; exact MadeFs.same _ _ _ _, hbl⟩
  have h0b : (t == []) = false := by simpa using h0
  by_cases hlo : 4095 < t.length
  · have HN := Lib.hid (fun ev => sym_long (mi := mi) (mb := mb) (nx := nx) (l := l) (base := base) (p := p) (ev := ev) h0 hlo)
    have hW' := HW.out
    clear h0
    go_wp2
    obtain ⟨⟨y0, y1, y2, y3⟩, _⟩ := hb4.four
    refine bodyPost_ret (v := .tuple #[.agg (fsC mi mb nx (.slice a l.length ca)), .int .i64 7]) (by simp [results, Tryz.f17, go_sem, y0, y1, y2, y3]) rfl ?_
    exact ⟨_, .slice none 0 0, by rw [HN.out], by rw [HN.out]; exact MadeFs.same _ _ _ _, hbl⟩
  have HZ := Lib.hid (fun ev (k : Nat) (hk : k < t.length) hz => sym_zero (mi := mi) (mb := mb) (nx := nx) (l := l) (base := base) (p := p) (ev := ev) h0 hlo hk hz)
  have HP := Lib.hid (fun ev hz => sym_put (mi := mi) (mb := mb) (nx := nx) (l := l) (base := base) (p := p) (ev := ev) h0 hlo hz)
  clear h0
  have hPt := hPt (by omega)
  have hRl := bR0.lt
  have hsz := hB.size
  go_wp2
  go_loop [10] (fun s10 => ∃ k : Nat, k ≤ t.length ∧ s10 = .int .i64 k ∧ Aside (∀ j (hj : j < t.length), j < k → t[j] ≠ 0)) (fun s10 => t.length - (intOf s10).toNat)
  case atStart => exact ⟨0, Nat.zero_le _, rfl, fun j hj h => absurd h (by omega)⟩
  case round =>
    obtain ⟨k, hk, rfl, HT⟩ := hrel
    by_cases hlt : k < t.length
    · by_cases hz : t[k] = 0
      · have HN := Lib.hid (fun ev => HZ.out ev k hlt hz)
        have hzb : ((t[k].toNat : Int) == 0) = true := by rw [hz]; rfl
        have hW' := HW.out
        clear hz hPt
        go_wp2
        obtain ⟨⟨y0, y1, y2, y3⟩, _⟩ := hb4.four
        refine bodyPost_ret (v := .tuple #[.agg (fsC mi mb nx (.slice a l.length ca)), .int .i64 9]) (by simp [results, Tryz.f17, go_sem, y0, y1, y2, y3]) rfl ?_
        exact ⟨_, .slice none 0 0, by rw [HN.out], by rw [HN.out]; exact MadeFs.same _ _ _ _, hbl⟩
      · have HT2 : Hid (∀ j (hj : j < t.length), j < k + 1 → t[j] ≠ 0) := by
          intro j hj h
          rcases Nat.lt_or_ge j k with h' | h'
          · exact HT.out j hj h'
          · obtain rfl : j = k := by omega
            exact hz
        have hzb : ((t[k].toNat : Int) == 0) = false := by
          rw [beq_eq_false_iff_ne]
          intro e
          exact hz (UInt8.toNat_inj.1 (by have : t[k].toNat = 0 := by omega
                                          rw [this]; rfl))
        clear hz
        go_wp2
        go_round
        case rel => exact ⟨k + 1, by omega, by go_num, HT2.out⟩
        case measure => simp [intOf]; omega
    · obtain rfl : k = t.length := by omega
      have HN := Lib.hid (fun ev => HP.out ev (fun j hj => HT.out j hj hj))
      clear HZ HP HT HW hb4 hg4 hbl r0 r1 r2 r3 e0 e1 e2 e3
      go_wp2_with fail
      refine hPt.mono ?_
      rintro e w3 ⟨y, ev, rfl, hN, b3⟩
      obtain ⟨ay, cy, rfl⟩ := nds_slice (hN.now hNV b3)
      have HNN := HN.out ev
      generalize putF mi mb nx l base p 3 t 1 ev = Z at *
      obtain ⟨⟨z1, z2⟩, z3⟩ := Z
      dsimp only at hN
      have HZ := Lib.hid HNN
      clear hPt HNN HN p0 p1 p2 p3
      have bR3 := bR0.next b3
      have hB3 := hB.trans (b3.mono hB.size)
      obtain ⟨⟨r0, r1, r2, r3⟩, e0, e1, e2, e3⟩ := bR3.four
      obtain ⟨W2, hW2, hb4, hg4⟩ := bR3.put4 (.int .i64 mi) (.int .i64 mb) (.int .i64 z1) (.slice ay z2.length cy)
      have hbl := below_grown hB3 hg4 (Nat.le_refl _) (by omega)
      have hM := hN.up (w := w) (w' := W2) hsz (Kept.grown hg4 hRl)
      go_wp2
      obtain ⟨⟨y0, y1, y2, y3⟩, _⟩ := hb4.four
      refine bodyPost_ret (v := .tuple #[.agg (fsC mi mb z1 (.slice ay z2.length cy)), .int .i64 z3]) (by simp [results, Tryz.f17, go_sem, y0, y1, y2, y3]) rfl ?_
      exact ⟨_, ev, by rw [HZ.out], by rw [HZ.out]; exact hM, hbl⟩
end Go.Proofs.YtobepdmpacdakaaGreat
