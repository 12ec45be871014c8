/- Walks: New, Get. -/
import Derived.Test.YtobepdmpacdakaaGreatQ
import Derived.Test.YtobepdmpacdakaaGreatQWalkC05
set_option linter.unusedVariables false
set_option linter.unusedSimpArgs false
namespace Go.Proofs.YtobepdmpacdakaaGreat
open Go.RowKit

/-- A struct of six cells stored whole. -/
theorem new_nds {w w' : World} {L : List Nd} {v : Value} (h : NewNds w L v w') (he : EntsAll w' L) : Nds w' v L := own_nds h.1 he
theorem nds_slice {w : World} {v : Value} {l : List Nd} (h : Nds w v l) : ∃ a c, v = .slice a l.length c := by obtain ⟨a, c, h, _⟩ := h; exact ⟨a, c, h⟩
theorem alloc_below (w : World) (o : Obj) : Below w.heap.size w (w.alloc o) := (Below.refl _ w).alloc (Nat.le_refl _) _
theorem Blk.put6 {W : World} {B : Nat} {t : TypeId} {x : Nd} (h : Blk W B t (ndC x)) (y : Nd) :
    ∃ W', (((((W.setCell ⟨B, 0, none⟩ (.int .i64 y.ino)).setCell ⟨B, 1, none⟩ (.int .i64 y.kind)).setCell ⟨B, 2, none⟩ (.int .i64 y.links)).setCell ⟨B, 3, none⟩ (.string ⟨y.data.toArray⟩)).setCell ⟨B, 4, none⟩ (.int .i64 y.parent)).setCell ⟨B, 5, none⟩ y.ev = W' ∧
      Blk W' B t (ndC y) ∧ W.grownBy W' (some B) := by
  refine ⟨_, rfl, ?_, ?_⟩
  · exact (((((h.set 0 _).set 1 _).set 2 _).set 3 _).set 4 _).set 5 _
  · exact (((((grownBy_set W B 0 _).trans (grownBy_set _ B 1 _)).trans (grownBy_set _ B 2 _)).trans (grownBy_set _ B 3 _)).trans (grownBy_set _ B 4 _)).trans (grownBy_set _ B 5 _)

def rootN : Nd := ⟨1, 2, 0, [], 1, .slice none 0 0, []⟩
theorem root_all (w : World) : EntsAll w [rootN] := fun x hx => by rw [List.mem_singleton.1 hx]; exact Ents.nil_ w
theorem root_nds (w : World) (t : TypeId) (g : Nat) (hg : g = w.heap.size) : Nds (w.alloc (.cells #[.int .i64 1, .int .i64 2, .int .i64 0, .string ⟨#[]⟩, .int .i64 1, .slice none 0 0] t)) (.slice (some ⟨g, 0, none⟩) 1 1) [rootN] := by
  subst hg
  exact blk_nds (L := [rootN]) (Blk.new w t _) (by simp [maxLen]) (root_all _) 1 rfl

set_option maxHeartbeats 2000000 in
theorem GetN_any (mi mb nx n : Int) (l : List Nd) (v : Value) (w : World) (hv : Nds w v l) (hs : riseP l) (hl : l.length ≤ 1000000) (hd : ∀ x ∈ l, x.data.length ≤ 281474976710656) :
    Calls Tryz.prog 67 #[.agg (fsC mi mb nx v), .int .i64 n] w fun e w' => e = .returned (.tuple #[.agg (ndC (getN l n)), .bool (hasN l n)]) ∧ Below w.heap.size w w' := by
  obtain ⟨a, ca, rfl, hc, hm, hea, hna, HA0⟩ := id hv
  unfold maxLen at hm
  clear HA0
  have b0 := Blk.new w 24 (fsC mi mb nx (.slice a l.length ca))
  have b1 := Blk.new (w.alloc (.cells (fsC mi mb nx (.slice a l.length ca)) 24)) 45 (ndC zeroN)
  have b0' := b0.alloc (.cells (ndC zeroN) 45)
  have hB0 : Below w.heap.size w ((w.alloc (.cells (fsC mi mb nx (.slice a l.length ca)) 24)).alloc (.cells (ndC zeroN) 45)) := ((Below.refl _ w).alloc (Nat.le_refl _) _).alloc (by simp) _
  have hv2 := hv.below hB0
  clear b0
  go_enter Tryz.func67, Tryz.ntmps67
  go_wp2_with fail
  refine (searchN_any l n _ _ hv2 hs hl).mono ?_
  rintro e w1 ⟨lo, rfl, hS, hb⟩
  simp only [World.size_alloc] at b1
  have hv3 := hv2.below hb
  replace b0' := b0'.next hb
  replace b1 := b1.next hb
  have hB1 := hB0.trans (hb.mono hB0.size)
  have hlt1 : w.heap.size + 2 ≤ w1.heap.size := by have := hb.size; simp at this; omega
  clear hB0 hv2 hb hv
  obtain ⟨⟨p0, p1, p2, p3⟩, _⟩ := b0'.four
  cases hh : hasN l n
  · have HG := Lib.hid (getN_none hh)
    obtain ⟨⟨q0, q1, q2, q3, q4, q5⟩, e0, e1, e2, e3, e4, e5⟩ := b1.six
    obtain ⟨W', hW', hb4, hg4⟩ := b1.put6 zeroN
    have hbl := below_grown hB1 hg4 (Nat.le_refl _) (by omega)
    simp only [zeroN] at q0 q1 q2 q3 q4 q5 hW'
    go_wp2
    obtain ⟨⟨r0, r1, r2, r3, r4, r5⟩, _⟩ := hb4.six
    refine bodyPost_ret (v := .tuple #[.agg (ndC zeroN), .bool false]) (by simp [results, Tryz.f67, go_sem, r0, r1, r2, r3, r4, r5, zeroN]) rfl ?_
    exact ⟨by rw [HG.out, hh], hbl⟩
  · obtain ⟨hk, hg⟩ := getN_srch hS hh
    have HG := Lib.hid hg
    clear hg hS
    obtain ⟨_, _, hu, _, _, hea3, _, HA0⟩ := id hv3
    simp only [Value.slice.injEq] at hu
    obtain ⟨rfl, _, rfl⟩ := hu
    obtain ⟨b, o, rfl, hbl, hcl⟩ := HA0 (by omega)
    obtain ⟨c0, c1, c2, c3, c4, c5⟩ := hcl _ hk
    obtain ⟨ae, ne, hye, _⟩ := hea3 _ (List.getElem_mem hk)
    have hyd := hd _ (List.getElem_mem hk)
    clear hcl HA0 hea3
    generalize hy : l[lo] = y at *
    obtain ⟨yi, yk, yl, yd, yp, ye, yn⟩ := y
    dsimp only at hye c0 c1 c2 c3 c4 c5 hyd
    subst hye
    have x8 := Blk.new w1 45 (ndC ⟨yi, yk, yl, yd, yp, .slice ae yn.length ne, yn⟩)
    have b1a := b1.alloc (.cells (ndC ⟨yi, yk, yl, yd, yp, .slice ae yn.length ne, yn⟩) 45)
    have hB2 := hB1.alloc hB1.size (.cells (ndC ⟨yi, yk, yl, yd, yp, .slice ae yn.length ne, yn⟩) 45)
    go_wp2_with fail
    refine (CloneN_any yd _ hyd).mono ?_
    rintro e w2 ⟨rfl, b2⟩
    have x9 := x8.next b2
    have b1b := b1a.next b2
    have hB3 := hB2.trans (b2.mono hB2.size)
    have k3 := x9.cell 3
    have f3 := x9.frozen 3
    replace k3 := k3.trans (rfl : _ = some (Value.string ⟨yd.toArray⟩))
    have x10 := x9.set 3 (.string ⟨yd.toArray⟩)
    rw [show (ndC ⟨yi, yk, yl, yd, yp, .slice ae yn.length ne, yn⟩).setIfInBounds 3 (.string ⟨yd.toArray⟩) = ndC ⟨yi, yk, yl, yd, yp, .slice ae yn.length ne, yn⟩ from rfl] at x10
    have b1c := b1b.other (B2 := w1.heap.size) (i := 3) (by omega) (.string ⟨yd.toArray⟩)
    have hB4 := hB3.setCell (p := ⟨w1.heap.size, 3, none⟩) hB1.size (.string ⟨yd.toArray⟩)
    generalize hw3 : w2.setCell ⟨w1.heap.size, 3, none⟩ (.string ⟨yd.toArray⟩) = w3 at *
    obtain ⟨⟨q0, q1, q2, q3, q4, q5⟩, e0, e1, e2, e3, e4, e5⟩ := b1c.six
    obtain ⟨⟨s0, s1, s2, s3, s4, s5⟩, _⟩ := x10.six
    obtain ⟨W', hW', hb4, hg4⟩ := b1c.put6 ⟨yi, yk, yl, yd, yp, .slice ae yn.length ne, yn⟩
    have hbl := below_grown hB4 hg4 (Nat.le_refl _) (by omega)
    simp only [zeroN] at q0 q1 q2 q3 q4 q5
    dsimp only at hW' s0 s1 s2 s3 s4 s5
    clear x8 b1a x9 b1b b1c x10 c0 c1 c2 c3 c4 c5 p3
    go_wp2
    obtain ⟨⟨r0, r1, r2, r3, r4, r5⟩, _⟩ := hb4.six
    refine bodyPost_ret (v := .tuple #[.agg (ndC ⟨yi, yk, yl, yd, yp, .slice ae yn.length ne, yn⟩), .bool true]) (by simp [results, Tryz.f67, go_sem, r0, r1, r2, r3, r4, r5]) rfl ?_
    exact ⟨by rw [HG.out, hh], hbl⟩
end Go.Proofs.YtobepdmpacdakaaGreat
