/- Texts put together: WalkC05, WalkD05, RangeAid, WalkG03, WalkH03, WalkA04, WalkI03, CopyN, Clone, WalkE04, WalkG04, HeldAid, WalkA06, Leads09, Cut, WalkA03, WalkB03. -/
import Derived.Test.YtkdmfeikikmiiaaGreatVMWalkB05
import Derived.Deep.RegionWith
import Derived.Maps.AppendAt
import Derived.Deep.Cut
import Derived.Deep.CutRange
import Derived.Test.YtkdmfeikikmiiaaGreatVMList11
import Derived.RangeFuncNested
import Derived.RangeFuncBox
import Derived.RangeFuncBound
import Derived.RangeFuncCalls
import Derived.RangeFuncLeaves
import Derived.Shelf.Abstract
import Derived.Shelf.RegionOpen
import Derived.WalkKit
import Derived.OwnWalkIn
import Derived.TacticsInMore
import Derived.LoopNIn
import Derived.LoopIn
import Derived.Test.YtkdmfeikikmiiaaGreatVMPure09
import Derived.Test.YtkdmfeikikmiiaaGreatChecked
import Derived.Deep.LoopGhost
import Derived.BigQuiet
import Derived.StillTailTactics
import Derived.Lib.Strings
import Derived.Laws.CopyOwn
import Derived.Below
import Derived.OwnWalk
import Derived.Laws.StructEq
import Derived.Deep.RegionHeld3
import Derived.Shelf.RegionOpenPlain
import Derived.Deep.Draws
import Derived.Laws.Strings3
import Derived.BigGuard
set_option linter.unusedVariables false
set_option linter.unusedSimpArgs false
namespace Go.Proofs.YtkdmfeikikmiiaaGreat
open Go.RowKit
theorem CloneN_any (l : List UInt8) (w : World) (hl : l.length ≤ 281474976710656) :
    Calls Tryz.prog 96 #[.string ⟨l.toArray⟩] w fun e w' => e = .returned (.string ⟨l.toArray⟩) ∧ Below w.heap.size w w' := by
  go_enter Tryz.func96, Tryz.ntmps96
  go_wp2_with fail
  refine (Tryz.stringslite_Clone _ _ (by simp [ByteArray.size]; omega)).mono ?_
  rintro e w' ⟨rfl, hB⟩
  go_wp2
  go_ret
  exact ⟨rfl, hB⟩
/-- A table's cells. -/
abbrev fsC (mi mb nx : Int) (v : Value) : Array Value := #[.int .i64 mi, .int .i64 mb, .int .i64 nx, v]
theorem own_base {w : World} {base base' : Nat} {e : TypeId} {size : Nat} {v : Value} {n : Nat} {xs : List Value} (h : w.ownsRow base e size v n xs) (hb : base' ≤ base) : w.ownsRow base' e size v n xs := by
  refine ⟨h.1, ?_⟩
  rcases h.2 with h2 | ⟨g, cap, cur, hv, hg, r⟩
  · exact .inl h2
  · exact .inr ⟨g, cap, cur, hv, Nat.le_trans hb hg, r⟩
/-- An owned row: nil, or a block. -/
theorem own_cases {w : World} {base : Nat} {e : TypeId} {size : Nat} {v : Value} {n : Nat} {xs : List Value} (h : w.ownsRow base e size v n xs) :
    (v = .slice none 0 0 ∧ n = 0 ∧ xs = []) ∨ ∃ g cap, v = .slice (some ⟨g, 0, none⟩) n cap ∧ base ≤ g ∧ g < w.heap.size ∧ n ≤ cap ∧ cap ≤ maxLen := by
  rcases h.2 with ⟨rfl, rfl⟩ | ⟨g, cap, cur, rfl, hg, hh, hnc, hcm, _⟩
  · exact .inl ⟨rfl, rfl, List.eq_nil_of_length_eq_zero (by simpa using h.1)⟩
  · exact .inr ⟨g, cap, rfl, hg, (Array.getElem?_eq_some_iff.1 hh).1, hnc, hcm⟩
/-- A cell of an owned row set to what it holds. -/
theorem own_set_same {w : World} {base : Nat} {e : TypeId} {size g cap n : Nat} {xs : List Value} (h : w.ownsRow base e size (.slice (some ⟨g, 0, none⟩) n cap) n xs) {j : Nat} {u : Value} (hj : xs[j]? = some u) :
    (w.setCell ⟨g, j, none⟩ u).ownsRow base e size (.slice (some ⟨g, 0, none⟩) n cap) n xs ∧ w.grownBy (w.setCell ⟨g, j, none⟩ u) (some g) := by
  have h2 := h.stored j u
  have e1 : xs.set j u = xs := by
    apply List.ext_getElem?
    intro i
    rw [List.getElem?_set]
    split
    · rename_i e; subst e
      split
      · exact hj.symm
      · rename_i hh; rw [List.getElem?_eq_none (by omega)]
    · rfl
  simpa [e1] using h2
theorem own_at {w : World} {base : Nat} {e : TypeId} {g cap : Nat} {L : List Nd} (h : w.ownsRow base e 6 (.slice (some ⟨g, 0, none⟩) L.length cap) L.length (ndsV L)) {k : Nat} (hk : k < L.length) : NdAt w g (k * 6) L[k] := by
  have hat := ndsV_at L k hk
  have c := fun j (hj : j < L.length * 6) => h.cellAt j hj
  exact ⟨(c _ (by omega)).trans hat.1, (c _ (by omega)).trans hat.2.1, (c _ (by omega)).trans hat.2.2.1, (c _ (by omega)).trans hat.2.2.2.1, (c _ (by omega)).trans hat.2.2.2.2.1, (c _ (by omega)).trans hat.2.2.2.2.2⟩
/-- A block of four cells: what a walk asks of it. -/
theorem Blk.four {W : World} {B : Nat} {t : TypeId} {a b c d : Value} (h : Blk W B t #[a, b, c, d]) :
    (W.cell? ⟨B, 0, none⟩ = some a ∧ W.cell? ⟨B, 1, none⟩ = some b ∧ W.cell? ⟨B, 2, none⟩ = some c ∧ W.cell? ⟨B, 3, none⟩ = some d) ∧
      (W.frozen? ⟨B, 0, none⟩ = false ∧ W.frozen? ⟨B, 1, none⟩ = false ∧ W.frozen? ⟨B, 2, none⟩ = false ∧ W.frozen? ⟨B, 3, none⟩ = false) :=
  ⟨⟨(h.cell 0).trans rfl, (h.cell 1).trans rfl, (h.cell 2).trans rfl, (h.cell 3).trans rfl⟩, h.frozen 0, h.frozen 1, h.frozen 2, h.frozen 3⟩
/-- A struct of four cells stored whole. -/
theorem Blk.put4 {W : World} {B : Nat} {t : TypeId} {a b c d : Value} (h : Blk W B t #[a, b, c, d]) (p q r s : Value) :
    ∃ W', (((W.setCell ⟨B, 0, none⟩ p).setCell ⟨B, 1, none⟩ q).setCell ⟨B, 2, none⟩ r).setCell ⟨B, 3, none⟩ s = W' ∧ Blk W' B t #[p, q, r, s] ∧ W.grownBy W' (some B) := by
  refine ⟨_, rfl, ?_, ?_⟩
  · exact (((h.set 0 p).set 1 q).set 2 r).set 3 s
  · exact (((grownBy_set W B 0 p).trans (grownBy_set _ B 1 q)).trans (grownBy_set _ B 2 r)).trans (grownBy_set _ B 3 s)
theorem below_grown {n : Nat} {w0 W W' : World} {B : Nat} (h : Below n w0 W) (hg : W.grownBy W' (some B)) (hn : n ≤ w0.heap.size) (hB : n ≤ B) : Below n w0 W' := h.grown hg (Nat.le_trans hn h.size) (fun k hk => by cases hk; exact hB)
/-- A block of six cells: what a walk asks of it. -/
def Six (W : World) (B : Nat) (x : Nd) : Prop := W.cell? ⟨B, 0, none⟩ = some (.int .i64 x.ino) ∧ W.cell? ⟨B, 1, none⟩ = some (.int .i64 x.kind) ∧ W.cell? ⟨B, 2, none⟩ = some (.int .i64 x.links) ∧
  W.cell? ⟨B, 3, none⟩ = some (.string ⟨x.data.toArray⟩) ∧ W.cell? ⟨B, 4, none⟩ = some (.int .i64 x.parent) ∧ W.cell? ⟨B, 5, none⟩ = some x.ev
theorem Blk.six {W : World} {B : Nat} {t : TypeId} {x : Nd} (h : Blk W B t (ndC x)) :
    Six W B x ∧ (W.frozen? ⟨B, 0, none⟩ = false ∧ W.frozen? ⟨B, 1, none⟩ = false ∧ W.frozen? ⟨B, 2, none⟩ = false ∧ W.frozen? ⟨B, 3, none⟩ = false ∧ W.frozen? ⟨B, 4, none⟩ = false ∧ W.frozen? ⟨B, 5, none⟩ = false) :=
  ⟨⟨(h.cell 0).trans rfl, (h.cell 1).trans rfl, (h.cell 2).trans rfl, (h.cell 3).trans rfl, (h.cell 4).trans rfl, (h.cell 5).trans rfl⟩, h.frozen 0, h.frozen 1, h.frozen 2, h.frozen 3, h.frozen 4, h.frozen 5⟩
theorem PartsN.below {w w' : World} {v : Value} {ps : List (List Nd)} (h : PartsN w v ps) (hb : Below w.heap.size w w') : PartsN w' v ps := by
  obtain ⟨a, cap, rfl, h1⟩ := h
  refine ⟨a, cap, rfl, fun hl => ?_⟩
  obtain ⟨b, off, rfl, hlt, hx⟩ := h1 hl
  refine ⟨b, off, rfl, Nat.lt_of_lt_of_le hlt hb.size, fun i hi => ?_⟩
  obtain ⟨x, hc, hn⟩ := hx i hi
  exact ⟨x, (hb.cell (p := ⟨b, off + i, none⟩) hlt).trans hc, hn.below hb⟩
set_option maxHeartbeats 4000000 in
theorem holding_any (mi mb nx : Int) (fv : Value) (ps : List (List Nd)) (v : Value) (w : World) (hv : PartsN w v ps) (hp : ps.length ≤ 1000000) (hn : ps.flatten.length ≤ 1000000) (hd : ∀ x ∈ ps.flatten, x.data.length ≤ 281474976710656) :
    Calls Tryz.prog 121 #[.agg (fsC mi mb nx fv), v] w fun e w' => ∃ x, e = .returned (.agg (fsC mi mb nx x)) ∧ NewNds w ps.flatten x w' := by
  have hev : ∀ x ∈ ps.flatten, ∃ a n c, x.ev = .slice a n c := by
    obtain ⟨_, _, _, h1⟩ := hv
    intro x hx
    obtain ⟨l, hl, hxl⟩ := List.mem_flatten.1 hx
    obtain ⟨i, hi, rfl⟩ := List.getElem_of_mem hl
    obtain ⟨_, _, _, _, h2⟩ := h1 (by omega)
    obtain ⟨_, _, h3⟩ := h2 i hi
    obtain ⟨a, c, h4, _⟩ := h3.all x hxl
    exact ⟨_, _, _, h4⟩
  have b0 := Blk.new w 28 (fsC mi mb nx fv)
  have b1 := Blk.new (w.alloc (.cells (fsC mi mb nx fv) 28)) 28 (fsC 0 0 0 (.slice none 0 0))
  have b0' := b0.alloc (.cells (fsC 0 0 0 (.slice none 0 0)) 28)
  have hB0 : Below w.heap.size w ((w.alloc (.cells (fsC mi mb nx fv) 28)).alloc (.cells (fsC 0 0 0 (.slice none 0 0)) 28)) := ((Below.refl _ w).alloc (Nat.le_refl _) _).alloc (by simp) _
  have hP := hv.below hB0
  have HC := ConcatN_any ps _ _ hP hp hn
  generalize ps.flatten = L at *
  clear b0 hP
  go_enter Tryz.func121, Tryz.ntmps121
  go_wp2_with fail
  refine HC.mono ?_
  rintro e w1 ⟨x, rfl, hown, hb1⟩
  clear HC
  simp only [World.size_alloc] at b1
  replace b0' := b0'.next hb1
  replace b1 := b1.next hb1
  have hown1 := own_base hown (base' := w.heap.size) (by simp; omega)
  replace hB0 := hB0.trans (hb1.mono hB0.size)
  have hlt1 : w.heap.size + 2 ≤ w1.heap.size := by have := hb1.size; simp at this; omega
  have hgb : ∀ g, x.ownBlock = some g → w.heap.size + 2 ≤ g := fun g hg => by have := (hown.lt g hg).1; simp at this; omega
  clear hown hb1
  have c3 := b0'.cell 3
  have f3 := b0'.frozen 3
  simp [fsC] at c3
  have HL := Lib.hid hd
  have HEV := Lib.hid hev
  clear hd hev
  have b2 := b0'.set 3 x
  rw [show (fsC mi mb nx fv).setIfInBounds 3 x = fsC mi mb nx x from rfl] at b2
  have b3 := b1.other (B2 := w.heap.size) (i := 3) (by omega) x
  have hB3 := hB0.setCell (p := ⟨w.heap.size, 3, none⟩) (Nat.le_refl _) x
  have hown3 := hown1.kept (grownBy_set w1 w.heap.size 3 x) (by
    rcases own_cases hown1 with ⟨rfl, _⟩ | ⟨g, cap, rfl, _⟩
    · exact .inl rfl
    · exact .inr (by have := hgb g rfl; simp [Value.ownBlock]; omega))
  clear b0' b1 hB0
  rcases own_cases hown1 with ⟨rfl, hL0, _⟩ | ⟨g, cap, rfl, hwg, hg1, hLc, hcm⟩
  · clear hown1 hgb
    generalize hw3 : w1.setCell ⟨w.heap.size, 3, none⟩ (.slice none 0 0) = w3 at *
    have H3 := Lib.hid (show _ ∧ _ ∧ _ ∧ _ from ⟨b2, b3, hB3, hown3⟩)
    obtain ⟨⟨p0, p1, p2, p3⟩, _⟩ := b2.four
    obtain ⟨⟨q0, q1, q2, q3⟩, e0, e1, e2, e3⟩ := b3.four
    clear b2 b3 hB3 hown3
    go_wp2
    clear hw3
    go_loopg [13] 0 (fun g s13 wr => s13 = .int .i64 0 ∧ wr = w3)
    case atStart => exact ⟨rfl, rfl⟩
    case round =>
      obtain ⟨rfl, rfl⟩ := hrel
      obtain ⟨b2, b3, hB3, hown3⟩ := H3.out
      obtain ⟨W', hW', hb4, hg4⟩ := b3.put4 (.int .i64 mi) (.int .i64 mb) (.int .i64 nx) (.slice none 0 0)
      have hbl := below_grown hB3 hg4 (Nat.le_refl _) (by omega)
      have hown4 := hown3.kept hg4 (.inl rfl)
      clear b2 b3 hB3 hown3 hg4
      go_wp2
      obtain ⟨⟨r0, r1, r2, r3⟩, _⟩ := hb4.four
      clear hW' hb4 p0 p1 p2 p3 q0 q1 q2 q3 e0 e1 e2 e3
      refine bodyPost_ret (v := .agg (fsC mi mb nx (.slice none 0 0))) (by simp [results, Tryz.f121, go_sem, r0, r1, r2, r3]) rfl ?_
      exact ⟨_, rfl, hown4, hbl⟩
  · have hg2 := hgb g rfl
    clear hown1 hgb
    generalize hw3 : w1.setCell ⟨w.heap.size, 3, none⟩ (.slice (some ⟨g, 0, none⟩) L.length cap) = w3 at *
    have H3 := Lib.hid (show _ ∧ _ ∧ _ ∧ _ from ⟨b2, b3, hB3, hown3⟩)
    obtain ⟨⟨p0, p1, p2, p3⟩, _⟩ := b2.four
    clear b2 b3 hB3 hown3 hg1
    unfold maxLen at hcm
    go_wp2
    clear hw3 p0 p1 p2 p3
    go_loopg [13] L.length (fun G s13 wr => ∃ k : Nat, k + G = L.length ∧ s13 = .int .i64 k ∧ Below w.heap.size w wr ∧ Aside (Blk wr w.heap.size 28 (fsC mi mb nx (.slice (some ⟨g, 0, none⟩) L.length cap))) ∧ Aside (Blk wr (w.heap.size + 1) 28 (fsC 0 0 0 (.slice none 0 0))) ∧ Aside (wr.ownsRow w.heap.size 49 6 (.slice (some ⟨g, 0, none⟩) L.length cap) L.length (ndsV L)))
    case atStart => exact ⟨0, by omega, rfl, H3.out.2.2.1, H3.out.1, H3.out.2.1, H3.out.2.2.2⟩
    case round =>
      obtain ⟨k, hkg, rfl, hbw, HB2, HB3, HO⟩ := hrel
      by_cases hlt : k < L.length
      · obtain ⟨G, rfl⟩ : ∃ G, gk = G + 1 := ⟨gk - 1, by omega⟩
        obtain ⟨c0, c1, c2, c3, c4, c5⟩ := own_at HO.out hlt
        have hat := (ndsV_at L k hlt).2.2.2.1
        have hyd := HL.out _ (List.getElem_mem hlt)
        obtain ⟨ae, ne, ce, hye⟩ := HEV.out _ (List.getElem_mem hlt)
        rw [hye] at c5
        generalize L[k].data = yd at *
        generalize L[k].ino = y0 at *
        generalize L[k].kind = y1 at *
        generalize L[k].links = y2 at *
        generalize L[k].parent = y4 at *
        have HAT := Lib.hid hat
        have x1 := Blk.new wr 49 #[.int .i64 y0, .int .i64 y1, .int .i64 y2, .string ⟨yd.toArray⟩, .int .i64 y4, .slice ae ne ce]
        have hb5 : Below w.heap.size w (wr.alloc (.cells #[.int .i64 y0, .int .i64 y1, .int .i64 y2, .string ⟨yd.toArray⟩, .int .i64 y4, .slice ae ne ce] 49)) := hbw.alloc (Nat.le_trans hbw.size (Nat.le_refl _)) _
        have B2 := HB2.out.alloc (.cells #[.int .i64 y0, .int .i64 y1, .int .i64 y2, .string ⟨yd.toArray⟩, .int .i64 y4, .slice ae ne ce] 49)
        have B3 := HB3.out.alloc (.cells #[.int .i64 y0, .int .i64 y1, .int .i64 y2, .string ⟨yd.toArray⟩, .int .i64 y4, .slice ae ne ce] 49)
        have O5 := HO.out.alloc (.cells #[.int .i64 y0, .int .i64 y1, .int .i64 y2, .string ⟨yd.toArray⟩, .int .i64 y4, .slice ae ne ce] 49)
        have p3 := B2.four.1.2.2.2
        have k3 := (x1.cell 3).trans (rfl : _ = some (Value.string ⟨yd.toArray⟩))
        clear HB2 HB3 HO hbw hat hye
        have k0 : (0 : Int) ≤ (k : Int) := by omega
        have k1 : (k : Int) < (L.length : Int) := by omega
        have hk6 : k * 6 + 3 < L.length * 6 := by omega
        generalize hwa : wr.alloc (.cells #[.int .i64 y0, .int .i64 y1, .int .i64 y2, .string ⟨yd.toArray⟩, .int .i64 y4, .slice ae ne ce] 49) = wa at *
        have O6 : wa.drew.ownsRow w.heap.size 49 6 (.slice (some ⟨g, 0, none⟩) L.length cap) L.length (ndsV L) := O5
        have B4 : Blk wa.drew w.heap.size 28 (fsC mi mb nx (.slice (some ⟨g, 0, none⟩) L.length cap)) := B2
        have B5 : Blk wa.drew (w.heap.size + 1) 28 (fsC 0 0 0 (.slice none 0 0)) := B3
        have hb6 : Below w.heap.size w wa.drew := hb5.drew
        clear O5 B2 B3 hb5 x1
        go_upto_region 5 with fail
        go_region_with (go_at_call 96; refine (CloneN_any yd _ hyd).mono ?_; rintro e w5 ⟨rfl, b5⟩; have O7 := own_keep O6 b5; have q3 := (O7.cellAt (k * 6 + 3) hk6).trans HAT.out; have qf := O7.frozenAt (k * 6 + 3); have p5 := (B4.next b5).four.1.2.2.2)
        all_goals (go_wp2; go_roundg G)
        all_goals first | omega | exact ⟨k + 1, by omega, by go_num, (hb6.trans (b5.mono hb6.size)).setCell hwg _, (B4.next b5).other (B2 := g) (i := k * 6 + 3) (by omega) _, (B5.next b5).other (B2 := g) (i := k * 6 + 3) (by omega) _, (own_set_same O7 HAT.out).1⟩
      · obtain rfl : k = L.length := by omega
        obtain ⟨⟨p0, p1, p2, p3⟩, _⟩ := HB2.out.four
        obtain ⟨⟨q0, q1, q2, q3⟩, e0, e1, e2, e3⟩ := HB3.out.four
        obtain ⟨W', hW', hb4, hg4⟩ := HB3.out.put4 (.int .i64 mi) (.int .i64 mb) (.int .i64 nx) (.slice (some ⟨g, 0, none⟩) L.length cap)
        have hbl := below_grown hbw hg4 (Nat.le_refl _) (by omega)
        have hown4 := HO.out.kept hg4 (.inr (by simp [Value.ownBlock]; omega))
        clear HB2 HB3 HO hbw hg4
        go_wp2
        obtain ⟨⟨r0, r1, r2, r3⟩, _⟩ := hb4.four
        clear hW' hb4 p0 p1 p2 p3 q0 q1 q2 q3 e0 e1 e2 e3
        refine bodyPost_ret (v := .agg (fsC mi mb nx (.slice (some ⟨g, 0, none⟩) L.length cap))) (by simp [results, Tryz.f121, go_sem, r0, r1, r2, r3]) rfl ?_
        exact ⟨_, rfl, hown4, hbl⟩
/-- A struct of six cells stored whole. -/
theorem new_nds {w w' : World} {L : List Nd} {v : Value} (h : NewNds w L v w') (he : EntsAll w' L) : Nds w' v L := own_nds h.1 he
theorem nds_slice {w : World} {v : Value} {l : List Nd} (h : Nds w v l) : ∃ a c, v = .slice a l.length c := by obtain ⟨a, c, h, _⟩ := h; exact ⟨a, c, h⟩
theorem alloc_below (w : World) (o : Obj) : Below w.heap.size w (w.alloc o) := (Below.refl _ w).alloc (Nat.le_refl _) _
theorem Blk.put6 {W : World} {B : Nat} {t : TypeId} {x : Nd} (h : Blk W B t (ndC x)) (y : Nd) :
    ∃ W', (((((W.setCell ⟨B, 0, none⟩ (.int .i64 y.ino)).setCell ⟨B, 1, none⟩ (.int .i64 y.kind)).setCell ⟨B, 2, none⟩ (.int .i64 y.links)).setCell ⟨B, 3, none⟩ (.string ⟨y.data.toArray⟩)).setCell ⟨B, 4, none⟩ (.int .i64 y.parent)).setCell ⟨B, 5, none⟩ y.ev = W' ∧
      Blk W' B t (ndC y) ∧ W.grownBy W' (some B) := by
  refine ⟨_, rfl, ?_, ?_⟩
  · exact (((((h.set 0 _).set 1 _).set 2 _).set 3 _).set 4 _).set 5 _
  · exact (((((grownBy_set W B 0 _).trans (grownBy_set _ B 1 _)).trans (grownBy_set _ B 2 _)).trans (grownBy_set _ B 3 _)).trans (grownBy_set _ B 4 _)).trans (grownBy_set _ B 5 _)
def rootN : Nd := ⟨1, 2, 0, [], 1, .slice none 0 0, []⟩
theorem root_all (w : World) : EntsAll w [rootN] := fun x hx => by rw [List.mem_singleton.1 hx]; exact Ents.nil_ w
theorem root_nds (w : World) (t : TypeId) (g : Nat) (hg : g = w.heap.size) : Nds (w.alloc (.cells #[.int .i64 1, .int .i64 2, .int .i64 0, .string ⟨#[]⟩, .int .i64 1, .slice none 0 0] t)) (.slice (some ⟨g, 0, none⟩) 1 1) [rootN] := by
  subst hg
  exact blk_nds (L := [rootN]) (Blk.new w t _) (by simp [maxLen]) (root_all _) 1 rfl
theorem New_bad (i b : Int) (w : World) (h : i < 1 ∨ i > 1073741824 ∨ b < 0 ∨ b > 1073741824) :
    Calls Tryz.prog 17 #[.int .i64 i, .int .i64 b] w fun e w' => e = .returned (.tuple #[.agg (fsC 0 0 0 (.slice none 0 0)), .int .i64 9]) ∧ Below w.heap.size w w' := by
  have b0 := Blk.new w 28 (fsC 0 0 0 (.slice none 0 0))
  have hB : Below w.heap.size w (w.alloc (.cells (fsC 0 0 0 (.slice none 0 0)) 28)) := (Below.refl _ w).alloc (Nat.le_refl _) _
  obtain ⟨⟨r0, r1, r2, r3⟩, _⟩ := b0.four
  clear b0
  by_cases h1 : i < 1
  · go_enter Tryz.func17, Tryz.ntmps17
    go_wp2
    refine bodyPost_ret (v := .tuple #[.agg (fsC 0 0 0 (.slice none 0 0)), .int .i64 9]) (by simp [results, Tryz.f17, go_sem, r0, r1, r2, r3]) rfl ?_
    exact ⟨rfl, hB⟩
  · by_cases h2 : 1073741824 < i
    · go_enter Tryz.func17, Tryz.ntmps17
      go_wp2
      refine bodyPost_ret (v := .tuple #[.agg (fsC 0 0 0 (.slice none 0 0)), .int .i64 9]) (by simp [results, Tryz.f17, go_sem, r0, r1, r2, r3]) rfl ?_
      exact ⟨rfl, hB⟩
    · by_cases h3 : b < 0
      · go_enter Tryz.func17, Tryz.ntmps17
        go_wp2
        refine bodyPost_ret (v := .tuple #[.agg (fsC 0 0 0 (.slice none 0 0)), .int .i64 9]) (by simp [results, Tryz.f17, go_sem, r0, r1, r2, r3]) rfl ?_
        exact ⟨rfl, hB⟩
      · have h4 : 1073741824 < b := by omega
        go_enter Tryz.func17, Tryz.ntmps17
        go_wp2
        refine bodyPost_ret (v := .tuple #[.agg (fsC 0 0 0 (.slice none 0 0)), .int .i64 9]) (by simp [results, Tryz.f17, go_sem, r0, r1, r2, r3]) rfl ?_
        exact ⟨rfl, hB⟩
set_option maxHeartbeats 2000000 in
theorem GetN_any (mi mb nx n : Int) (l : List Nd) (v : Value) (w : World) (hv : Nds w v l) (hs : riseP l) (hl : l.length ≤ 1000000) (hd : ∀ x ∈ l, x.data.length ≤ 281474976710656) :
    Calls Tryz.prog 99 #[.agg (fsC mi mb nx v), .int .i64 n] w fun e w' => e = .returned (.tuple #[.agg (ndC (getN l n)), .bool (hasN l n)]) ∧ Below w.heap.size w w' := by
  obtain ⟨a, ca, rfl, hc, hm, hea, hna, HA0⟩ := id hv
  unfold maxLen at hm
  clear HA0
  have b0 := Blk.new w 28 (fsC mi mb nx (.slice a l.length ca))
  have b1 := Blk.new (w.alloc (.cells (fsC mi mb nx (.slice a l.length ca)) 28)) 49 (ndC zeroN)
  have b0' := b0.alloc (.cells (ndC zeroN) 49)
  have hB0 : Below w.heap.size w ((w.alloc (.cells (fsC mi mb nx (.slice a l.length ca)) 28)).alloc (.cells (ndC zeroN) 49)) := ((Below.refl _ w).alloc (Nat.le_refl _) _).alloc (by simp) _
  have hv2 := hv.below hB0
  clear b0
  go_enter Tryz.func99, Tryz.ntmps99
  go_wp2_with fail
  refine (searchN_any l n _ _ hv2 hs hl).mono ?_
  rintro e w1 ⟨lo, rfl, hS, hb⟩
  simp only [World.size_alloc] at b1
  have hv3 := hv2.below hb
  replace b0' := b0'.next hb
  replace b1 := b1.next hb
  have hB1 := hB0.trans (hb.mono hB0.size)
  have hlt1 : w.heap.size + 2 ≤ w1.heap.size := by have := hb.size; simp at this; omega
  clear hB0 hv2 hb hv
  obtain ⟨⟨p0, p1, p2, p3⟩, _⟩ := b0'.four
  cases hh : hasN l n
  · have HG := Lib.hid (getN_none hh)
    obtain ⟨⟨q0, q1, q2, q3, q4, q5⟩, e0, e1, e2, e3, e4, e5⟩ := b1.six
    obtain ⟨W', hW', hb4, hg4⟩ := b1.put6 zeroN
    have hbl := below_grown hB1 hg4 (Nat.le_refl _) (by omega)
    simp only [zeroN] at q0 q1 q2 q3 q4 q5 hW'
    go_wp2
    obtain ⟨⟨r0, r1, r2, r3, r4, r5⟩, _⟩ := hb4.six
    refine bodyPost_ret (v := .tuple #[.agg (ndC zeroN), .bool false]) (by simp [results, Tryz.f99, go_sem, r0, r1, r2, r3, r4, r5, zeroN]) rfl ?_
    exact ⟨by rw [HG.out, hh], hbl⟩
  · obtain ⟨hk, hg⟩ := getN_srch hS hh
    have HG := Lib.hid hg
    clear hg hS
    obtain ⟨_, _, hu, _, _, hea3, _, HA0⟩ := id hv3
    simp only [Value.slice.injEq] at hu
    obtain ⟨rfl, _, rfl⟩ := hu
    obtain ⟨b, o, rfl, hbl, hcl⟩ := HA0 (by omega)
    obtain ⟨c0, c1, c2, c3, c4, c5⟩ := hcl _ hk
    obtain ⟨ae, ne, hye, _⟩ := hea3 _ (List.getElem_mem hk)
    have hyd := hd _ (List.getElem_mem hk)
    clear hcl HA0 hea3
    generalize hy : l[lo] = y at *
    obtain ⟨yi, yk, yl, yd, yp, ye, yn⟩ := y
    dsimp only at hye c0 c1 c2 c3 c4 c5 hyd
    subst hye
    have x8 := Blk.new w1 49 (ndC ⟨yi, yk, yl, yd, yp, .slice ae yn.length ne, yn⟩)
    have b1a := b1.alloc (.cells (ndC ⟨yi, yk, yl, yd, yp, .slice ae yn.length ne, yn⟩) 49)
    have hB2 := hB1.alloc hB1.size (.cells (ndC ⟨yi, yk, yl, yd, yp, .slice ae yn.length ne, yn⟩) 49)
    go_wp2_with fail
    refine (CloneN_any yd _ hyd).mono ?_
    rintro e w2 ⟨rfl, b2⟩
    have x9 := x8.next b2
    have b1b := b1a.next b2
    have hB3 := hB2.trans (b2.mono hB2.size)
    have k3 := x9.cell 3
    have f3 := x9.frozen 3
    replace k3 := k3.trans (rfl : _ = some (Value.string ⟨yd.toArray⟩))
    have x10 := x9.set 3 (.string ⟨yd.toArray⟩)
    rw [show (ndC ⟨yi, yk, yl, yd, yp, .slice ae yn.length ne, yn⟩).setIfInBounds 3 (.string ⟨yd.toArray⟩) = ndC ⟨yi, yk, yl, yd, yp, .slice ae yn.length ne, yn⟩ from rfl] at x10
    have b1c := b1b.other (B2 := w1.heap.size) (i := 3) (by omega) (.string ⟨yd.toArray⟩)
    have hB4 := hB3.setCell (p := ⟨w1.heap.size, 3, none⟩) hB1.size (.string ⟨yd.toArray⟩)
    generalize hw3 : w2.setCell ⟨w1.heap.size, 3, none⟩ (.string ⟨yd.toArray⟩) = w3 at *
    obtain ⟨⟨q0, q1, q2, q3, q4, q5⟩, e0, e1, e2, e3, e4, e5⟩ := b1c.six
    obtain ⟨⟨s0, s1, s2, s3, s4, s5⟩, _⟩ := x10.six
    obtain ⟨W', hW', hb4, hg4⟩ := b1c.put6 ⟨yi, yk, yl, yd, yp, .slice ae yn.length ne, yn⟩
    have hbl := below_grown hB4 hg4 (Nat.le_refl _) (by omega)
    simp only [zeroN] at q0 q1 q2 q3 q4 q5
    dsimp only at hW' s0 s1 s2 s3 s4 s5
    clear x8 b1a x9 b1b b1c x10 c0 c1 c2 c3 c4 c5 p3
    go_wp2
    obtain ⟨⟨r0, r1, r2, r3, r4, r5⟩, _⟩ := hb4.six
    refine bodyPost_ret (v := .tuple #[.agg (ndC ⟨yi, yk, yl, yd, yp, .slice ae yn.length ne, yn⟩), .bool true]) (by simp [results, Tryz.f99, go_sem, r0, r1, r2, r3, r4, r5]) rfl ?_
    exact ⟨by rw [HG.out, hh], hbl⟩
theorem Blk.not_row {W : World} {B : Nat} {t e : TypeId} {cs : Array Value} (h : Blk W B t cs) (hte : t ≠ e) {base size k : Nat} {v : Value} {xs : List Value} (hr : W.ownsRow base e size v k xs) : some B ≠ v.ownBlock := by
  rcases hr.2 with ⟨rfl, _⟩ | ⟨g, cap, cur, rfl, _, hgb, _⟩
  · simp [Value.ownBlock]
  · intro e'
    obtain rfl : B = g := by simpa [Value.ownBlock] using e'
    have := (show W.heap[B]? = _ from h).symm.trans hgb
    simp at this
    exact hte this.2
/-- A block whose cells hold what they hold, and a slice in it that owns its row: cells alone are spoken of. -/
theorem blkRow_own {β : Type} (n₀ B : Nat) (t e : TypeId) (size : Nat) (k : β → Nat) (f : β → List Value) (cs : Value → Array Value) : Own (fun s W => ∃ v, Blk W B t (cs v) ∧ W.ownsRow n₀ e size v (k s) (f s)) := by
  rintro s X Y row ⟨v, hv, hr⟩ hg hrow
  refine ⟨v, hv.kept hg (fun e' => ?_), hr.kept hg ?_⟩
  · obtain ⟨o, ho, hc⟩ := hrow B e'.symm
    rw [show X.heap[B]? = _ from hv] at ho; cases ho; cases hc
  · rcases hr.2 with ⟨rfl, _⟩ | ⟨g, cap, cur, rfl, _, hgb, _⟩
    · exact .inl rfl
    · refine .inr fun e' => ?_
      obtain ⟨o, ho, hc⟩ := hrow g (by simpa [Value.ownBlock] using e'.symm)
      rw [hgb] at ho; cases ho; cases hc
theorem blk_own {β : Type} (B : Nat) (t : TypeId) (cs : β → Array Value) : Own (fun s W => Blk W B t (cs s)) := by
  intro s X Y row hv hg hrow
  refine hv.kept hg (fun e' => ?_)
  obtain ⟨o, ho, hc⟩ := hrow B e'.symm
  rw [show X.heap[B]? = _ from hv] at ho; cases ho; cases hc
/-- 'x.f = append(x.f, g(..))', g a call that only makes memory: all that the walk owes. -/
theorem Blk.appended {W W2 w1 : World} {n₀ B i : Nat} {t e : TypeId} {size : Nat} {cs : Array Value} {v v' : Value} {k m : Nat} {xs ys : List Value} {tmp : Obj}
    (hv : Blk W B t cs) (hte : t ≠ e) (hrow : W.ownsRow n₀ e size v k xs) (hn₀ : n₀ ≤ W.heap.size) (hB : n₀ ≤ B) (h2 : Below W.heap.size W W2)
    (hown' : w1.ownsRow n₀ e size v' m ys) (hgrow : (W2.alloc tmp).grownBy w1 v.ownBlock) :
    Blk w1 B t cs ∧ Blk (w1.setCell ⟨B, i, none⟩ v') B t (cs.setIfInBounds i v') ∧ (w1.setCell ⟨B, i, none⟩ v').ownsRow n₀ e size v' m ys ∧ KeepsOthers W (w1.setCell ⟨B, i, none⟩ v') ∧ Below n₀ W (w1.setCell ⟨B, i, none⟩ v') := by
  have hrow2 : W2.ownsRow n₀ e size v k xs := own_keep hrow h2
  have hv2 : Blk W2 B t cs := hv.next h2
  have hv1 : Blk w1 B t cs := (hv2.alloc tmp).kept hgrow (hv2.not_row hte hrow2)
  refine ⟨hv1, hv1.set i v', hown'.kept (grownBy_set w1 B i v') (.inr (hv1.not_row hte hown').symm), ?_, ?_⟩
  · refine ((KeepsOthers.trans ⟨h2.size, fun j o hj _ => by rw [h2.block j (Array.getElem?_eq_some_iff.1 hj).1]; exact hj⟩ (KeepsOthers.alloc W2 tmp)).trans (KeepsOthers.of_grownBy hgrow fun j o ej hj => ?_)).trans (KeepsOthers.setCell _ _ _)
    rcases (hrow2.alloc tmp).2 with ⟨rfl, _⟩ | ⟨g, cap, cur, rfl, _, hgb, _⟩
    · simp [Value.ownBlock] at ej
    · obtain rfl : g = j := by simpa [Value.ownBlock] using ej
      rw [hgb] at hj; cases hj; rfl
  · have hs2 := h2.size
    refine (((h2.mono hn₀).alloc (by omega) tmp).grown hgrow (by simp; omega) fun j ej => ?_).setCell (p := ⟨B, i, none⟩) hB v'
    rcases hrow2.2 with ⟨rfl, _⟩ | ⟨g, cap, cur, rfl, hb, _, _⟩
    · simp [Value.ownBlock] at ej
    · obtain rfl : g = j := by simpa [Value.ownBlock] using ej
      exact hb
theorem stepIn_append_own {F : Fence} {n : Nat} {P : Program} {ops : Array Oper} {o : Oper} {a : Act} {w : World} {K : Act → World → Prop} {Q : Exit → Act → World → Prop} {E : Prop}
    (hgd : o.guard = none) (s x : Operand) (t e : TypeId) (ho : o.op = .call { callee := .builtin .append, args := #[s, x], argTypes := #[t, t] })
    {i : TypeInfo} {z : Value} {size bytes : Nat} (ht : P.underlying t = some (.slice e)) (hi : P.info? e = some i) (hz : i.zero = some z)
    (hsize : i.size = size) (hby : i.bytes = bytes) (hzs : z.cells.size = size) (hsz : 0 < size)
    (base : Nat) {v : Value} {k : Nat} {xs : List Value} (ad : Addr) (m : Nat) (news : List Value) (hs : a.eval s = v) (hx : a.eval x = .slice (some ad) m m) (hown : w.ownsRow base e size v k xs)
    (hm : news.length = m * size) (hnews : ∀ j u, news[j]? = some u → w.cell? (ad.add j) = some u) (h1 : ∀ u ∈ news, u.oneCell' = true) (b1 : k + m ≤ maxLen) (b2 : (k + m) * bytes ≤ 140737488355328) (b3 : base ≤ w.heap.size)
    (hK : ∀ v' w', w'.ownsRow base e size v' (k + m) (xs ++ news) → w.grownBy w' v.ownBlock → K (a.put o.dst v') w') :
    if Region.wanted o (yielded ops a.tmps) = true then Oper.wpIn F n P o a w K Q else E := by
  rw [if_pos (by simp [Region.wanted, hgd])]
  obtain ⟨v', w', hrun, r1, r2, _⟩ := run_append_own (P := P) w base t o.type e i z size bytes ht hi hz hsize hby hzs hsz v k xs hown ad m m news hm hnews h1 b1 b2 b3
  unfold Oper.wpIn
  refine ⟨?_, ?_⟩
  · simp [Oper.about, ho, resolve, Target.leads, Sem.run_pure]
  · rw [Oper.semAt_plain F _ _ (by rw [ho]; intro c hc'; cases hc')]
    simp [execOp, ho, resolve, invoke, builtin, hs, hx, hrun, Result.andThen]
    exact hK v' w' r1 r2
theorem Tryz.infoS2 : (Tryz.prog.info? 9).map (fun i => (i.zero, i.size, i.bytes)) = some (some (.string ByteArray.empty), 1, 16) := by kernel_rfl
theorem drop_cons {l : List UInt8} {i : Nat} (h : i < l.length) : l.drop i = l[i] :: l.drop (i + 1) := List.drop_eq_getElem_cons h
set_option maxHeartbeats 4000000 in
theorem refNames_any (p : List UInt8) (w : World) (hp : p.length ≤ 1000000) :
    Calls Tryz.prog 88 #[.string ⟨p.toArray⟩] w fun e w' => ∃ v, e = .returned v ∧ w'.ownsRow w.heap.size 9 1 v (namesB p).length (strsV (namesB p)) ∧ Below w.heap.size w w' := by
  obtain ⟨is, hsi, hs0, hs1, hs2⟩ := info_parts Tryz.infoS2
  go_enter Tryz.func88, Tryz.ntmps88
  go_wp2
  go_loopg [3, 4, 5] (p.length + 1) (fun g s3 s4 s5 wr => ∃ (i : Nat) (ns : List (List UInt8)) (a : List UInt8), i + g = p.length + 1 ∧ s5 = .int .i64 i ∧ s4 = .string ⟨a.toArray⟩ ∧ a.length + ns.length ≤ i ∧ wr.ownsRow w.heap.size 9 1 s3 ns.length (strsV ns) ∧
    Aside ((i ≤ p.length → namesB p = ns ++ namesA a (p.drop i)) ∧ (p.length < i → namesB p = ns)) ∧ Below w.heap.size w wr)
  case atStart => exact ⟨0, [], [], by omega, rfl, rfl, by simp, World.ownsRow_nil _ _ _ _, ⟨fun _ => by simp [namesB], fun h => absurd h (by omega)⟩, Below.refl _ _⟩
  case round =>
    obtain ⟨i, ns, a, hig, rfl, rfl, hal, hown, HN, hB⟩ := hrel
    by_cases hle : i ≤ p.length
    · obtain ⟨g, rfl⟩ : ∃ g, gk = g + 1 := ⟨gk - 1, by omega⟩
      have HN1 := Lib.hid (HN.out.1 hle)
      clear HN
      by_cases hlt : i < p.length
      · cases hc : ((p[i].toNat : Int) != 47)
        · have hc2 : p[i] = 47 := UInt8.toNat_inj.1 (by simp at hc; simp; omega)
          have HN2 := Lib.hid (HN1.out.trans (by rw [drop_cons hlt, hc2, namesA_slash]))
          by_cases ha : a = []
          · subst ha
            go_wp2
            go_roundg g
            case measure => omega
            case rel => exact ⟨i + 1, ns, [], by omega, by go_num, rfl, by simp at hal ⊢; omega, hown, ⟨fun _ => by rw [HN2.out, atomB_nil]; rfl, fun h => absurd h (by omega)⟩, hB⟩
          · have ha0 : a.isEmpty = false := by simpa using ha
            have hapos : 0 < a.length := List.length_pos_iff.2 ha
            go_wp2_with (at_builtin; refine wpList_append_new rfl (.tmp 31) (.tmp 33) 84 9 rfl Tryz.underlying84 hsi hs0 hs1 hs2 rfl (by decide) (by decide) w.heap.size _ 1 rfl rfl hown rfl (by simp [Value.oneCell']) (by omega) hB.size ?_; intro v4 w4 hown4 hb4)
            go_roundg g
            case measure => omega
            case rel => exact ⟨i + 1, ns ++ [a], [], by omega, by go_num, rfl, by simp; omega, by simpa [strsV] using hown4, ⟨fun _ => by rw [HN2.out, atomB_cons ha]; simp, fun h => absurd h (by omega)⟩, hB.trans hb4⟩
        · have hc2 : p[i] ≠ 47 := by intro e; rw [e] at hc; exact absurd hc (by decide)
          have HN2 := Lib.hid (HN1.out.trans (by rw [drop_cons hlt, namesA_byte _ _ hc2]))
          have HX : Hid (ByteArray.mk a.toArray ++ (ByteArray.mk p.toArray).extract i (i + 1) = ⟨(a ++ [p[i]]).toArray⟩) := by
            (show _ = _); rw [Lib.extract_eq]; apply ByteArray.ext; simp [ByteArray.data_append, Nat.add_sub_cancel_left, List.take_one, List.head?_drop, hlt]
          have k1 : (0 : Int) ≤ (i : Int) := by omega
          have k2 : (i : Int) ≤ (i : Int) + 1 := by omega
          have k3 : (i : Int) + 1 ≤ (p.length : Int) := by omega
          go_wp2
          go_roundg g
          case measure => omega
          case rel => exact ⟨i + 1, ns, a ++ [p[i]], by omega, by go_num, by rw [HX.out], by simp; omega, hown, ⟨fun _ => HN2.out, fun h => absurd h (by omega)⟩, hB⟩
      · obtain rfl : i = p.length := by omega
        have HN2 := Lib.hid (HN1.out.trans (by rw [List.drop_length, namesA_nil]))
        by_cases ha : a = []
        · subst ha
          go_wp2
          go_roundg g
          case measure => omega
          case rel => exact ⟨p.length + 1, ns, [], by omega, by go_num, rfl, by simp at hal ⊢; omega, hown, ⟨fun h => absurd h (by omega), fun _ => by rw [HN2.out, atomB_nil, List.append_nil]⟩, hB⟩
        · have ha0 : a.isEmpty = false := by simpa using ha
          have hapos : 0 < a.length := List.length_pos_iff.2 ha
          go_wp2_with (at_builtin; refine wpList_append_new rfl (.tmp 31) (.tmp 33) 84 9 rfl Tryz.underlying84 hsi hs0 hs1 hs2 rfl (by decide) (by decide) w.heap.size _ 1 rfl rfl hown rfl (by simp [Value.oneCell']) (by omega) hB.size ?_; intro v4 w4 hown4 hb4)
          go_roundg g
          case measure => omega
          case rel => exact ⟨p.length + 1, ns ++ [a], [], by omega, by go_num, rfl, by simp; omega, by simpa [strsV] using hown4, ⟨fun h => absurd h (by omega), fun _ => by rw [HN2.out, atomB_cons ha]⟩, hB.trans hb4⟩
    · have HN2 := Lib.hid (HN.out.2 (by omega))
      go_wp2
      go_ret
      exact ⟨_, rfl, by rw [HN2.out]; exact hown, hB⟩
abbrev pathR (a : Bool) (v : Value) (s : Bool) : Array Value := #[.bool a, v, .bool s]
theorem cat (a b : List UInt8) : ByteArray.mk a.toArray ++ ByteArray.mk b.toArray = ⟨(a ++ b).toArray⟩ := by apply ByteArray.ext; simp [ByteArray.data_append]
theorem cat47 (a : List UInt8) : ByteArray.mk a.toArray ++ ByteArray.mk #[47] = ⟨(a ++ [47]).toArray⟩ := cat a [47]
theorem refJoin_any (ns : List (List UInt8)) (v : Value) (w : World) (hv : Strs w v ns) (hl : ns.length ≤ 1000000) (hj : (tailB ns).length ≤ 100000000) :
    Calls Tryz.prog 161 #[v] w fun e w' => e = .returned (.string ⟨(joinB ns).toArray⟩) ∧ w = w' := by
  obtain ⟨ad, ca, rfl, hm, HA0⟩ := hv
  have HA := Lib.hid HA0
  clear HA0 hm
  by_cases h0 : 0 < ns.length
  · have hne : ((ns.length : Int) == 0) = false := by rw [beq_eq_false_iff_ne]; omega
    have HJ := Lib.hid (joinB_tail (ns := ns) (by rintro rfl; simp at h0))
    go_enter Tryz.func161, Tryz.ntmps161
    go_wp2
    go_loop [3, 4] (fun s i => ∃ k : Nat, k ≤ ns.length ∧ i = .int .i64 k ∧ s = .string ⟨(tailB (ns.take k)).toArray⟩) (fun _ i => ns.length - (intOf i).toNat)
    case atStart => exact ⟨0, Nat.zero_le _, rfl, rfl⟩
    case round =>
      obtain ⟨k, hk, rfl, rfl⟩ := hrel
      by_cases hlt : k < ns.length
      · obtain ⟨ba, oa, rfl, hba, hca⟩ := HA.out h0
        have c1 : w.cell? ⟨ba, oa + k, none⟩ = some (.string ⟨ns[k].toArray⟩) := hca k hlt
        clear hca
        have HN : Hid (tailB (ns.take (k + 1)) = tailB (ns.take k) ++ 47 :: ns[k]) := by (show _ = _); rw [List.take_succ_eq_append_getElem hlt, tailB_snoc]
        have hlen := Nat.le_trans (tailB_take ns (k + 1)) hj
        rw [HN.out, List.length_append, List.length_cons] at hlen
        go_wp2
        go_round
        case rel => exact ⟨k + 1, by omega, by go_num, by rw [HN.out, cat47, cat]; simp⟩
        case measure => simp [intOf]; omega
      · obtain rfl : k = ns.length := by omega
        rw [List.take_length]
        go_wp2
        go_ret
        exact ⟨ret_str (by rw [HJ.out]), rfl⟩
  · obtain rfl : ns = [] := List.eq_nil_of_length_eq_zero (by omega)
    go_enter Tryz.func161, Tryz.ntmps161
    go_wp2
    go_ret
    exact ⟨rfl, rfl⟩
theorem refFind_any (l : List Ent) (n : List UInt8) (v : Value) (w : World) (hv : Ents w v l) :
    Calls Tryz.prog 111 #[v, .string ⟨n.toArray⟩] w fun e w' => e = .returned (.tuple #[.int .i64 (numB l n), .bool (hasB l n)]) ∧ w = w' := by
  obtain ⟨a, ca, rfl, hc, hm, HA0⟩ := hv
  unfold maxLen at hm
  have HA := Lib.hid HA0
  clear HA0
  go_enter Tryz.func111, Tryz.ntmps111
  go_wp2
  go_loop [6] (fun i => ∃ k : Nat, k ≤ l.length ∧ i = .int .i64 k ∧ Aside ((l.take k).any (fun e => e.1 == n) = false)) (fun i => l.length - (intOf i).toNat)
  case atStart => exact ⟨0, Nat.zero_le _, rfl, by (show _ = _); simp⟩
  case round =>
    obtain ⟨k, hk, rfl, HT⟩ := hrel
    by_cases hlt : k < l.length
    · obtain ⟨b, o, rfl, hb, hcl⟩ := HA.out (by omega)
      obtain ⟨c1, c2⟩ := hcl k hlt
      clear hcl
      cases he : (l[k].1 == n)
      · have HT2 := Lib.hid (any_next hlt HT.out (by simpa using he))
        go_wp2
        go_round
        case rel => exact ⟨k + 1, by omega, by go_num, HT2.out⟩
        case measure => simp [intOf]; omega
      · have HF := Lib.hid (find_at hlt HT.out (by simpa using he))
        go_wp2
        go_ret2
        exact ⟨by rw [HF.out.1, HF.out.2]; rfl, rfl⟩
    · obtain rfl : k = l.length := by omega
      have HF := Lib.hid (find_none (l := l) (n := n) (by have := HT.out; rwa [List.take_length] at this))
      go_wp2
      go_ret2
      exact ⟨by rw [HF.out.1, HF.out.2]; rfl, rfl⟩
theorem refLong_any (p : List UInt8) (w : World) (hp : p.length ≤ 1000000) :
    Calls Tryz.prog 85 #[.string ⟨p.toArray⟩] w fun e w' => e = .returned (.bool (longB p)) ∧ Below w.heap.size w w' := by
  have hct := namesB_count p
  go_enter Tryz.func85, Tryz.ntmps85
  go_wp2_with fail; refine (refNames_any p _ hp).mono ?_; rintro e w1 ⟨v, rfl, hown, h1⟩
  obtain ⟨ad, ca, rfl, hm, HA0⟩ := own_strs hown
  have HA := Lib.hid HA0
  clear HA0 hm hown
  go_wp2
  go_loop [4] (fun i => ∃ k : Nat, k ≤ (namesB p).length ∧ i = .int .i64 k ∧ Aside (∀ j (hj : j < (namesB p).length), j < k → (namesB p)[j].length ≤ 255)) (fun i => (namesB p).length - (intOf i).toNat)
  case atStart => exact ⟨0, Nat.zero_le _, rfl, fun j hj h => absurd h (by omega)⟩
  case round =>
    obtain ⟨k, hk, rfl, HT⟩ := hrel
    by_cases hlt : k < (namesB p).length
    · obtain ⟨ba, oa, rfl, hba, hca⟩ := HA.out (by omega)
      have c1 : w1.cell? ⟨ba, oa + k, none⟩ = some (.string ⟨(namesB p)[k].toArray⟩) := hca k hlt
      clear hca
      by_cases h3 : (namesB p)[k].length ≤ 255
      · have HT2 : Hid (∀ j (hj : j < (namesB p).length), j < k + 1 → (namesB p)[j].length ≤ 255) := by
          intro j hj h
          rcases Nat.lt_or_ge j k with h' | h'
          · exact HT.out j hj h'
          · obtain rfl : j = k := by omega
            exact h3
        go_wp2
        go_round
        case rel => exact ⟨k + 1, by omega, by go_num, HT2.out⟩
        case measure => simp [intOf]; omega
      · have HN : Hid (longB p = true) := by
          (show _ = _); simp only [longB, Bool.or_eq_true, List.any_eq_true, decide_eq_true_eq]
          exact .inr ⟨_, List.getElem_mem hlt, by omega⟩
        go_wp2
        go_ret
        exact ⟨ret_bool (by rw [HN.out]), h1⟩
    · have HN : Hid (longB p = decide (4095 < p.length)) := by
        have : (namesB p).any (fun n => decide (255 < n.length)) = false := by
          simp only [List.any_eq_false, decide_eq_true_eq]
          intro n hn
          obtain ⟨j, hj, rfl⟩ := List.getElem_of_mem hn
          have := HT.out j hj (by omega)
          omega
        (show _ = _); unfold longB; rw [this, Bool.or_false]
      go_wp2
      go_ret
      exact ⟨ret_bool (by rw [HN.out]; simp; try omega), h1⟩
theorem run_copy_size {P : Program} (w : World) (dT sT ty elem : TypeId) (sz : Nat) (g o dLen dCap : Nat) (a : Addr) (sLen sCap : Nat) (cur : Array Value) (t : TypeId) (cs : List Value)
    (hu : P.underlying dT = some (.slice elem)) (hs : (P.info? elem).map (·.size) = some sz)
    (hg : w.heap[g]? = some (.cells cur t (0, 0))) (hn : cs.length = Nat.min sLen dLen * sz)
    (hsrc : ∀ j v, cs[j]? = some v → w.cell? (a.add j) = some v) (hfit : o + cs.length ≤ cur.size) (h1 : ∀ v ∈ cs, v.oneCell' = true) :
    (Builtin.copy_ #[dT, sT] ty #[.slice (some ⟨g, o, none⟩) dLen dCap, .slice (some a) sLen sCap]).run P w =
      .ok (goInt (Nat.min sLen dLen)) (w.setRow g (cur.toList.take o ++ cs ++ cur.toList.drop (o + cs.length)).toArray) := by
  have hl := run_loadCells_list (P := P) w a cs hsrc
  have hst := run_storeCells_at P g o t cs 0 cur w hg (by simpa using hfit) h1
  cases hq : P.info? elem with
  | none => simp [hq] at hs
  | some i =>
    have hi : i.size = sz := by simpa [hq] using hs
    simp [Builtin.copy_, run_underlying hu, Builtin.lenOf, Builtin.firstCells, sizeOf, typeInfo, hq, hi, ← hn, hl, hst]
theorem run_copy_zero {P : Program} (w : World) (dT sT ty elem : TypeId) (sz : Nat) (d a : Option Addr) (dLen dCap sLen sCap : Nat) (hu : P.underlying dT = some (.slice elem)) (hs : (P.info? elem).map (·.size) = some sz) (hn : Nat.min sLen dLen = 0) :
    (Builtin.copy_ #[dT, sT] ty #[.slice d dLen dCap, .slice a sLen sCap]).run P w = .ok (goInt 0) w := by
  cases hq : P.info? elem with
  | none => simp [hq] at hs
  | some i =>
    have hl : ∀ (x : Addr), (loadCells x 0).run P w = .ok #[] w := fun x => by simpa using run_loadCells_list (P := P) w x [] (by simp)
    cases d <;> cases a <;> simp [Builtin.copy_, run_underlying hu, Builtin.lenOf, Builtin.firstCells, sizeOf, typeInfo, hq, hn, storeCells, hl]
/-- The run, to be laid ahead of the walk. -/
theorem run_copy_splice {P : Program} (w : World) (dT sT ty elem : TypeId) (sz : Nat) (hu : P.underlying dT = some (.slice elem)) (hsz : (P.info? elem).map (·.size) = some sz)
    (g off dLen dCap : Nat) (sp : Option Addr) (sLen sCap m : Nat) (hm : Nat.min sLen dLen = m) (cur : List Value) (t : TypeId) (hg : w.heap[g]? = some (.cells cur.toArray t (0, 0))) (cs : List Value) (hn : cs.length = m * sz)
    (hpos : 0 < m → ∃ ad, sp = some ad ∧ ∀ j v, cs[j]? = some v → w.cell? (ad.add j) = some v) (hfit : off + cs.length ≤ cur.length) (h1 : ∀ v ∈ cs, v.oneCell' = true) :
    ∃ w', (Builtin.copy_ #[dT, sT] ty #[.slice (some ⟨g, off, none⟩) dLen dCap, .slice sp sLen sCap]).run P w = .ok (goInt m) w' ∧ w'.heap[g]? = some (.cells (splice cur off cs).toArray t (0, 0)) ∧ ∀ B w0, Below B w0 w → B ≤ g → Below B w0 w' := by
  by_cases h0 : m = 0
  · subst h0
    obtain rfl : cs = [] := List.eq_nil_of_length_eq_zero (by simpa using hn)
    exact ⟨w, run_copy_zero w dT sT ty elem sz _ _ _ _ _ _ hu hsz hm, by simpa [splice] using hg, fun B w0 hb _ => hb⟩
  · obtain ⟨ad, rfl, hsrc⟩ := hpos (by omega)
    have hrun := run_copy_size (P := P) w dT sT ty elem sz g off dLen dCap ad sLen sCap cur.toArray t cs hu hsz hg (by rw [hm]; exact hn) hsrc (by simpa using hfit) h1
    rw [hm] at hrun
    exact ⟨_, hrun, by simpa [splice] using setRow_heap w g _ _ t _ hg, fun B w0 hb hBg => below_setRow hb hBg _⟩
theorem Clone_any (l : List UInt8) (w : World) (hl : l.length ≤ 100000000) :
    Calls Tryz.prog 96 #[.string ⟨l.toArray⟩] w fun e w' => e = .returned (.string ⟨l.toArray⟩) ∧ Below w.heap.size w w' := by
  go_enter Tryz.func96, Tryz.ntmps96
  go_wp2_with fail
  refine (Tryz.stringslite_Clone _ _ (by simp [ByteArray.size]; omega)).mono ?_
  rintro e w' ⟨rfl, hB⟩
  go_wp2
  go_ret
  exact ⟨rfl, hB⟩
theorem infoE : (Tryz.prog.info? 71).map (fun i => (i.zero, i.size, i.bytes)) = some (some (.agg #[.string ⟨#[]⟩, .int .i64 0]), 2, 24) := by kernel_rfl
theorem sizeE : (Tryz.prog.info? 71).map (·.size) = some 2 := by kernel_rfl
/-- A slice of slices of entries. -/
def Parts (w : World) (v : Value) (ps : List (List Ent)) : Prop :=
  ∃ a cap, v = .slice a ps.length cap ∧ (0 < ps.length → ∃ b off, a = some ⟨b, off, none⟩ ∧ b < w.heap.size ∧ ∀ i (h : i < ps.length), ∃ x, w.cell? ⟨b, off + i, none⟩ = some x ∧ Ents w x ps[i])
/-- New entries: a block of the call's own. -/
def NewEnts (w : World) (L : List Ent) (e : Ending) (w' : World) : Prop :=
  ∃ g, e = .returned (.slice (some ⟨g, 0, none⟩) L.length L.length) ∧ w.heap.size ≤ g ∧ Blk w' g 71 (entsV L).toArray ∧ Below w.heap.size w w'
theorem blk_ents {w : World} {g : Nat} {t : TypeId} {L : List Ent} (h : Blk w g t (entsV L).toArray) (hl : L.length ≤ maxLen) : Ents w (.slice (some ⟨g, 0, none⟩) L.length L.length) L := by
  refine ⟨_, _, rfl, Nat.le_refl _, hl, fun _ => ⟨g, 0, rfl, h.lt, fun i hi => ?_⟩⟩
  rw [h.cell, h.cell, Nat.zero_add]
  simpa using entsV_at L i hi
theorem flat_take (ps : List (List Ent)) (k : Nat) (h : k < ps.length) : (ps.take (k + 1)).flatten = (ps.take k).flatten ++ ps[k] := by
  rw [List.take_succ_eq_append_getElem h, List.flatten_append]; simp
theorem flat_le (ps : List (List Ent)) (k : Nat) : (ps.take k).flatten.length ≤ ps.flatten.length := by
  conv => rhs; rw [← List.take_append_drop k ps, List.flatten_append, List.length_append]
  omega
def flatN (ps : List (List Ent)) (k : Nat) : Nat := (ps.take k).flatten.length
theorem flatN_next {ps : List (List Ent)} {k : Nat} (h : k < ps.length) : flatN ps (k + 1) = flatN ps k + ps[k].length := by
  unfold flatN; rw [flat_take ps k h, List.length_append]
theorem flatN_le (ps : List (List Ent)) (k : Nat) : flatN ps k ≤ ps.flatten.length := flat_le ps k
theorem flatN_end (ps : List (List Ent)) : flatN ps ps.length = ps.flatten.length := by unfold flatN; rw [List.take_length]
theorem splice_ents (F p : List Ent) (Z : List Value) (h : p.length * 2 ≤ Z.length) : splice (entsV F ++ Z) (F.length * 2) (entsV p) = entsV (F ++ p) ++ Z.drop (p.length * 2) := by
  unfold splice
  rw [entsV_append, List.take_append_of_le_length (by rw [entsV_len]; exact Nat.le_refl _), List.take_of_length_le (by rw [entsV_len]; exact Nat.le_refl _), entsV_len,
    List.drop_append, entsV_len, List.drop_eq_nil_of_le (by rw [entsV_len]; omega), List.nil_append, show F.length * 2 + p.length * 2 - F.length * 2 = p.length * 2 from by omega, List.append_assoc]
set_option maxHeartbeats 2000000 in
theorem join_any (ps : List (List Ent)) (v : Value) (w : World) (hv : Parts w v ps) (hp : ps.length ≤ 1000000) (hn : ps.flatten.length ≤ 1000000) (hsh : shortP 100000000 ps.flatten) :
    Calls Tryz.prog 130 #[v] w (NewEnts w ps.flatten) := by
  obtain ⟨a, ca, rfl, HA0⟩ := hv
  have HA := Lib.hid HA0
  have HSH := Lib.hid hsh
  clear HA0 hsh
  obtain ⟨i0, hi, hz0, hz1, hz2⟩ := info_parts infoE
  have hle := flatN_le ps
  have hend := flatN_end ps
  generalize hF : ps.flatten = F at *
  have HF := Lib.hid hF
  clear hF
  go_enter Tryz.func130, Tryz.ntmps130
  go_wp2
  go_loop [3, 13] (fun s3 s13 => ∃ k : Nat, k ≤ ps.length ∧ s13 = .int .i64 k ∧ s3 = .int .i64 (flatN ps k)) (fun _ s13 => ps.length - (intOf s13).toNat)
  case atStart => exact ⟨0, Nat.zero_le _, rfl, rfl⟩
  case round =>
    obtain ⟨k, hk, rfl, rfl⟩ := hrel
    by_cases hlt : k < ps.length
    · obtain ⟨b, o, rfl, hb, hcl⟩ := HA.out (by omega)
      obtain ⟨x, c1, ⟨ax, cx, rfl, hx1, hx2, hx3⟩⟩ := hcl k hlt
      clear hcl hx3 hx1 hx2
      have hf1 := hle (k + 1)
      have HN := Lib.hid (flatN_next hlt)
      have hfl : flatN ps k + ps[k].length ≤ 1000000 := by rw [HN.out] at hf1; omega
      go_wp2
      go_round
      case rel => exact ⟨k + 1, by omega, by go_num, by rw [HN.out]; go_num⟩
      case measure => simp [intOf]; omega
    · obtain rfl : k = ps.length := by omega
      rw [hend]
      go_wp2_with (at_make; refine wpList_make_full _ rfl _ _ 47 rfl w.heap.size 71 i0 (.agg #[.string ⟨#[]⟩, .int .i64 0]) 2 Tryz.underlying47 hi hz0 hz1 _ _ _ _ F.length rfl rfl rfl rfl (by rw [hz2]; omega) (by unfold maxLen; omega) (Nat.le_refl _) ?_; intro w1 hown hgr)
      have hb1 := (Below.refl w.heap.size w).grown hgr (Nat.le_refl _) (fun k hk => by cases hk)
      have hg1 : w.heap.size < w1.heap.size := (hown.lt _ rfl).2
      have hblk : ∃ Z : List Value, Z.length = F.length * 2 ∧ Blk w1 w.heap.size 71 Z.toArray := by
        rcases hown.2 with ⟨h', _⟩ | ⟨g', cap', cur, h', _, hh, h1, h2, h3, h4⟩
        · simp at h'
        · simp only [Value.slice.injEq, Option.some.injEq, Addr.mk.injEq, and_true, true_and] at h'
          obtain ⟨rfl, rfl⟩ := h'
          exact ⟨cur.toList, by simpa using h3, by simpa [Blk] using hh⟩
      clear hown hgr
      generalize hgg : w.heap.size = g at hblk hg1 ⊢
      have hBg : w.heap.size ≤ g := by omega
      have HGG := Lib.hid hgg
      clear hgg
      go_wp2_with fail
      go_loopw [7, 26] (fun s7 s26 wr => ∃ k : Nat, k ≤ ps.length ∧ s26 = .int .i64 k ∧ s7 = .int .i64 (flatN ps k) ∧ Below w.heap.size w wr ∧ Aside (∃ Z : List Value, Z.length = (F.length - flatN ps k) * 2 ∧ Blk wr g 71 (entsV (ps.take k).flatten ++ Z).toArray)) (fun _ s26 _ => ps.length - (intOf s26).toNat)
      case atStart =>
        obtain ⟨Z, hZ, hB⟩ := hblk
        exact ⟨0, Nat.zero_le _, rfl, rfl, hb1, ⟨Z, hZ, by simpa [entsV] using hB⟩⟩
      case round =>
        clear hblk
        obtain ⟨k, hk, rfl, rfl, hbw, HB⟩ := hrel
        by_cases hlt : k < ps.length
        · obtain ⟨b, o, rfl, hb, hcl⟩ := HA.out (by omega)
          obtain ⟨x, c0, hx⟩ := hcl k hlt
          have c1 : wr.cell? ⟨b, o + k, none⟩ = some x := (hbw.cell (p := ⟨b, o + k, none⟩) hb).trans c0
          clear hcl c0
          have hxs := hx.below hbw
          obtain ⟨ax, cx, rfl, hx1, hx2, hx3⟩ := id hx
          clear hx3 hx1 hx2 hx
          have hf1 := hle (k + 1)
          have HN := Lib.hid (flatN_next hlt)
          have hfl : flatN ps k + ps[k].length ≤ F.length := by rw [HN.out] at hf1; omega
          have hle2 : (flatN ps k : Int) ≤ (F.length : Int) := by omega
          obtain ⟨Z, hZ, hZB⟩ := HB.out
          have hlen : (entsV (ps.take k).flatten ++ Z).length = F.length * 2 := by
            rw [List.length_append, entsV_len, hZ]; show flatN ps k * 2 + _ = _; omega
          have hfit : flatN ps k * 2 + (entsV ps[k]).length ≤ (entsV (ps.take k).flatten ++ Z).length := by rw [hlen, entsV_len]; omega
          have HZ : Hid (Z.length = (F.length - flatN ps k) * 2) := hZ
          have HZB : Hid (wr.heap[g]? = some (.cells (entsV (ps.take k).flatten ++ Z).toArray 71 (0, 0))) := hZB
          have HFT := Lib.hid (flat_take ps k hlt)
          have HFIT := Lib.hid hfit
          have HXS := Lib.hid hxs
          have HSP := Lib.hid (splice_ents (ps.take k).flatten ps[k] Z (by rw [hZ]; omega))
          have HDR : Hid ((Z.drop (ps[k].length * 2)).length = (F.length - flatN ps (k + 1)) * 2) := by
            (show _ = _); rw [List.length_drop, hZ, HN.out]; omega
          clear hZ hZB hlen hfit hxs HB
          have hrun1 := run_copy_zero (P := Tryz.prog) wr 47 47 3 71 2 (some ⟨g, 0, none⟩) ax 0 0 ps[k].length cx Tryz.underlying47 sizeE (Nat.min_zero _)
          obtain ⟨w2, hrun2, hg2, hb2⟩ := run_copy_splice (P := Tryz.prog) wr 47 47 3 71 2 Tryz.underlying47 sizeE g (flatN ps k * 2) (F.length - flatN ps k) (F.length - flatN ps k) ax ps[k].length cx ps[k].length (Nat.min_eq_left (by omega)) _ 71 HZB.out (entsV ps[k]) (entsV_len _)
            (fun hm0 => by obtain ⟨ad, e1, _, e2⟩ := HXS.out.src hm0; exact ⟨ad, e1, e2⟩) HFIT.out (entsV_one _)
          have HG2 := Lib.hid hg2
          have hb3 := hb2 _ _ hbw hBg
          clear hg2 hb2
          by_cases hfull : flatN ps k = F.length
          · have hp0 : ps[k].length = 0 := by omega
            have HP0 := Lib.hid hp0
            have HFL := Lib.hid hfull
            clear hrun2 hp0
            go_wp2
            go_roundw
            case rel => exact ⟨k + 1, by omega, by go_num, by have := HN.out; have := HP0.out; have := HFL.out; simp; omega, hbw, ⟨Z, by have := HZ.out; have := HN.out; have := HP0.out; omega, by
              rw [HFT.out, show ps[k] = [] from List.eq_nil_of_length_eq_zero HP0.out, List.append_nil]; exact HZB.out⟩⟩
            case measure => simp [intOf]; omega
          · have hlt2 : (flatN ps k : Int) < (F.length : Int) := by omega
            clear hrun1
            go_wp2
            go_roundw
            case rel => exact ⟨k + 1, by omega, by go_num, by rw [HN.out]; go_num, hb3, ⟨_, HDR.out, by
              have := HG2.out
              rw [show flatN ps k * 2 = (ps.take k).flatten.length * 2 from rfl, HSP.out] at this
              rw [HFT.out]; exact this⟩⟩
            case measure => simp [intOf]; omega
        · obtain rfl : k = ps.length := by omega
          obtain ⟨Z, hZ, hZB⟩ := HB.out
          have hZ0 : Z = [] := List.eq_nil_of_length_eq_zero (by omega)
          have HBF : Hid (Blk wr g 71 (entsV F).toArray) := by
            have h1 := hZB
            rw [hZ0, List.append_nil, List.take_length, HF.out] at h1; exact h1
          clear HB hZ hZB hZ0
          rw [hend]
          go_wp2
          go_loopw [40] (fun s40 wx => ∃ k : Nat, k ≤ F.length ∧ s40 = .int .i64 k ∧ Below w.heap.size w wx ∧ Aside (Blk wx g 71 (entsV F).toArray)) (fun s40 _ => F.length - (intOf s40).toNat)
          case atStart => exact ⟨0, Nat.zero_le _, rfl, hbw, HBF.out⟩
          case round =>
            clear hbw HBF
            obtain ⟨k, hk, rfl, hbx, HB⟩ := hrel
            by_cases hlt : k < F.length
            · have hen := entsV_at F k hlt
              have c1 : wr.cell? ⟨g, k * 2, none⟩ = some (.string ⟨F[k].1.toArray⟩) := by rw [HB.out.cell]; simpa using hen.1
              have hks := HSH.out _ (List.getElem_mem hlt)
              go_wp2_with fail
              refine (Clone_any F[k].1 _ hks).mono ?_
              rintro e w2 ⟨rfl, b2⟩
              have hbx2 := hbx.trans (b2.mono hbx.size)
              have HB2 := Lib.hid (HB.out.next b2)
              have d1 : w2.cell? ⟨g, k * 2, none⟩ = some (.string ⟨F[k].1.toArray⟩) := by rw [HB2.out.cell]; simpa using hen.1
              have d2 : w2.frozen? ⟨g, k * 2, none⟩ = false := HB2.out.frozen _
              have HS : Hid (Blk (w2.setCell ⟨g, k * 2, none⟩ (.string ⟨F[k].1.toArray⟩)) g 71 (entsV F).toArray) := by
                have h1 := HB2.out.set (k * 2) (.string ⟨F[k].1.toArray⟩)
                have h2 : (entsV F).toArray.setIfInBounds (k * 2) (.string ⟨F[k].1.toArray⟩) = (entsV F).toArray := by
                  apply Array.ext_getElem?
                  intro j
                  rw [Array.getElem?_setIfInBounds]
                  split
                  · rename_i e; subst e
                    split
                    · simpa using hen.1.symm
                    · rename_i h; rw [Array.getElem?_eq_none (by simpa using h)]
                  · rfl
                rw [h2] at h1; exact h1
              have hb3 : Below w.heap.size w (w2.setCell ⟨g, k * 2, none⟩ (.string ⟨F[k].1.toArray⟩)) := hbx2.setCell hBg _
              clear c1 hen
              go_wp2
              go_roundw
              case rel => exact ⟨k + 1, by omega, by go_num, hb3, HS.out⟩
              case measure => simp [intOf]; omega
            · obtain rfl : k = F.length := by omega
              go_wp2
              go_ret
              exact ⟨g, rfl, hBg, HB.out, hbx⟩
end Go.Proofs.YtkdmfeikikmiiaaGreat
namespace Go.Proofs.YtkdmfeikikmiiaaGreat
section
variable {P : Program} {ops : Array Oper} {Q : Exit → Act → World → Prop} {md : Region.Mode} {S : World → Prop}
theorem heldTake (i : Nat) (d : Option Tmp) {oi : Oper} {v : Value} {fuel : Nat} {listed : Array Bool} {a : Act} {w : World} (hi : ops[i]? = some oi) (hd : oi.dst = d)
    (hs : Region.noSelect ops = true) (hf : Region.free md ops listed i = true) (hr : (Region.ready md ops listed).contains i = true)
    (hQ : ∀ c a w, Q (.panic c) (a.put d v) w → Q (.panic c) a w) (hw : Region.wanted oi (yielded ops a.tmps) = true) (hv : ∀ w, S w → (execOp a.eval oi).run P w = .ok (.value v) w) (hS : S w)
    (h : wpAnyH P md ops Q S fuel (listed.setIfInBounds i true) (a.put d v) w) : wpAnyH P md ops Q S (fuel + 1) listed a w := by
  subst hd
  exact wpAnyH_take hi hs hf hr hQ (.inl ⟨hw, hv⟩) hS h
theorem heldSkip (i : Nat) (d : Option Tmp) {oi : Oper} {fuel : Nat} {listed : Array Bool} {a : Act} {w : World} (hi : ops[i]? = some oi) (hd : oi.dst = d)
    (hs : Region.noSelect ops = true) (hf : Region.free md ops listed i = true) (hr : (Region.ready md ops listed).contains i = true)
    (hQ : ∀ c a w, Q (.panic c) (a.put d undef) w → Q (.panic c) a w) (hw : Region.wanted oi (yielded ops a.tmps) = false) (hS : S w)
    (h : wpAnyH P md ops Q S fuel (listed.setIfInBounds i true) (a.put d undef) w) : wpAnyH P md ops Q S (fuel + 1) listed a w := by
  subst hd
  exact wpAnyH_take hi hs hf hr hQ (.inr ⟨hw, rfl⟩) hS h
end
end Go.Proofs.YtkdmfeikikmiiaaGreat
namespace Go.Proofs.YtkdmfeikikmiiaaGreat
open Go.RowKit
theorem Inodes_any (mi mb nx : Int) (l : List Nd) (v : Value) (w : World) (hv : Nds w v l) :
    Calls Tryz.prog 112 #[.agg (fsC mi mb nx v)] w fun e w' => e = .returned (.int .i64 (l.length : Int)) ∧ Below w.heap.size w w' := by
  obtain ⟨a, ca, rfl⟩ := nds_slice hv
  have b0 := Blk.new w 28 (fsC mi mb nx (.slice a l.length ca))
  have hB0 := alloc_below w (.cells (fsC mi mb nx (.slice a l.length ca)) 28)
  have p3 := b0.four.1.2.2.2
  go_enter Tryz.func112, Tryz.ntmps112
  go_wp2
  go_ret
  exact ⟨rfl, hB0⟩
theorem bytesOf_any (x : Nd) (w : World) (hx : Ents w x.ev x.ents) :
    Calls Tryz.prog 132 #[.agg (ndC x)] w fun e w' => e = .returned (.int .i64 (costN x : Int)) ∧ Below w.heap.size w w' := by
  obtain ⟨xi, xk, xl, xd, xp, xe, xn⟩ := x
  obtain ⟨a, c, hye, _⟩ := hx
  dsimp only at hye
  subst hye
  have b0 := Blk.new w 49 (ndC ⟨xi, xk, xl, xd, xp, .slice a xn.length c, xn⟩)
  have hB0 := alloc_below w (.cells (ndC ⟨xi, xk, xl, xd, xp, .slice a xn.length c, xn⟩) 49)
  obtain ⟨⟨s0, s1, s2, s3, s4, s5⟩, _⟩ := b0.six
  dsimp only at s0 s1 s2 s3 s4 s5
  cases h : (xk != 1)
  · have HC := Lib.hid (costN_yes (x := ⟨xi, xk, xl, xd, xp, .slice a xn.length c, xn⟩) (by simpa using h))
    go_enter Tryz.func132, Tryz.ntmps132
    go_wp2
    go_ret
    exact ⟨by rw [HC.out]; rfl, hB0⟩
  · have HC := Lib.hid (costN_no (x := ⟨xi, xk, xl, xd, xp, .slice a xn.length c, xn⟩) (by simpa using h))
    go_enter Tryz.func132, Tryz.ntmps132
    go_wp2
    go_ret
    exact ⟨by rw [HC.out]; rfl, hB0⟩
set_option maxHeartbeats 2000000 in
theorem Bytes_any (mi mb nx : Int) (l : List Nd) (v : Value) (w : World) (hv : Nds w v l) (hl : l.length ≤ 1000000) (hs : bytesN l ≤ 1099511627776) :
    Calls Tryz.prog 113 #[.agg (fsC mi mb nx v)] w fun e w' => e = .returned (.int .i64 (bytesN l : Int)) ∧ Below w.heap.size w w' := by
  obtain ⟨a, ca, rfl, hc, hm, hea, hna, HA0⟩ := id hv
  unfold maxLen at hm
  have HA := Lib.hid HA0
  have HE := Lib.hid hea
  clear HA0 hea hv
  have b0 := Blk.new w 28 (fsC mi mb nx (.slice a l.length ca))
  have hB0 := alloc_below w (.cells (fsC mi mb nx (.slice a l.length ca)) 28)
  have p3 := b0.four.1.2.2.2
  go_enter Tryz.func113, Tryz.ntmps113
  go_wp2
  clear p3
  go_loopw [3, 8] (fun s3 s8 wr => ∃ k : Nat, k ≤ l.length ∧ s8 = .int .i64 k ∧ s3 = .int .i64 (bytesN (l.take k) : Int) ∧ Below w.heap.size w wr ∧ Aside (Blk wr w.heap.size 28 (fsC mi mb nx (.slice a l.length ca)))) (fun _ s8 _ => l.length - (intOf s8).toNat)
  case atStart => exact ⟨0, Nat.zero_le _, rfl, rfl, hB0, b0⟩
  case round =>
    clear b0 hB0
    obtain ⟨k, hk, rfl, rfl, hbw, HB⟩ := hrel
    have p3 := HB.out.four.1.2.2.2
    by_cases hlt : k < l.length
    · obtain ⟨b, o, rfl, hb, hcl⟩ := HA.out (by omega)
      obtain ⟨c0, c1, c2, c3, c4, c5⟩ := (hcl k hlt).below hbw hb
      clear hcl
      have hE := (HE.out.below hbw) _ (List.getElem_mem hlt)
      have hnx := bytesN_next hlt
      have hle := bytesN_take l (k + 1)
      generalize l[k] = y at *
      generalize hT : bytesN (l.take (k + 1)) = T at *
      have HT := Lib.hid hT
      generalize bytesN (l.take k) = U at *
      have k0 : (0 : Int) ≤ (k : Int) := by omega
      have k1 : (k : Int) < (l.length : Int) := by omega
      have hCall := bytesOf_any y wr hE
      obtain ⟨yi, yk, yl, yd, yp, ye, yn⟩ := y
      dsimp only at hE c0 c1 c2 c3 c4 c5 hCall
      obtain ⟨ae, ne, rfl, _⟩ := hE
      generalize costN ⟨yi, yk, yl, yd, yp, .slice ae yn.length ne, yn⟩ = z at *
      clear hT
      go_wp2_with fail
      refine hCall.mono ?_
      rintro e w2 ⟨rfl, b2⟩
      have hb3 := hbw.trans (b2.mono hbw.size)
      have HB2 := HB.out.next b2
      clear hCall
      go_wp2
      go_roundw
      case rel => exact ⟨k + 1, by omega, by go_num, by rw [HT.out, hnx]; go_num, hb3, HB2⟩
      case measure => simp [intOf]; omega
    · obtain rfl : k = l.length := by omega
      have HN := Lib.hid (bytesN_end l)
      go_wp2
      go_ret
      exact ⟨by rw [HN.out]; rfl, hbw⟩
set_option maxHeartbeats 2000000 in
theorem refBytes_any (mi mb nx : Int) (l : List Nd) (v : Value) (w : World) (hv : Nds w v l) (hl : l.length ≤ 1000000) (hs : bytesN l ≤ 1099511627776) :
    Calls Tryz.prog 51 #[.agg (fsC mi mb nx v)] w fun e w' => e = .returned (.int .i64 (bytesN l : Int)) ∧ Below w.heap.size w w' := by
  obtain ⟨a, ca, rfl, hc, hm, hea, hna, HA0⟩ := id hv
  unfold maxLen at hm
  have HA := Lib.hid HA0
  have HE := Lib.hid hea
  clear HA0 hea hv
  have b0 := Blk.new w 28 (fsC mi mb nx (.slice a l.length ca))
  have hB0 := alloc_below w (.cells (fsC mi mb nx (.slice a l.length ca)) 28)
  go_enter Tryz.func51, Tryz.ntmps51
  go_wp2
  go_loopw [3, 4] (fun s3 s4 wr => ∃ k : Nat, k ≤ l.length ∧ s4 = .int .i64 k ∧ s3 = .int .i64 (bytesN (l.take k) : Int) ∧ wr = w.alloc (.cells (fsC mi mb nx (.slice a l.length ca)) 28)) (fun _ s4 _ => l.length - (intOf s4).toNat)
  case atStart => exact ⟨0, Nat.zero_le _, rfl, rfl, rfl⟩
  case round =>
    obtain ⟨k, hk, rfl, rfl, rfl⟩ := hrel
    have p3 := b0.four.1.2.2.2
    generalize w.alloc (.cells (fsC mi mb nx (.slice a l.length ca)) 28) = wr at *
    by_cases hlt : k < l.length
    · obtain ⟨b, o, rfl, hb, hcl⟩ := HA.out (by omega)
      obtain ⟨c0, c1, c2, c3, c4, c5⟩ := (hcl k hlt).below hB0 hb
      clear hcl
      have hnx := bytesN_next hlt
      have hle := bytesN_take l (k + 1)
      generalize l[k] = y at *
      generalize hT : bytesN (l.take (k + 1)) = T at *
      have HT := Lib.hid hT
      generalize bytesN (l.take k) = U at *
      have k0 : (0 : Int) ≤ (k : Int) := by omega
      have k1 : (k : Int) < (l.length : Int) := by omega
      obtain ⟨yi, yk, yl, yd, yp, ye, yn⟩ := y
      dsimp only at c0 c1 c2 c3 c4 c5
      clear hT
      cases h : (yk == 1)
      · have HC := Lib.hid (costN_no (x := ⟨yi, yk, yl, yd, yp, ye, yn⟩) (by simpa using h))
        rw [HC.out] at hnx
        go_wp2
        go_roundw
        case rel => exact ⟨k + 1, by omega, by go_num, by rw [HT.out, hnx]; go_num, trivial⟩
        case measure => simp [intOf]; omega
      · have HC := Lib.hid (costN_yes (x := ⟨yi, yk, yl, yd, yp, ye, yn⟩) (by simpa using h))
        rw [HC.out] at hnx
        dsimp only at hnx
        go_wp2
        go_roundw
        case rel => exact ⟨k + 1, by omega, by go_num, by rw [HT.out, hnx]; go_num, trivial⟩
        case measure => simp [intOf]; omega
    · obtain rfl : k = l.length := by omega
      have HN := Lib.hid (bytesN_end l)
      go_wp2
      go_ret
      exact ⟨by rw [HN.out]; rfl, hB0⟩
set_option maxHeartbeats 2000000 in
theorem Fits_any (mi mb nx i b : Int) (l : List Nd) (v : Value) (w : World) (hv : Nds w v l) (hl : l.length ≤ 1000000) (hs : bytesN l ≤ 1099511627776) (hi : -1099511627776 ≤ i ∧ i ≤ 1099511627776) (hb : -1099511627776 ≤ b ∧ b ≤ 1099511627776) :
    Calls Tryz.prog 92 #[.agg (fsC mi mb nx v), .int .i64 i, .int .i64 b] w fun e w' => e = .returned (.bool (fitsB mi mb l i b)) ∧ Below w.heap.size w w' := by
  obtain ⟨a, ca, rfl⟩ := nds_slice hv
  have b0 := Blk.new w 28 (fsC mi mb nx (.slice a l.length ca))
  have hB0 := alloc_below w (.cells (fsC mi mb nx (.slice a l.length ca)) 28)
  have nV := hv.below hB0
  clear hv
  generalize hw1 : w.alloc (.cells (fsC mi mb nx (.slice a l.length ca)) 28) = w1 at *
  have HW := Lib.hid hw1
  clear hw1
  have HMK : ∀ W, Below w1.heap.size w1 W → (W.cell? ⟨w.heap.size, 0, none⟩ = some (.int .i64 mi) ∧ W.cell? ⟨w.heap.size, 1, none⟩ = some (.int .i64 mb) ∧ W.cell? ⟨w.heap.size, 2, none⟩ = some (.int .i64 nx) ∧ W.cell? ⟨w.heap.size, 3, none⟩ = some (.slice a l.length ca)) := by
    intro W h
    exact (b0.next h).four.1
  clear b0
  have hq := (Below.refl w1.heap.size w1).drew
  have n1 : IntKind.i64.wrap ((l.length : Int) + i) = (l.length : Int) + i := by rw [IntKind.wrap_i64]; omega
  have n2 : IntKind.i64.wrap ((bytesN l : Int) + b) = (bytesN l : Int) + b := by rw [IntKind.wrap_i64]; omega
  go_enter Tryz.func92, Tryz.ntmps92
  cases h1 : decide ((l.length : Int) + i ≤ mi)
  · have HF : Hid (fitsB mi mb l i b = false) := by (show _ = _); unfold fitsB; rw [h1, Bool.false_and]
    go_upto_region 1 with fail
    rw [HW.out]
    (refine wp_region_held_drew (S := (fun W => W.cell? ⟨w.heap.size, 0, none⟩ = some (.int .i64 mi) ∧ W.cell? ⟨w.heap.size, 1, none⟩ = some (.int .i64 mb) ∧ W.cell? ⟨w.heap.size, 2, none⟩ = some (.int .i64 nx) ∧ W.cell? ⟨w.heap.size, 3, none⟩ = some (.slice a l.length ca))) (by kernel_rfl) (HMK _ hq) (fun hHeld => ?_))
    (refine heldTake 0 (some 7) (v := ?_) rfl rfl (by kernel_rfl) (by kernel_rfl) (by kernel_rfl) (fun _ _ _ h => h) (by rfl) ?_ (by assumption) ?_; rotate_left; (focus (intro w hSw; (try dsimp only at hSw); go_simp; try with_reducible rfl)); (try simp only [Act.put, List.setIfInBounds_toArray, List.set_cons_zero, List.set_cons_succ]))
    (refine heldTake 2 (some 9) (v := ?_) rfl rfl (by kernel_rfl) (by kernel_rfl) (by kernel_rfl) (fun _ _ _ h => h) (by rfl) ?_ (by assumption) ?_; rotate_left; (focus (intro w hSw; (try dsimp only at hSw); go_simp; try with_reducible rfl)); (try simp only [Act.put, List.setIfInBounds_toArray, List.set_cons_zero, List.set_cons_succ]))
    (refine heldTake 4 (some 11) (v := ?_) rfl rfl (by kernel_rfl) (by kernel_rfl) (by kernel_rfl) (fun _ _ _ h => h) (by rfl) ?_ (by assumption) ?_; rotate_left; (focus (intro w hSw; (try dsimp only at hSw); go_simp; try with_reducible rfl)); (try simp only [Act.put, List.setIfInBounds_toArray, List.set_cons_zero, List.set_cons_succ]))
    (refine heldTake 5 (some 12) (v := ?_) rfl rfl (by kernel_rfl) (by kernel_rfl) (by kernel_rfl) (fun _ _ _ h => h) (by rfl) ?_ (by assumption) ?_; rotate_left; (focus (intro w hSw; (try dsimp only at hSw); go_simp; try with_reducible rfl)); (try simp only [Act.put, List.setIfInBounds_toArray, List.set_cons_zero, List.set_cons_succ]))
    (refine wpAnyH_ready (rs := [1]) (by kernel_rfl) (by simp) ?_; refine AllReadyH.cons rfl (fun K hK => ?_) AllReadyH.nil; go_simp; go_at_call 112; refine (Inodes_any mi mb nx l _ _ (nV.below hq)).mono ?_; rintro e wz ⟨rfl, bz⟩; have hq := hq.trans (bz.mono hq.size); (try dsimp only); refine hK.out _ _ (HMK _ hq) (fun hHeld => ?_); clear hK K; (try simp only [Act.put, List.setIfInBounds_toArray, List.set_cons_zero, List.set_cons_succ]))
    (refine heldTake 3 (some 10) (v := ?_) rfl rfl (by kernel_rfl) (by kernel_rfl) (by kernel_rfl) (fun _ _ _ h => h) (by rfl) ?_ (by assumption) ?_; rotate_left; (focus (intro w hSw; (try dsimp only at hSw); go_simp; try with_reducible rfl)); (try simp only [Act.put, List.setIfInBounds_toArray, List.set_cons_zero, List.set_cons_succ]))
    (refine heldTake 6 (some 13) (v := ?_) rfl rfl (by kernel_rfl) (by kernel_rfl) (by kernel_rfl) (fun _ _ _ h => h) (by rfl) ?_ (by assumption) ?_; rotate_left; (focus (intro w hSw; (try dsimp only at hSw); go_simp; try with_reducible rfl)); (try simp only [Act.put, List.setIfInBounds_toArray, List.set_cons_zero, List.set_cons_succ]))
    (refine heldTake 7 (some 14) (v := ?_) rfl rfl (by kernel_rfl) (by kernel_rfl) (by kernel_rfl) (fun _ _ _ h => h) (by rfl) ?_ (by assumption) ?_; rotate_left; (focus (intro w hSw; (try dsimp only at hSw); go_simp; try with_reducible rfl)); (try simp only [Act.put, List.setIfInBounds_toArray, List.set_cons_zero, List.set_cons_succ]))
    (refine heldSkip 8 (some 15) rfl rfl (by kernel_rfl) (by kernel_rfl) (by kernel_rfl) (fun _ _ _ h => h) (by rfl) (by assumption) ?_; (try simp only [Act.put, List.setIfInBounds_toArray, List.set_cons_zero, List.set_cons_succ]))
    (refine heldSkip 9 (some 16) rfl rfl (by kernel_rfl) (by kernel_rfl) (by kernel_rfl) (fun _ _ _ h => h) (by rfl) (by assumption) ?_; (try simp only [Act.put, List.setIfInBounds_toArray, List.set_cons_zero, List.set_cons_succ]))
    (refine heldSkip 10 (some 17) rfl rfl (by kernel_rfl) (by kernel_rfl) (by kernel_rfl) (fun _ _ _ h => h) (by rfl) (by assumption) ?_; (try simp only [Act.put, List.setIfInBounds_toArray, List.set_cons_zero, List.set_cons_succ]))
    (refine heldSkip 11 (some 18) rfl rfl (by kernel_rfl) (by kernel_rfl) (by kernel_rfl) (fun _ _ _ h => h) (by rfl) (by assumption) ?_; (try simp only [Act.put, List.setIfInBounds_toArray, List.set_cons_zero, List.set_cons_succ]))
    (refine heldSkip 12 (some 19) rfl rfl (by kernel_rfl) (by kernel_rfl) (by kernel_rfl) (fun _ _ _ h => h) (by rfl) (by assumption) ?_; (try simp only [Act.put, List.setIfInBounds_toArray, List.set_cons_zero, List.set_cons_succ]))
    (refine heldSkip 13 (some 20) rfl rfl (by kernel_rfl) (by kernel_rfl) (by kernel_rfl) (fun _ _ _ h => h) (by rfl) (by assumption) ?_; (try simp only [Act.put, List.setIfInBounds_toArray, List.set_cons_zero, List.set_cons_succ]))
    (refine heldSkip 14 (some 21) rfl rfl (by kernel_rfl) (by kernel_rfl) (by kernel_rfl) (fun _ _ _ h => h) (by rfl) (by assumption) ?_; (try simp only [Act.put, List.setIfInBounds_toArray, List.set_cons_zero, List.set_cons_succ]))
    (refine heldTake 15 (some 22) (v := ?_) rfl rfl (by kernel_rfl) (by kernel_rfl) (by kernel_rfl) (fun _ _ _ h => h) (by rfl) ?_ (by assumption) ?_; rotate_left; (focus (intro w hSw; (try dsimp only at hSw); go_simp; try with_reducible rfl)); (try simp only [Act.put, List.setIfInBounds_toArray, List.set_cons_zero, List.set_cons_succ]))
    (refine heldTake 16 (some 6) (v := ?_) rfl rfl (by kernel_rfl) (by kernel_rfl) (by kernel_rfl) (fun _ _ _ h => h) (by rfl) ?_ (by assumption) ?_; rotate_left; (focus (intro w hSw; (try dsimp only at hSw); go_simp; try with_reducible rfl)); (try simp only [Act.put, List.setIfInBounds_toArray, List.set_cons_zero, List.set_cons_succ]))
    refine wpAnyH_done (by kernel_rfl) ?_ _
    all_goals go_wp2
    all_goals go_ret
    all_goals exact ⟨ret_bool (by rw [HF.out]), hB0.trans (hq.mono hB0.size)⟩
  · have HF : Hid (fitsB mi mb l i b = decide ((bytesN l : Int) + b ≤ mb)) := by (show _ = _); unfold fitsB; rw [h1, Bool.true_and]
    go_upto_region 1 with fail
    rw [HW.out]
    go_region_held3 (fun W => W.cell? ⟨w.heap.size, 0, none⟩ = some (.int .i64 mi) ∧ W.cell? ⟨w.heap.size, 1, none⟩ = some (.int .i64 mb) ∧ W.cell? ⟨w.heap.size, 2, none⟩ = some (.int .i64 nx) ∧ W.cell? ⟨w.heap.size, 3, none⟩ = some (.slice a l.length ca))
      (exact HMK _ hq)
      (first
        | (go_at_call 112; refine (Inodes_any mi mb nx l _ _ (nV.below hq)).mono ?_; rintro e wz ⟨rfl, bz⟩; have hq := hq.trans (bz.mono hq.size))
        | (go_at_call 113; refine (Bytes_any mi mb nx l _ _ (nV.below hq) hl hs).mono ?_; rintro e wz ⟨rfl, bz⟩; have hq := hq.trans (bz.mono hq.size)))
    all_goals go_wp2
    all_goals go_ret
    all_goals exact ⟨ret_bool (by rw [HF.out]), hB0.trans (hq.mono hB0.size)⟩
set_option maxHeartbeats 2000000 in
theorem refFits_any (mi mb nx i b : Int) (l : List Nd) (v : Value) (w : World) (hv : Nds w v l) (hl : l.length ≤ 1000000) (hs : bytesN l ≤ 1099511627776) (hi : -1099511627776 ≤ i ∧ i ≤ 1099511627776) (hb : -1099511627776 ≤ b ∧ b ≤ 1099511627776) :
    Calls Tryz.prog 25 #[.agg (fsC mi mb nx v), .int .i64 i, .int .i64 b] w fun e w' => e = .returned (.bool (fitsB mi mb l i b)) ∧ Below w.heap.size w w' := by
  obtain ⟨a, ca, rfl⟩ := nds_slice hv
  have b0 := Blk.new w 28 (fsC mi mb nx (.slice a l.length ca))
  have hB0 := alloc_below w (.cells (fsC mi mb nx (.slice a l.length ca)) 28)
  have nV := hv.below hB0
  clear hv
  obtain ⟨p0, p1, p2, p3⟩ := b0.four.1
  have n1 : IntKind.i64.wrap ((l.length : Int) + i) = (l.length : Int) + i := by rw [IntKind.wrap_i64]; omega
  have n2 : IntKind.i64.wrap ((bytesN l : Int) + b) = (bytesN l : Int) + b := by rw [IntKind.wrap_i64]; omega
  go_enter Tryz.func25, Tryz.ntmps25
  by_cases h1 : (l.length : Int) + i ≤ mi
  · have HF : Hid (fitsB mi mb l i b = decide ((bytesN l : Int) + b ≤ mb)) := by (show _ = _); unfold fitsB; rw [decide_eq_true h1, Bool.true_and]
    have h2 : ¬ ((l.length : Int) + i > mi) := by omega
    go_upto_region 3 with fail
    generalize hw1 : w.alloc (.cells (fsC mi mb nx (.slice a l.length ca)) 28) = w1 at *
    have HMK : ∀ W, Below w1.heap.size w1 W → (W.cell? ⟨w.heap.size, 0, none⟩ = some (.int .i64 mi) ∧ W.cell? ⟨w.heap.size, 1, none⟩ = some (.int .i64 mb) ∧ W.cell? ⟨w.heap.size, 2, none⟩ = some (.int .i64 nx) ∧ W.cell? ⟨w.heap.size, 3, none⟩ = some (.slice a l.length ca)) := by
      intro W h
      exact (b0.next h).four.1
    have hq := (Below.refl w1.heap.size w1).drew
    clear b0 p0 p1 p2 p3 hw1
    go_region_held3 (fun W => W.cell? ⟨w.heap.size, 0, none⟩ = some (.int .i64 mi) ∧ W.cell? ⟨w.heap.size, 1, none⟩ = some (.int .i64 mb) ∧ W.cell? ⟨w.heap.size, 2, none⟩ = some (.int .i64 nx) ∧ W.cell? ⟨w.heap.size, 3, none⟩ = some (.slice a l.length ca))
      (exact HMK _ hq)
      (first
        | (go_at_call 51; refine (refBytes_any mi mb nx l _ _ (nV.below hq) hl hs).mono ?_; rintro e wz ⟨rfl, bz⟩; have hq := hq.trans (bz.mono hq.size)))
    all_goals go_wp2
    all_goals go_ret
    all_goals exact ⟨ret_bool (by rw [HF.out]), hB0.trans (hq.mono hB0.size)⟩
  · have HF : Hid (fitsB mi mb l i b = false) := by (show _ = _); unfold fitsB; rw [decide_eq_false h1, Bool.false_and]
    have h2 : (l.length : Int) + i > mi := by omega
    go_wp2
    go_ret
    exact ⟨ret_bool (by rw [HF.out]), hB0⟩
end Go.Proofs.YtkdmfeikikmiiaaGreat
namespace Go.Proofs.YtkdmfeikikmiiaaGreat
theorem ok_zero {mi mb nx : Int} {l : List Nd} (h : OkS mi mb nx l) : hasN l 0 = false := by
  obtain ⟨h1, _⟩ := check_parts h.check
  unfold firstB at h1
  rw [Bool.and_eq_true, Bool.and_eq_true, List.all_eq_true] at h1
  cases hh : hasN l 0
  · rfl
  · obtain ⟨hm, hi⟩ := get_mem hh
    have := h1.1.2 _ hm
    unfold inoB at this
    rw [Bool.and_eq_true, decide_eq_true_eq, decide_eq_true_eq, hi] at this
    omega
/-- What a path leads to is there, but for the last name's. -/
def LeadsIn (l : List Nd) (p : List UInt8) : Prop := (atP l p).2 = 0 → hasN l (atP l p).1.ino = decide ((atP l p).1.ino ≠ 0)
theorem num_hasB {es : List Ent} (h : rightB es = true) (n : List UInt8) : hasB es n = decide (numB es n ≠ 0) := by
  rw [has_find]
  unfold numB
  cases hf : es.find? (fun e => e.1 == n) with
  | none => rfl
  | some e =>
    have hm := List.mem_of_find?_eq_some hf
    have := ((rightB_iff es).1 h).1 e hm
    unfold goodE at this
    rw [Bool.and_eq_true, decide_eq_true_eq] at this
    simp; omega
theorem step_in {l : List Nd} (t : Tree l) (h0 : hasN l 0 = false) (i : Int) (n : List UInt8) : hasN l (stepS l i n).ino = decide ((stepS l i n).ino ≠ 0) := by
  show hasN l (numB (getN l i).ents n) = decide (numB (getN l i).ents n ≠ 0)
  unfold numB
  cases hf : (getN l i).ents.find? (fun e => e.1 == n) with
  | none => simpa using h0
  | some e =>
    have hm := List.mem_of_find?_eq_some hf
    have hp := ent_pos t e hm
    have hd := (get_mem (ent_dir t hm).2).1
    have ht := t.there _ hd e hm
    show hasN l e.2 = _
    rw [ht]
    simp; omega
theorem at_in {l : List Nd} (t : Tree l) (h0 : hasN l 0 = false) (ns : List (List UInt8)) : ∀ s q : Sp, hasN l s.ino = decide (s.ino ≠ 0) → atN l s ns = (q, 0) → hasN l q.ino = decide (q.ino ≠ 0) := by
  induction ns with
  | nil =>
    intro s q hs h
    rw [show q = s from (Prod.mk.inj h).1.symm]; exact hs
  | cons n r ih =>
    intro s q hs h
    by_cases hz : s.ino = 0
    · rw [at_gone hz] at h; cases h
    · by_cases hk : (getN l s.ino).kind = 2
      · rw [at_on hz hk] at h
        exact ih _ q (step_in t h0 _ _) h
      · rw [at_file hz hk] at h; cases h
theorem leads_in {mi mb nx : Int} {l : List Nd} (h : OkS mi mb nx l) (p : List UInt8) : LeadsIn l p := by
  intro he
  have t := tree_c h.check
  unfold atP at he ⊢
  cases hp : plainB p with
  | none => rw [hp] at he; exact absurd (show (9 : Int) = 0 from he) (by decide)
  | some ns =>
    rw [hp] at he
    dsimp only at he ⊢
    exact at_in t (ok_zero h) ns rootS _ (by rw [show rootS.ino = 1 from rfl, t.root]; rfl) (Prod.ext rfl he)
end Go.Proofs.YtkdmfeikikmiiaaGreat
namespace Go.Proofs.YtkdmfeikikmiiaaGreat
open Go.RowKit
theorem cut_cases (l : List UInt8) : (Lib.indexByte l 47 = -1 ∧ 47 ∉ l) ∨ ∃ x r, l = x ++ 47 :: r ∧ 47 ∉ x ∧ Lib.indexByte l 47 = (x.length : Int) := by
  induction l with
  | nil => left; exact ⟨rfl, by simp⟩
  | cons c l ih =>
    by_cases hc : c = 47
    · subst hc; right; exact ⟨[], l, rfl, by simp, by simp [Lib.indexByte]⟩
    · have hb : (c == 47) = false := by simpa using hc
      rcases ih with ⟨h1, h2⟩ | ⟨x, r, rfl, hx, h⟩
      · left
        refine ⟨by simp [Lib.indexByte, hb, h1], ?_⟩
        simp only [List.mem_cons, not_or]
        exact ⟨fun e => hc e.symm, h2⟩
      · right
        refine ⟨c :: x, r, rfl, ?_, ?_⟩
        · simp only [List.mem_cons, not_or]
          exact ⟨fun e => hc e.symm, hx⟩
        · have hne : (Lib.indexByte (x ++ 47 :: r) 47 == -1) = false := by rw [h, beq_eq_false_iff_ne]; omega
          simp only [Lib.indexByte, hb, Bool.false_eq_true, if_false, hne, h]
          simp
theorem lcut_none (l : List UInt8) (w : World) (h : Lib.indexByte l 47 = -1) :
    Calls Tryz.prog 134 #[.string ⟨l.toArray⟩, .string ⟨#[47]⟩] w fun e w' => e = .returned (.tuple #[.string ⟨l.toArray⟩, .string ⟨#[]⟩, .bool false]) ∧ w' = w := by
  go_enter Tryz.func134, Tryz.ntmps134
  go_wp2_with fail
  refine (Tryz.stringslite_Index_one ⟨l.toArray⟩ 47 _).mono ?_
  rintro e w' ⟨rfl, rfl⟩
  rw [show Lib.indexByte (ByteArray.mk l.toArray).data.toList 47 = -1 from h]
  go_wp2
  go_ret3
  exact ⟨rfl, rfl⟩
theorem lcut_some (x r : List UInt8) (w : World) (hl : x.length + r.length ≤ 1000000000) (h : Lib.indexByte (x ++ 47 :: r) 47 = (x.length : Int)) :
    Calls Tryz.prog 134 #[.string ⟨(x ++ 47 :: r).toArray⟩, .string ⟨#[47]⟩] w fun e w' => e = .returned (.tuple #[.string ⟨x.toArray⟩, .string ⟨r.toArray⟩, .bool true]) ∧ ∃ n, w' = w.drewN n := by
  have c1 : (0 : Int) ≤ (x.length : Int) := by omega
  have c2 : (x.length : Int) ≤ (((ByteArray.mk (x ++ 47 :: r).toArray).size : Nat) : Int) := by simp [ByteArray.size]; omega
  have c3 : (0 : Int) ≤ (x.length : Int) + 1 := by omega
  have c4 : (x.length : Int) + 1 ≤ (((ByteArray.mk (x ++ 47 :: r).toArray).size : Nat) : Int) := by simp [ByteArray.size]; omega
  have hlim : (((ByteArray.mk (x ++ 47 :: r).toArray).size : Nat) : Int) ≤ 2000000000 := by simp [ByteArray.size]; omega
  have e1 : (ByteArray.mk (x ++ 47 :: r).toArray).extract 0 x.length = ⟨x.toArray⟩ := by
    rw [Lib.extract_eq]; simp
  have e2 : (ByteArray.mk (x ++ 47 :: r).toArray).extract (x.length + 1) (ByteArray.mk (x ++ 47 :: r).toArray).size = ⟨r.toArray⟩ := by
    have hd : List.drop (x.length + 1) (x ++ 47 :: r) = r := by
      rw [show x ++ 47 :: r = (x ++ [47]) ++ r from by simp, show x.length + 1 = (x ++ [47]).length from by simp, List.drop_left]
    rw [Lib.extract_eq]
    show ByteArray.mk (List.take ((x ++ 47 :: r).toArray.size - (x.length + 1)) (List.drop (x.length + 1) (x ++ 47 :: r).toArray.toList)).toArray = _
    rw [List.toList_toArray, hd, List.size_toArray, List.length_append, List.length_cons, List.take_of_length_le (by omega)]
  have E1 := Lib.hid e1
  have E2 := Lib.hid e2
  clear e1 e2
  generalize hs : ByteArray.mk (x ++ 47 :: r).toArray = s at *
  go_enter Tryz.func134, Tryz.ntmps134
  go_wp2_with fail
  refine (Tryz.stringslite_Index_one s 47 _).mono ?_
  rintro e w' ⟨rfl, rfl⟩
  rw [show Lib.indexByte s.data.toList 47 = (x.length : Int) from by rw [← hs]; exact h]
  go_wp2
  go_quiet (fail)
  go_wp2
  go_ret3
  refine ⟨?_, _, rfl⟩
  show Ending.returned (Value.tuple #[.string (s.extract 0 x.length), .string (s.extract (x.length + 1) s.size), .bool true]) = _
  rw [E1.out, E2.out]
/-- What lies ahead of the first slash, and what behind it; all of it where there is none. -/
def CutPost (l : List UInt8) (w : World) (e : Ending) (w' : World) : Prop :=
  (∃ n, w' = w.drewN n) ∧ ((e = .returned (.tuple #[.string ⟨l.toArray⟩, .string ⟨#[]⟩, .bool false]) ∧ 47 ∉ l) ∨
    ∃ x r, l = x ++ 47 :: r ∧ 47 ∉ x ∧ e = .returned (.tuple #[.string ⟨x.toArray⟩, .string ⟨r.toArray⟩, .bool true]))
theorem Cut_any (l : List UInt8) (w : World) (hl : l.length ≤ 1000000) :
    Calls Tryz.prog 117 #[.string ⟨l.toArray⟩, .string ⟨#[47]⟩] w (CutPost l w) := by
  rcases cut_cases l with ⟨h, hn⟩ | ⟨x, r, rfl, hx, h⟩
  · go_enter Tryz.func117, Tryz.ntmps117
    go_wp2_with fail; refine (lcut_none l _ h).mono ?_; rintro e w' ⟨rfl, rfl⟩
    go_wp2
    go_ret3
    exact ⟨⟨0, rfl⟩, .inl ⟨rfl, hn⟩⟩
  · go_enter Tryz.func117, Tryz.ntmps117
    go_wp2_with fail; refine (lcut_some x r _ (by simp at hl; omega) h).mono ?_; rintro e w' ⟨rfl, n, rfl⟩
    go_wp2
    go_ret3
    exact ⟨⟨n, rfl⟩, .inr ⟨x, r, rfl, hx, rfl⟩⟩
end Go.Proofs.YtkdmfeikikmiiaaGreat
namespace Go.Proofs.YtkdmfeikikmiiaaGreat
open Go.RowKit Go.Shelf
attribute [local go_sem] Oper.semAt_some
/-- A text of no more than so many bytes. -/
abbrev Txt : Type := { x : List UInt8 // x.length ≤ 1000000 }
abbrev txtV (x : Txt) : Array Value := #[.string ⟨x.1.toArray⟩]
def strLen : Value → Nat
  | .string b => b.size
  | _ => 0
set_option maxRecDepth 100000 in
set_option maxHeartbeats 2000000 in
theorem namesOf1_in (l B : Nat) (p : List UInt8) (hp : p.length ≤ 1000000) (J Jx : List Txt → World → Prop)
    (hJd : ∀ s (A : World) (q : Nat), J s A → J s (A.drewN q))
    (hY : ∀ pre x W, J pre W → pre.length < p.length + 1 → YieldAt Fence.wide (3 - 1 - 1) Tryz.prog l (txtV x) W fun e W' =>
      (e = .returned (.bool true) ∧ J (pre ++ [x]) W' ∧ True) ∨ (e = .returned (.bool false) ∧ Jx (pre ++ [x]) W'))
    (W : World) (hc : W.cell? ⟨B, 0, none⟩ = some (.string ⟨p.toArray⟩)) (h0 : J [] W) :
    CallsIn Fence.wide (3 - 1) Tryz.prog 116 #[.func (.yield l) #[] #[], .pointer (some ⟨B, 0, none⟩)] W fun e W' => (∃ v, e = .returned v) ∧
      ((∃ ys : List Txt, ys.map (·.1) = namesB p ∧ J ys W') ∨ (∃ pre : List Txt, pre.map (·.1) <+: namesB p ∧ Jx pre W')) := by
  refine callsIn_of_wp Tryz.func116 rfl trivial ?_ rfl
  simp only [Tryz.ntmps116, List.size_toArray, List.length_cons, List.length_nil, Nat.reduceAdd, Nat.reduceSub, Array.replicate_succ, Array.replicate_zero, List.push_toArray, List.append_toArray, List.nil_append, List.cons_append]
  gi_wp2
  gi_loopw [3] (fun s3 wr => ∃ (pre : List Txt) (r : List UInt8), s3 = .string ⟨r.toArray⟩ ∧ pre.length + r.length ≤ p.length ∧ Aside (namesB p = pre.map (·.1) ++ namesB r) ∧ J pre wr) (fun s3 _ => strLen s3)
  case atStart => exact ⟨[], p, rfl, by simp, rfl, h0⟩
  case round =>
    obtain ⟨pre, r, rfl, hlen, HN, hJ⟩ := hrel
    by_cases hr : r = []
    · subst hr
      have HN' : Hid (pre.map (·.1) = namesB p) := by (show _ = _); rw [HN.out, namesB_nil, List.append_nil]
      gi_wp2
      go_end0
      exact ⟨⟨_, rfl⟩, .inl ⟨pre, HN'.out, hJ⟩⟩
    · have hr0 : r.isEmpty = false := by simpa using hr
      gi_wp2_with fail
      refine ⟨trivial, ?_⟩
      gi_at_call 117
      refine (callsIn_wide.2 (Cut_any r _ (by omega))).mono ?_
      rintro e w' ⟨⟨q, rfl⟩, ⟨rfl, hn⟩ | ⟨x, t, rfl, hx, rfl⟩⟩
      · have hJ2 := hJd _ _ q hJ
        have HN2 := Lib.hid (HN.out.trans (by rw [namesB_none r hn, atomB_cons hr]))
        obtain ⟨fn, tmps, assign, body, hy0, hR⟩ := hY pre ⟨r, by omega⟩ _ hJ2 (by omega)
        have hy : (Instr.yield l #[.string ⟨r.toArray⟩]).run Tryz.prog (wr.drewN q) = .ok (.round l fn tmps assign body) (wr.drewN q) := hy0
        clear hy0
        gi_wp2
        refine hR.mono ?_
        rintro e W3 (⟨rfl, hJ3, hk3⟩ | ⟨rfl, hJx3⟩)
        · gi_wp2
          go_roundw
          case rel => exact ⟨pre ++ [⟨r, by omega⟩], [], rfl, by (have : 0 < r.length := List.length_pos_iff.2 hr); simp; omega, by (show _ = _); rw [HN2.out]; simp [namesB_nil], hJ3⟩
          case measure => simp [strLen, ByteArray.size]; exact List.length_pos_iff.2 hr
        · gi_wp2
          refine bodyPost_ret (results_none rfl _ _ _) rfl ?_
          exact ⟨⟨_, rfl⟩, .inr ⟨pre ++ [⟨r, by omega⟩], by rw [HN2.out]; simp, hJx3⟩⟩
      · have hJ2 := hJd _ _ q hJ
        simp only [List.length_append, List.length_cons] at hlen
        by_cases hxe : x = []
        · subst hxe
          have HN2 := Lib.hid (HN.out.trans (by rw [namesB_found _ _ hx, atomB_nil, List.nil_append]))
          gi_wp2
          refine ⟨fun _ h => (by cases h), ?_⟩
          gi_wp2
          go_roundw
          case rel => exact ⟨pre, t, rfl, by omega, HN2.out, hJ2⟩
          case measure => simp [strLen, ByteArray.size]
        · obtain ⟨c, x, rfl⟩ : ∃ c y, x = c :: y := by cases x with | nil => exact absurd rfl hxe | cons c y => exact ⟨c, y, rfl⟩
          have HN2 := Lib.hid (HN.out.trans (by rw [namesB_found _ _ hx, atomB_cons hxe]))
          obtain ⟨fn, tmps, assign, body, hy0, hR⟩ := hY pre ⟨c :: x, by omega⟩ _ hJ2 (by omega)
          have hy : (Instr.yield l #[.string ⟨(c :: x).toArray⟩]).run Tryz.prog (wr.drewN q) = .ok (.round l fn tmps assign body) (wr.drewN q) := hy0
          clear hy0
          gi_wp2
          refine hR.mono ?_
          rintro e W3 (⟨rfl, hJ3, hk3⟩ | ⟨rfl, hJx3⟩)
          · gi_wp2
            go_roundw
            case rel => exact ⟨pre ++ [⟨c :: x, by omega⟩], t, rfl, by simp; omega, by (show _ = _); rw [HN2.out]; simp, hJ3⟩
            case measure => simp [strLen, ByteArray.size]; omega
          · gi_wp2
            refine bodyPost_ret (results_none rfl _ _ _) rfl ?_
            exact ⟨⟨_, rfl⟩, .inr ⟨pre ++ [⟨c :: x, by omega⟩], by rw [HN2.out]; exact ⟨namesB t, by simp⟩, hJx3⟩⟩
end Go.Proofs.YtkdmfeikikmiiaaGreat
namespace Go.Proofs.YtkdmfeikikmiiaaGreat
open Go.RowKit Go.Shelf
attribute [local go_sem] Oper.semAt_some
set_option maxHeartbeats 1000000 in
theorem namesOf_in (p : List UInt8) (w : World) :
    CallsIn Fence.wide (3 - 1) Tryz.prog 95 #[.string ⟨p.toArray⟩] w fun e w' => e = .returned (.func (.func 116) #[] #[.pointer (some ⟨w.heap.size, 0, none⟩)]) ∧ w' = w.alloc (.cells #[.string ⟨p.toArray⟩] 9) := by
  refine callsIn_of_wp Tryz.func95 rfl trivial ?_ rfl
  simp only [Tryz.ntmps95, List.size_toArray, List.length_cons, List.length_nil, Nat.reduceAdd, Nat.reduceSub, Array.replicate_succ, Array.replicate_zero, List.push_toArray, List.append_toArray, List.nil_append, List.cons_append]
  gi_wp2
  go_ret
  exact ⟨rfl, rfl⟩
theorem names_stops (B : Nat) (p : List UInt8) (hp : p.length ≤ 1000000) (w : World) (hB : B < w.heap.size) (hc : w.cell? ⟨B, 0, none⟩ = some (.string ⟨p.toArray⟩)) :
    SeqStopsK Fence.wide (3 - 1) Tryz.prog 116 #[.pointer (some ⟨B, 0, none⟩)] txtV (fun _ _ => True) (fun ys => ys.map (·.1) = namesB p) (fun pre => pre.map (·.1) <+: namesB p) (p.length + 1) w := fun l J Jx W hW hJ _ hY h0 =>
  namesOf1_in l B p hp J Jx
    (fun s A q h => hJ s A (A.drewN q) none h ⟨rfl, rfl, rfl, Nat.le_refl _, fun _ _ _ => rfl⟩ (fun r e => by cases e)) hY W ((hW.cell (p := ⟨B, 0, none⟩) hB).trans hc) h0
theorem absB_prefix (l : List UInt8) : Lib.hasPrefix l [47] = absB l := by
  cases l with
  | nil => rfl
  | cons c r => simp [Lib.hasPrefix, absB, List.isPrefixOf, eq_comm, BEq.comm]
theorem absolute_any (p : List UInt8) (w : World) : Calls Tryz.prog 94 #[.string ⟨p.toArray⟩] w fun e w' => e = .returned (.bool (absB p)) ∧ w = w' := by
  go_enter Tryz.func94, Tryz.ntmps94
  go_wp2_with fail; refine (Tryz.strings_HasPrefix ⟨p.toArray⟩ ⟨#[47]⟩ _).mono ?_; rintro e w' ⟨rfl, rfl⟩
  go_wp2
  go_ret
  exact ⟨ret_bool (absB_prefix p), rfl⟩
set_option maxRecDepth 100000 in
set_option maxHeartbeats 2000000 in
theorem Long_any (p : List UInt8) (hp : p.length ≤ 1000000) (w : World) :
    Calls Tryz.prog 102 #[.string ⟨p.toArray⟩] w fun e w' => e = .returned (.bool (longB p)) ∧ Below w.heap.size w w' := by
  refine (callsIn_wide (n := 3)).1 ?_
  (refine callsIn_of_wp_marks Tryz.func102 rfl trivial ?_ rfl; simp only [Tryz.ntmps102, List.size_toArray, List.length_cons, List.length_nil, Nat.reduceAdd, Nat.reduceSub, Array.replicate_succ, Array.replicate_zero, List.push_toArray, List.append_toArray, List.nil_append, List.cons_append])
  by_cases h4 : 4095 < p.length
  · have hl : longB p = true := by simp [longB, h4]
    have hc := (Blk.new w 4 #[.bool true]).cell 0
    simp at hc
    gi_wp2
    refine ⟨.bool true, ?_, by rw [hl], (Below.refl _ w).alloc (Nat.le_refl _) _⟩
    simp [results, Tryz.f102, go_sem, hc]
  · gi_wp2_with fail
    refine ⟨trivial, ?_⟩
    gi_at_call 95
    refine (namesOf_in p _).mono ?_
    rintro e w' ⟨rfl, rfl⟩
    gi_wp2
    have b0 := Blk.new w 4 #[.bool false]
    have b1 := Blk.new (w.alloc (.cells #[.bool false] 4)) 9 #[.string ⟨p.toArray⟩]
    rw [World.size_alloc] at b1
    have hB0 : Below w.heap.size w ((w.alloc (.cells #[.bool false] 4)).alloc (.cells #[.string ⟨p.toArray⟩] 9)) := ((Below.refl _ w).alloc (Nat.le_refl _) _).alloc (by simp) _
    refine wpIn_rangeFunc_ownG rfl (by omega) (gf := 116) (lb := #[.pointer (some ⟨w.heap.size + 1, 0, none⟩)]) rfl trivial (enters_of Tryz.func116 (by kernel_rfl) rfl)
      (names_stops (w.heap.size + 1) p hp _ (by simp) (b1.cell 0)) (fun _ _ => trivial) (fun _ _ _ _ _ _ _ _ => trivial) (Below.refl _ _) (fun _ => rfl)
      (fun pre W => (Blk W w.heap.size 4 #[.bool false] ∧ ∀ x ∈ pre, (x : Txt).1.length ≤ 255) ∧ Below w.heap.size w W)
      (fun c pre W => (c = .ret ∧ Blk W w.heap.size 4 #[.bool true] ∧ ∃ x ∈ pre, 255 < (x : Txt).1.length) ∧ Below w.heap.size w W)
      (OwnFrom.and (Own.from (fun s A B row hs hg hr => ⟨blk_own (β := Unit) _ _ (fun _ => #[.bool false]) () A B row hs.1 hg hr, hs.2⟩) _) (ownFrom_below (Nat.le_refl _) (by simp; omega)))
      (fun c => OwnFrom.and (Own.from (fun s A B row hs hg hr => ⟨hs.1, blk_own (β := Unit) _ _ (fun _ => #[.bool true]) () A B row hs.2.1 hg hr, hs.2.2⟩) _) (ownFrom_below (Nat.le_refl _) (by simp; omega)))
      ⟨⟨b0.alloc _, by simp⟩, hB0⟩
      (fun x => { tmps := #[.string ⟨p.toArray⟩, undef, .pointer (some ⟨w.heap.size, 0, none⟩), .string ⟨x.1.toArray⟩, .string ⟨p.toArray⟩, .int .i64 p.length, .bool (decide (4095 < (p.length : Int))), .string ⟨p.toArray⟩,
        .func (.func 116) #[] #[.pointer (some ⟨w.heap.size + 1, 0, none⟩)], .string ⟨x.1.toArray⟩, undef, undef, undef], defers := [] }) ?assign ?body ?done ?stop
    case assign =>
      intro l x W K hK
      gi_wp2
      exact hK
    case body =>
      rintro l pre x W ⟨⟨hb, hs⟩, hB⟩ _
      have hc := hb.cell 0
      have hf := hb.frozen 0
      simp at hc
      by_cases h : 255 < x.1.length
      · gi_wp2
        exact ⟨(KeepsOthers.setCell _ _ _).from _, ⟨rfl, by simpa using hb.set 0 (.bool true), x, by simp, h⟩, hB.setCell (p := ⟨w.heap.size, 0, none⟩) (Nat.le_refl _) _⟩
      · gi_wp2
        exact ⟨KeepsFrom.refl _ _, trivial, ⟨hb, fun y hy => (List.mem_append.1 hy).elim (hs y) (fun e => by simp at e; subst e; omega)⟩, hB⟩
    case done =>
      rintro D ys W hD hys ⟨⟨hb, hs⟩, hB⟩ hK
      have hc := hb.cell 0
      have hf := hb.frozen 0
      simp at hc
      have hl : longB p = false := by
        simp only [longB, h4, decide_false, Bool.false_or, List.any_eq_false, decide_eq_true_eq]
        intro n hn
        rw [← hys] at hn
        obtain ⟨y, hy, rfl⟩ := List.mem_map.1 hn
        have := hs y hy
        omega
      gi_wp2
      have hK' := (KeepsOthers.setCell W ⟨w.heap.size, 0, none⟩ (.bool false)).same D _ hK rfl
      refine ⟨by simp, .inl ⟨_, _, rfl, run_takeDeferred hK', ?_⟩⟩
      have hc5 := cell_kept (World.cell?_setCell_same' W ⟨w.heap.size, 0, none⟩ (.bool false) (by rw [hc]; rfl)) (grownBy_putObj' _ D (.deferred none)) (fun r e => by cases e; exact ⟨_, hK', rfl⟩)
      refine ⟨.bool false, ?_, by rw [hl], (hB.setCell (p := ⟨w.heap.size, 0, none⟩) (Nat.le_refl _) _).trans (belowK_b (w := w) (Nat.le_refl _) _ D _ _ (by simp at hD; omega) hK' rfl rfl)⟩
      simp [results, Tryz.f102, go_sem, hc5]
    case stop =>
      rintro D c pre W hD hpre ⟨⟨rfl, hb, x, hx, h⟩, hB⟩ hK
      have hc := hb.cell 0
      simp at hc
      have hl : longB p = true := by
        simp only [longB, Bool.or_eq_true, List.any_eq_true, decide_eq_true_eq]
        exact .inr ⟨x.1, hpre.subset (List.mem_map.2 ⟨x, hx, rfl⟩), h⟩
      gi_wp2
      refine ⟨by simp, .inl ⟨_, _, rfl, run_takeDeferred hK, ?_⟩⟩
      have hc5 := cell_kept hc (grownBy_putObj' _ D (.deferred none)) (fun r e => by cases e; exact ⟨_, hK, rfl⟩)
      refine ⟨.bool true, ?_, by rw [hl], hB.trans (belowK_b (w := w) (Nat.le_refl _) W D _ _ (by simp at hD; omega) hK rfl rfl)⟩
      simp [results, Tryz.f102, go_sem, hc5]
end Go.Proofs.YtkdmfeikikmiiaaGreat
