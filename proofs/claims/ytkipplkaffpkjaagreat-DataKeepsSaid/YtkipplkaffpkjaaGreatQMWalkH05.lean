/- Texts put together: WalkC05, WalkD05, WalkA06, LawBase05, WalkG05, WalkH05. -/
import Derived.Test.YtkipplkaffpkjaaGreatQWalkB05
import Derived.Test.YtkipplkaffpkjaaGreatQShelf
import Derived.Deep.RegionWith
import Derived.Maps.AppendAt
import Derived.Deep.Cut
import Derived.Deep.CutRange
import Derived.Test.YtkipplkaffpkjaaGreatQMWalkD04
import Derived.Test.YtkipplkaffpkjaaGreatQMPure09
import Derived.Test.YtkipplkaffpkjaaGreatQMWalkH04
import Derived.BigQuiet
import Derived.Deep.RegionHeld3
import Derived.Test.YtkipplkaffpkjaaGreatRows
import Derived.ProofKit
import Derived.OpenShut
import Derived.ShutString
import Derived.ChangeOld
import Derived.SizedLaws
import Derived.Deep.SlicePairs
import Derived.Lib.SmallJoins
import Derived.StillTailTactics
set_option linter.unusedVariables false
set_option linter.unusedSimpArgs false
/- Walks: strings.Clone at any length, holding. -/
set_option linter.unusedVariables false
set_option linter.unusedSimpArgs false
namespace Go.Proofs.YtkipplkaffpkjaaGreat
open Go.RowKit

theorem CloneN_any (l : List UInt8) (w : World) (hl : l.length ≤ 281474976710656) :
    Calls Tryz.prog 52 #[.string ⟨l.toArray⟩] w fun e w' => e = .returned (.string ⟨l.toArray⟩) ∧ Below w.heap.size w w' := by
  go_enter Tryz.func52, Tryz.ntmps52
  go_wp2_with fail
  refine (Tryz.stringslite_Clone _ _ (by simp [ByteArray.size]; omega)).mono ?_
  rintro e w' ⟨rfl, hB⟩
  go_wp2
  go_ret
  exact ⟨rfl, hB⟩

/-- A table's cells. -/
abbrev fsC (mi mb nx : Int) (v : Value) : Array Value := #[.int .i64 mi, .int .i64 mb, .int .i64 nx, v]

theorem own_base {w : World} {base base' : Nat} {e : TypeId} {size : Nat} {v : Value} {n : Nat} {xs : List Value} (h : w.ownsRow base e size v n xs) (hb : base' ≤ base) : w.ownsRow base' e size v n xs := by
  refine ⟨h.1, ?_⟩
  rcases h.2 with h2 | ⟨g, cap, cur, hv, hg, r⟩
  · exact .inl h2
  · exact .inr ⟨g, cap, cur, hv, Nat.le_trans hb hg, r⟩
/-- An owned row: nil, or a block. -/
theorem own_cases {w : World} {base : Nat} {e : TypeId} {size : Nat} {v : Value} {n : Nat} {xs : List Value} (h : w.ownsRow base e size v n xs) :
    (v = .slice none 0 0 ∧ n = 0 ∧ xs = []) ∨ ∃ g cap, v = .slice (some ⟨g, 0, none⟩) n cap ∧ base ≤ g ∧ g < w.heap.size ∧ n ≤ cap ∧ cap ≤ maxLen := by
  rcases h.2 with ⟨rfl, rfl⟩ | ⟨g, cap, cur, rfl, hg, hh, hnc, hcm, _⟩
  · exact .inl ⟨rfl, rfl, List.eq_nil_of_length_eq_zero (by simpa using h.1)⟩
  · exact .inr ⟨g, cap, rfl, hg, (Array.getElem?_eq_some_iff.1 hh).1, hnc, hcm⟩
/-- A cell of an owned row set to what it holds. -/
theorem own_set_same {w : World} {base : Nat} {e : TypeId} {size g cap n : Nat} {xs : List Value} (h : w.ownsRow base e size (.slice (some ⟨g, 0, none⟩) n cap) n xs) {j : Nat} {u : Value} (hj : xs[j]? = some u) :
    (w.setCell ⟨g, j, none⟩ u).ownsRow base e size (.slice (some ⟨g, 0, none⟩) n cap) n xs ∧ w.grownBy (w.setCell ⟨g, j, none⟩ u) (some g) := by
  have h2 := h.stored j u
  have e1 : xs.set j u = xs := by
    apply List.ext_getElem?
    intro i
    rw [List.getElem?_set]
    split
    · rename_i e; subst e
      split
      · exact hj.symm
      · rename_i hh; rw [List.getElem?_eq_none (by omega)]
    · rfl
  simpa [e1] using h2
theorem own_at {w : World} {base : Nat} {e : TypeId} {g cap : Nat} {L : List Nd} (h : w.ownsRow base e 6 (.slice (some ⟨g, 0, none⟩) L.length cap) L.length (ndsV L)) {k : Nat} (hk : k < L.length) : NdAt w g (k * 6) L[k] := by
  have hat := ndsV_at L k hk
  have c := fun j (hj : j < L.length * 6) => h.cellAt j hj
  exact ⟨(c _ (by omega)).trans hat.1, (c _ (by omega)).trans hat.2.1, (c _ (by omega)).trans hat.2.2.1, (c _ (by omega)).trans hat.2.2.2.1, (c _ (by omega)).trans hat.2.2.2.2.1, (c _ (by omega)).trans hat.2.2.2.2.2⟩
/-- A block of four cells: what a walk asks of it. -/
theorem Blk.four {W : World} {B : Nat} {t : TypeId} {a b c d : Value} (h : Blk W B t #[a, b, c, d]) :
    (W.cell? ⟨B, 0, none⟩ = some a ∧ W.cell? ⟨B, 1, none⟩ = some b ∧ W.cell? ⟨B, 2, none⟩ = some c ∧ W.cell? ⟨B, 3, none⟩ = some d) ∧
      (W.frozen? ⟨B, 0, none⟩ = false ∧ W.frozen? ⟨B, 1, none⟩ = false ∧ W.frozen? ⟨B, 2, none⟩ = false ∧ W.frozen? ⟨B, 3, none⟩ = false) :=
  ⟨⟨(h.cell 0).trans rfl, (h.cell 1).trans rfl, (h.cell 2).trans rfl, (h.cell 3).trans rfl⟩, h.frozen 0, h.frozen 1, h.frozen 2, h.frozen 3⟩
/-- A struct of four cells stored whole. -/
theorem Blk.put4 {W : World} {B : Nat} {t : TypeId} {a b c d : Value} (h : Blk W B t #[a, b, c, d]) (p q r s : Value) :
    ∃ W', (((W.setCell ⟨B, 0, none⟩ p).setCell ⟨B, 1, none⟩ q).setCell ⟨B, 2, none⟩ r).setCell ⟨B, 3, none⟩ s = W' ∧ Blk W' B t #[p, q, r, s] ∧ W.grownBy W' (some B) := by
  refine ⟨_, rfl, ?_, ?_⟩
  · exact (((h.set 0 p).set 1 q).set 2 r).set 3 s
  · exact (((grownBy_set W B 0 p).trans (grownBy_set _ B 1 q)).trans (grownBy_set _ B 2 r)).trans (grownBy_set _ B 3 s)
theorem below_grown {n : Nat} {w0 W W' : World} {B : Nat} (h : Below n w0 W) (hg : W.grownBy W' (some B)) (hn : n ≤ w0.heap.size) (hB : n ≤ B) : Below n w0 W' := h.grown hg (Nat.le_trans hn h.size) (fun k hk => by cases hk; exact hB)
/-- A block of six cells: what a walk asks of it. -/
def Six (W : World) (B : Nat) (x : Nd) : Prop := W.cell? ⟨B, 0, none⟩ = some (.int .i64 x.ino) ∧ W.cell? ⟨B, 1, none⟩ = some (.int .i64 x.kind) ∧ W.cell? ⟨B, 2, none⟩ = some (.int .i64 x.links) ∧
  W.cell? ⟨B, 3, none⟩ = some (.string ⟨x.data.toArray⟩) ∧ W.cell? ⟨B, 4, none⟩ = some (.int .i64 x.parent) ∧ W.cell? ⟨B, 5, none⟩ = some x.ev
theorem Blk.six {W : World} {B : Nat} {t : TypeId} {x : Nd} (h : Blk W B t (ndC x)) :
    Six W B x ∧ (W.frozen? ⟨B, 0, none⟩ = false ∧ W.frozen? ⟨B, 1, none⟩ = false ∧ W.frozen? ⟨B, 2, none⟩ = false ∧ W.frozen? ⟨B, 3, none⟩ = false ∧ W.frozen? ⟨B, 4, none⟩ = false ∧ W.frozen? ⟨B, 5, none⟩ = false) :=
  ⟨⟨(h.cell 0).trans rfl, (h.cell 1).trans rfl, (h.cell 2).trans rfl, (h.cell 3).trans rfl, (h.cell 4).trans rfl, (h.cell 5).trans rfl⟩, h.frozen 0, h.frozen 1, h.frozen 2, h.frozen 3, h.frozen 4, h.frozen 5⟩

theorem PartsN.below {w w' : World} {v : Value} {ps : List (List Nd)} (h : PartsN w v ps) (hb : Below w.heap.size w w') : PartsN w' v ps := by
  obtain ⟨a, cap, rfl, h1⟩ := h
  refine ⟨a, cap, rfl, fun hl => ?_⟩
  obtain ⟨b, off, rfl, hlt, hx⟩ := h1 hl
  refine ⟨b, off, rfl, Nat.lt_of_lt_of_le hlt hb.size, fun i hi => ?_⟩
  obtain ⟨x, hc, hn⟩ := hx i hi
  exact ⟨x, (hb.cell (p := ⟨b, off + i, none⟩) hlt).trans hc, hn.below hb⟩

set_option maxHeartbeats 4000000 in
theorem holding_any (mi mb nx : Int) (fv : Value) (ps : List (List Nd)) (v : Value) (w : World) (hv : PartsN w v ps) (hp : ps.length ≤ 1000000) (hn : ps.flatten.length ≤ 1000000) (hd : ∀ x ∈ ps.flatten, x.data.length ≤ 281474976710656) :
    Calls Tryz.prog 59 #[.agg (fsC mi mb nx fv), v] w fun e w' => ∃ x, e = .returned (.agg (fsC mi mb nx x)) ∧ NewNds w ps.flatten x w' := by
  have hev : ∀ x ∈ ps.flatten, ∃ a n c, x.ev = .slice a n c := by
    obtain ⟨_, _, _, h1⟩ := hv
    intro x hx
    obtain ⟨l, hl, hxl⟩ := List.mem_flatten.1 hx
    obtain ⟨i, hi, rfl⟩ := List.getElem_of_mem hl
    obtain ⟨_, _, _, _, h2⟩ := h1 (by omega)
    obtain ⟨_, _, h3⟩ := h2 i hi
    obtain ⟨a, c, h4, _⟩ := h3.all x hxl
    exact ⟨_, _, _, h4⟩
  have b0 := Blk.new w 24 (fsC mi mb nx fv)
  have b1 := Blk.new (w.alloc (.cells (fsC mi mb nx fv) 24)) 24 (fsC 0 0 0 (.slice none 0 0))
  have b0' := b0.alloc (.cells (fsC 0 0 0 (.slice none 0 0)) 24)
  have hB0 : Below w.heap.size w ((w.alloc (.cells (fsC mi mb nx fv) 24)).alloc (.cells (fsC 0 0 0 (.slice none 0 0)) 24)) := ((Below.refl _ w).alloc (Nat.le_refl _) _).alloc (by simp) _
  have hP := hv.below hB0
  have HC := ConcatN_any ps _ _ hP hp hn
  generalize ps.flatten = L at *
  clear b0 hP
  go_enter Tryz.func59, Tryz.ntmps59
  go_wp2_with fail
  refine HC.mono ?_
  rintro e w1 ⟨x, rfl, hown, hb1⟩
  clear HC
  simp only [World.size_alloc] at b1
  replace b0' := b0'.next hb1
  replace b1 := b1.next hb1
  have hown1 := own_base hown (base' := w.heap.size) (by simp; omega)
  replace hB0 := hB0.trans (hb1.mono hB0.size)
  have hlt1 : w.heap.size + 2 ≤ w1.heap.size := by have := hb1.size; simp at this; omega
  have hgb : ∀ g, x.ownBlock = some g → w.heap.size + 2 ≤ g := fun g hg => by have := (hown.lt g hg).1; simp at this; omega
  clear hown hb1
  have c3 := b0'.cell 3
  have f3 := b0'.frozen 3
  simp [fsC] at c3
  have HL := Lib.hid hd
  have HEV := Lib.hid hev
  clear hd hev
  have b2 := b0'.set 3 x
  rw [show (fsC mi mb nx fv).setIfInBounds 3 x = fsC mi mb nx x from rfl] at b2
  have b3 := b1.other (B2 := w.heap.size) (i := 3) (by omega) x
  have hB3 := hB0.setCell (p := ⟨w.heap.size, 3, none⟩) (Nat.le_refl _) x
  have hown3 := hown1.kept (grownBy_set w1 w.heap.size 3 x) (by
    rcases own_cases hown1 with ⟨rfl, _⟩ | ⟨g, cap, rfl, _⟩
    · exact .inl rfl
    · exact .inr (by have := hgb g rfl; simp [Value.ownBlock]; omega))
  clear b0' b1 hB0
  rcases own_cases hown1 with ⟨rfl, hL0, _⟩ | ⟨g, cap, rfl, hwg, hg1, hLc, hcm⟩
  · clear hown1 hgb
    generalize hw3 : w1.setCell ⟨w.heap.size, 3, none⟩ (.slice none 0 0) = w3 at *
    have H3 := Lib.hid (show _ ∧ _ ∧ _ ∧ _ from ⟨b2, b3, hB3, hown3⟩)
    obtain ⟨⟨p0, p1, p2, p3⟩, _⟩ := b2.four
    obtain ⟨⟨q0, q1, q2, q3⟩, e0, e1, e2, e3⟩ := b3.four
    clear b2 b3 hB3 hown3
    go_wp2
    clear hw3
    go_loopg [13] 0 (fun g s13 wr => s13 = .int .i64 0 ∧ wr = w3)
    case atStart => exact ⟨rfl, rfl⟩
    case round =>
      obtain ⟨rfl, rfl⟩ := hrel
      obtain ⟨b2, b3, hB3, hown3⟩ := H3.out
      obtain ⟨W', hW', hb4, hg4⟩ := b3.put4 (.int .i64 mi) (.int .i64 mb) (.int .i64 nx) (.slice none 0 0)
      have hbl := below_grown hB3 hg4 (Nat.le_refl _) (by omega)
      have hown4 := hown3.kept hg4 (.inl rfl)
      clear b2 b3 hB3 hown3 hg4
      go_wp2
      obtain ⟨⟨r0, r1, r2, r3⟩, _⟩ := hb4.four
      clear hW' hb4 p0 p1 p2 p3 q0 q1 q2 q3 e0 e1 e2 e3
      refine bodyPost_ret (v := .agg (fsC mi mb nx (.slice none 0 0))) (by simp [results, Tryz.f59, go_sem, r0, r1, r2, r3]) rfl ?_
      exact ⟨_, rfl, hown4, hbl⟩
  · have hg2 := hgb g rfl
    clear hown1 hgb
    generalize hw3 : w1.setCell ⟨w.heap.size, 3, none⟩ (.slice (some ⟨g, 0, none⟩) L.length cap) = w3 at *
    have H3 := Lib.hid (show _ ∧ _ ∧ _ ∧ _ from ⟨b2, b3, hB3, hown3⟩)
    obtain ⟨⟨p0, p1, p2, p3⟩, _⟩ := b2.four
    clear b2 b3 hB3 hown3 hg1
    unfold maxLen at hcm
    go_wp2
    clear hw3 p0 p1 p2 p3
    go_loopg [13] L.length (fun G s13 wr => ∃ k : Nat, k + G = L.length ∧ s13 = .int .i64 k ∧ Below w.heap.size w wr ∧ Aside (Blk wr w.heap.size 24 (fsC mi mb nx (.slice (some ⟨g, 0, none⟩) L.length cap))) ∧ Aside (Blk wr (w.heap.size + 1) 24 (fsC 0 0 0 (.slice none 0 0))) ∧ Aside (wr.ownsRow w.heap.size 29 6 (.slice (some ⟨g, 0, none⟩) L.length cap) L.length (ndsV L)))
    case atStart => exact ⟨0, by omega, rfl, H3.out.2.2.1, H3.out.1, H3.out.2.1, H3.out.2.2.2⟩
    case round =>
      obtain ⟨k, hkg, rfl, hbw, HB2, HB3, HO⟩ := hrel
      by_cases hlt : k < L.length
      · obtain ⟨G, rfl⟩ : ∃ G, gk = G + 1 := ⟨gk - 1, by omega⟩
        obtain ⟨c0, c1, c2, c3, c4, c5⟩ := own_at HO.out hlt
        have hat := (ndsV_at L k hlt).2.2.2.1
        have hyd := HL.out _ (List.getElem_mem hlt)
        obtain ⟨ae, ne, ce, hye⟩ := HEV.out _ (List.getElem_mem hlt)
        rw [hye] at c5
        generalize L[k].data = yd at *
        generalize L[k].ino = y0 at *
        generalize L[k].kind = y1 at *
        generalize L[k].links = y2 at *
        generalize L[k].parent = y4 at *
        have HAT := Lib.hid hat
        have x1 := Blk.new wr 29 #[.int .i64 y0, .int .i64 y1, .int .i64 y2, .string ⟨yd.toArray⟩, .int .i64 y4, .slice ae ne ce]
        have hb5 : Below w.heap.size w (wr.alloc (.cells #[.int .i64 y0, .int .i64 y1, .int .i64 y2, .string ⟨yd.toArray⟩, .int .i64 y4, .slice ae ne ce] 29)) := hbw.alloc (Nat.le_trans hbw.size (Nat.le_refl _)) _
        have B2 := HB2.out.alloc (.cells #[.int .i64 y0, .int .i64 y1, .int .i64 y2, .string ⟨yd.toArray⟩, .int .i64 y4, .slice ae ne ce] 29)
        have B3 := HB3.out.alloc (.cells #[.int .i64 y0, .int .i64 y1, .int .i64 y2, .string ⟨yd.toArray⟩, .int .i64 y4, .slice ae ne ce] 29)
        have O5 := HO.out.alloc (.cells #[.int .i64 y0, .int .i64 y1, .int .i64 y2, .string ⟨yd.toArray⟩, .int .i64 y4, .slice ae ne ce] 29)
        have p3 := B2.four.1.2.2.2
        have k3 := (x1.cell 3).trans (rfl : _ = some (Value.string ⟨yd.toArray⟩))
        clear HB2 HB3 HO hbw hat hye
        have k0 : (0 : Int) ≤ (k : Int) := by omega
        have k1 : (k : Int) < (L.length : Int) := by omega
        have hk6 : k * 6 + 3 < L.length * 6 := by omega
        generalize hwa : wr.alloc (.cells #[.int .i64 y0, .int .i64 y1, .int .i64 y2, .string ⟨yd.toArray⟩, .int .i64 y4, .slice ae ne ce] 29) = wa at *
        have O6 : wa.drew.ownsRow w.heap.size 29 6 (.slice (some ⟨g, 0, none⟩) L.length cap) L.length (ndsV L) := O5
        have B4 : Blk wa.drew w.heap.size 24 (fsC mi mb nx (.slice (some ⟨g, 0, none⟩) L.length cap)) := B2
        have B5 : Blk wa.drew (w.heap.size + 1) 24 (fsC 0 0 0 (.slice none 0 0)) := B3
        have hb6 : Below w.heap.size w wa.drew := hb5.drew
        clear O5 B2 B3 hb5 x1
        go_upto_region 5 with fail
        go_region_with (go_at_call 52; refine (CloneN_any yd _ hyd).mono ?_; rintro e w5 ⟨rfl, b5⟩; have O7 := own_keep O6 b5; have q3 := (O7.cellAt (k * 6 + 3) hk6).trans HAT.out; have qf := O7.frozenAt (k * 6 + 3); have p5 := (B4.next b5).four.1.2.2.2)
        all_goals (go_wp2; go_roundg G)
        all_goals first | omega | exact ⟨k + 1, by omega, by go_num, (hb6.trans (b5.mono hb6.size)).setCell hwg _, (B4.next b5).other (B2 := g) (i := k * 6 + 3) (by omega) _, (B5.next b5).other (B2 := g) (i := k * 6 + 3) (by omega) _, (own_set_same O7 HAT.out).1⟩
      · obtain rfl : k = L.length := by omega
        obtain ⟨⟨p0, p1, p2, p3⟩, _⟩ := HB2.out.four
        obtain ⟨⟨q0, q1, q2, q3⟩, e0, e1, e2, e3⟩ := HB3.out.four
        obtain ⟨W', hW', hb4, hg4⟩ := HB3.out.put4 (.int .i64 mi) (.int .i64 mb) (.int .i64 nx) (.slice (some ⟨g, 0, none⟩) L.length cap)
        have hbl := below_grown hbw hg4 (Nat.le_refl _) (by omega)
        have hown4 := HO.out.kept hg4 (.inr (by simp [Value.ownBlock]; omega))
        clear HB2 HB3 HO hbw hg4
        go_wp2
        obtain ⟨⟨r0, r1, r2, r3⟩, _⟩ := hb4.four
        clear hW' hb4 p0 p1 p2 p3 q0 q1 q2 q3 e0 e1 e2 e3
        refine bodyPost_ret (v := .agg (fsC mi mb nx (.slice (some ⟨g, 0, none⟩) L.length cap))) (by simp [results, Tryz.f59, go_sem, r0, r1, r2, r3]) rfl ?_
        exact ⟨_, rfl, hown4, hbl⟩
end Go.Proofs.YtkipplkaffpkjaaGreat

/- Walks: New, Get. -/
set_option linter.unusedVariables false
set_option linter.unusedSimpArgs false
namespace Go.Proofs.YtkipplkaffpkjaaGreat
open Go.RowKit

/-- A struct of six cells stored whole. -/
theorem new_nds {w w' : World} {L : List Nd} {v : Value} (h : NewNds w L v w') (he : EntsAll w' L) : Nds w' v L := own_nds h.1 he
theorem nds_slice {w : World} {v : Value} {l : List Nd} (h : Nds w v l) : ∃ a c, v = .slice a l.length c := by obtain ⟨a, c, h, _⟩ := h; exact ⟨a, c, h⟩
theorem alloc_below (w : World) (o : Obj) : Below w.heap.size w (w.alloc o) := (Below.refl _ w).alloc (Nat.le_refl _) _
theorem Blk.put6 {W : World} {B : Nat} {t : TypeId} {x : Nd} (h : Blk W B t (ndC x)) (y : Nd) :
    ∃ W', (((((W.setCell ⟨B, 0, none⟩ (.int .i64 y.ino)).setCell ⟨B, 1, none⟩ (.int .i64 y.kind)).setCell ⟨B, 2, none⟩ (.int .i64 y.links)).setCell ⟨B, 3, none⟩ (.string ⟨y.data.toArray⟩)).setCell ⟨B, 4, none⟩ (.int .i64 y.parent)).setCell ⟨B, 5, none⟩ y.ev = W' ∧
      Blk W' B t (ndC y) ∧ W.grownBy W' (some B) := by
  refine ⟨_, rfl, ?_, ?_⟩
  · exact (((((h.set 0 _).set 1 _).set 2 _).set 3 _).set 4 _).set 5 _
  · exact (((((grownBy_set W B 0 _).trans (grownBy_set _ B 1 _)).trans (grownBy_set _ B 2 _)).trans (grownBy_set _ B 3 _)).trans (grownBy_set _ B 4 _)).trans (grownBy_set _ B 5 _)

def rootN : Nd := ⟨1, 2, 0, [], 1, .slice none 0 0, []⟩
theorem root_all (w : World) : EntsAll w [rootN] := fun x hx => by rw [List.mem_singleton.1 hx]; exact Ents.nil_ w
theorem root_nds (w : World) (t : TypeId) (g : Nat) (hg : g = w.heap.size) : Nds (w.alloc (.cells #[.int .i64 1, .int .i64 2, .int .i64 0, .string ⟨#[]⟩, .int .i64 1, .slice none 0 0] t)) (.slice (some ⟨g, 0, none⟩) 1 1) [rootN] := by
  subst hg
  exact blk_nds (L := [rootN]) (Blk.new w t _) (by simp [maxLen]) (root_all _) 1 rfl

set_option maxHeartbeats 2000000 in
theorem GetN_any (mi mb nx n : Int) (l : List Nd) (v : Value) (w : World) (hv : Nds w v l) (hs : riseP l) (hl : l.length ≤ 1000000) (hd : ∀ x ∈ l, x.data.length ≤ 281474976710656) :
    Calls Tryz.prog 30 #[.agg (fsC mi mb nx v), .int .i64 n] w fun e w' => e = .returned (.tuple #[.agg (ndC (getN l n)), .bool (hasN l n)]) ∧ Below w.heap.size w w' := by
  obtain ⟨a, ca, rfl, hc, hm, hea, hna, HA0⟩ := id hv
  unfold maxLen at hm
  clear HA0
  have b0 := Blk.new w 24 (fsC mi mb nx (.slice a l.length ca))
  have b1 := Blk.new (w.alloc (.cells (fsC mi mb nx (.slice a l.length ca)) 24)) 29 (ndC zeroN)
  have b0' := b0.alloc (.cells (ndC zeroN) 29)
  have hB0 : Below w.heap.size w ((w.alloc (.cells (fsC mi mb nx (.slice a l.length ca)) 24)).alloc (.cells (ndC zeroN) 29)) := ((Below.refl _ w).alloc (Nat.le_refl _) _).alloc (by simp) _
  have hv2 := hv.below hB0
  clear b0
  go_enter Tryz.func30, Tryz.ntmps30
  go_wp2_with fail
  refine (searchN_any l n _ _ hv2 hs hl).mono ?_
  rintro e w1 ⟨lo, rfl, hS, hb⟩
  simp only [World.size_alloc] at b1
  have hv3 := hv2.below hb
  replace b0' := b0'.next hb
  replace b1 := b1.next hb
  have hB1 := hB0.trans (hb.mono hB0.size)
  have hlt1 : w.heap.size + 2 ≤ w1.heap.size := by have := hb.size; simp at this; omega
  clear hB0 hv2 hb hv
  obtain ⟨⟨p0, p1, p2, p3⟩, _⟩ := b0'.four
  cases hh : hasN l n
  · have HG := Lib.hid (getN_none hh)
    obtain ⟨⟨q0, q1, q2, q3, q4, q5⟩, e0, e1, e2, e3, e4, e5⟩ := b1.six
    obtain ⟨W', hW', hb4, hg4⟩ := b1.put6 zeroN
    have hbl := below_grown hB1 hg4 (Nat.le_refl _) (by omega)
    simp only [zeroN] at q0 q1 q2 q3 q4 q5 hW'
    go_wp2
    obtain ⟨⟨r0, r1, r2, r3, r4, r5⟩, _⟩ := hb4.six
    refine bodyPost_ret (v := .tuple #[.agg (ndC zeroN), .bool false]) (by simp [results, Tryz.f30, go_sem, r0, r1, r2, r3, r4, r5, zeroN]) rfl ?_
    exact ⟨by rw [HG.out, hh], hbl⟩
  · obtain ⟨hk, hg⟩ := getN_srch hS hh
    have HG := Lib.hid hg
    clear hg hS
    obtain ⟨_, _, hu, _, _, hea3, _, HA0⟩ := id hv3
    simp only [Value.slice.injEq] at hu
    obtain ⟨rfl, _, rfl⟩ := hu
    obtain ⟨b, o, rfl, hbl, hcl⟩ := HA0 (by omega)
    obtain ⟨c0, c1, c2, c3, c4, c5⟩ := hcl _ hk
    obtain ⟨ae, ne, hye, _⟩ := hea3 _ (List.getElem_mem hk)
    have hyd := hd _ (List.getElem_mem hk)
    clear hcl HA0 hea3
    generalize hy : l[lo] = y at *
    obtain ⟨yi, yk, yl, yd, yp, ye, yn⟩ := y
    dsimp only at hye c0 c1 c2 c3 c4 c5 hyd
    subst hye
    have x8 := Blk.new w1 29 (ndC ⟨yi, yk, yl, yd, yp, .slice ae yn.length ne, yn⟩)
    have b1a := b1.alloc (.cells (ndC ⟨yi, yk, yl, yd, yp, .slice ae yn.length ne, yn⟩) 29)
    have hB2 := hB1.alloc hB1.size (.cells (ndC ⟨yi, yk, yl, yd, yp, .slice ae yn.length ne, yn⟩) 29)
    go_wp2_with fail
    refine (CloneN_any yd _ hyd).mono ?_
    rintro e w2 ⟨rfl, b2⟩
    have x9 := x8.next b2
    have b1b := b1a.next b2
    have hB3 := hB2.trans (b2.mono hB2.size)
    have k3 := x9.cell 3
    have f3 := x9.frozen 3
    replace k3 := k3.trans (rfl : _ = some (Value.string ⟨yd.toArray⟩))
    have x10 := x9.set 3 (.string ⟨yd.toArray⟩)
    rw [show (ndC ⟨yi, yk, yl, yd, yp, .slice ae yn.length ne, yn⟩).setIfInBounds 3 (.string ⟨yd.toArray⟩) = ndC ⟨yi, yk, yl, yd, yp, .slice ae yn.length ne, yn⟩ from rfl] at x10
    have b1c := b1b.other (B2 := w1.heap.size) (i := 3) (by omega) (.string ⟨yd.toArray⟩)
    have hB4 := hB3.setCell (p := ⟨w1.heap.size, 3, none⟩) hB1.size (.string ⟨yd.toArray⟩)
    generalize hw3 : w2.setCell ⟨w1.heap.size, 3, none⟩ (.string ⟨yd.toArray⟩) = w3 at *
    obtain ⟨⟨q0, q1, q2, q3, q4, q5⟩, e0, e1, e2, e3, e4, e5⟩ := b1c.six
    obtain ⟨⟨s0, s1, s2, s3, s4, s5⟩, _⟩ := x10.six
    obtain ⟨W', hW', hb4, hg4⟩ := b1c.put6 ⟨yi, yk, yl, yd, yp, .slice ae yn.length ne, yn⟩
    have hbl := below_grown hB4 hg4 (Nat.le_refl _) (by omega)
    simp only [zeroN] at q0 q1 q2 q3 q4 q5
    dsimp only at hW' s0 s1 s2 s3 s4 s5
    clear x8 b1a x9 b1b b1c x10 c0 c1 c2 c3 c4 c5 p3
    go_wp2
    obtain ⟨⟨r0, r1, r2, r3, r4, r5⟩, _⟩ := hb4.six
    refine bodyPost_ret (v := .tuple #[.agg (ndC ⟨yi, yk, yl, yd, yp, .slice ae yn.length ne, yn⟩), .bool true]) (by simp [results, Tryz.f30, go_sem, r0, r1, r2, r3, r4, r5]) rfl ?_
    exact ⟨by rw [HG.out, hh], hbl⟩
end Go.Proofs.YtkipplkaffpkjaaGreat

/- Walks: package room, and the document's room. -/
set_option linter.unusedVariables false
set_option linter.unusedSimpArgs false
namespace Go.Proofs.YtkipplkaffpkjaaGreat
open Go.RowKit

theorem Inodes_any (mi mb nx : Int) (l : List Nd) (v : Value) (w : World) (hv : Nds w v l) :
    Calls Tryz.prog 57 #[.agg (fsC mi mb nx v)] w fun e w' => e = .returned (.int .i64 (l.length : Int)) ∧ Below w.heap.size w w' := by
  obtain ⟨a, ca, rfl⟩ := nds_slice hv
  have b0 := Blk.new w 24 (fsC mi mb nx (.slice a l.length ca))
  have hB0 := alloc_below w (.cells (fsC mi mb nx (.slice a l.length ca)) 24)
  have p3 := b0.four.1.2.2.2
  go_enter Tryz.func57, Tryz.ntmps57
  go_wp2
  go_ret
  exact ⟨rfl, hB0⟩

theorem bytesOf_any (x : Nd) (w : World) (hx : Ents w x.ev x.ents) :
    Calls Tryz.prog 81 #[.agg (ndC x)] w fun e w' => e = .returned (.int .i64 (costN x : Int)) ∧ Below w.heap.size w w' := by
  obtain ⟨xi, xk, xl, xd, xp, xe, xn⟩ := x
  obtain ⟨a, c, hye, _⟩ := hx
  dsimp only at hye
  subst hye
  have b0 := Blk.new w 29 (ndC ⟨xi, xk, xl, xd, xp, .slice a xn.length c, xn⟩)
  have hB0 := alloc_below w (.cells (ndC ⟨xi, xk, xl, xd, xp, .slice a xn.length c, xn⟩) 29)
  obtain ⟨⟨s0, s1, s2, s3, s4, s5⟩, _⟩ := b0.six
  dsimp only at s0 s1 s2 s3 s4 s5
  cases h : (xk != 1)
  · have HC := Lib.hid (costN_yes (x := ⟨xi, xk, xl, xd, xp, .slice a xn.length c, xn⟩) (by simpa using h))
    go_enter Tryz.func81, Tryz.ntmps81
    go_wp2
    go_ret
    exact ⟨by rw [HC.out]; rfl, hB0⟩
  · have HC := Lib.hid (costN_no (x := ⟨xi, xk, xl, xd, xp, .slice a xn.length c, xn⟩) (by simpa using h))
    go_enter Tryz.func81, Tryz.ntmps81
    go_wp2
    go_ret
    exact ⟨by rw [HC.out]; rfl, hB0⟩

set_option maxHeartbeats 2000000 in
theorem Bytes_any (mi mb nx : Int) (l : List Nd) (v : Value) (w : World) (hv : Nds w v l) (hl : l.length ≤ 1000000) (hs : bytesN l ≤ 1099511627776) :
    Calls Tryz.prog 58 #[.agg (fsC mi mb nx v)] w fun e w' => e = .returned (.int .i64 (bytesN l : Int)) ∧ Below w.heap.size w w' := by
  obtain ⟨a, ca, rfl, hc, hm, hea, hna, HA0⟩ := id hv
  unfold maxLen at hm
  have HA := Lib.hid HA0
  have HE := Lib.hid hea
  clear HA0 hea hv
  have b0 := Blk.new w 24 (fsC mi mb nx (.slice a l.length ca))
  have hB0 := alloc_below w (.cells (fsC mi mb nx (.slice a l.length ca)) 24)
  have p3 := b0.four.1.2.2.2
  go_enter Tryz.func58, Tryz.ntmps58
  go_wp2
  clear p3
  go_loopw [3, 8] (fun s3 s8 wr => ∃ k : Nat, k ≤ l.length ∧ s8 = .int .i64 k ∧ s3 = .int .i64 (bytesN (l.take k) : Int) ∧ Below w.heap.size w wr ∧ Aside (Blk wr w.heap.size 24 (fsC mi mb nx (.slice a l.length ca)))) (fun _ s8 _ => l.length - (intOf s8).toNat)
  case atStart => exact ⟨0, Nat.zero_le _, rfl, rfl, hB0, b0⟩
  case round =>
    clear b0 hB0
    obtain ⟨k, hk, rfl, rfl, hbw, HB⟩ := hrel
    have p3 := HB.out.four.1.2.2.2
    by_cases hlt : k < l.length
    · obtain ⟨b, o, rfl, hb, hcl⟩ := HA.out (by omega)
      obtain ⟨c0, c1, c2, c3, c4, c5⟩ := (hcl k hlt).below hbw hb
      clear hcl
      have hE := (HE.out.below hbw) _ (List.getElem_mem hlt)
      have hnx := bytesN_next hlt
      have hle := bytesN_take l (k + 1)
      generalize l[k] = y at *
      generalize hT : bytesN (l.take (k + 1)) = T at *
      have HT := Lib.hid hT
      generalize bytesN (l.take k) = U at *
      have k0 : (0 : Int) ≤ (k : Int) := by omega
      have k1 : (k : Int) < (l.length : Int) := by omega
      have hCall := bytesOf_any y wr hE
      obtain ⟨yi, yk, yl, yd, yp, ye, yn⟩ := y
      dsimp only at hE c0 c1 c2 c3 c4 c5 hCall
      obtain ⟨ae, ne, rfl, _⟩ := hE
      generalize costN ⟨yi, yk, yl, yd, yp, .slice ae yn.length ne, yn⟩ = z at *
      clear hT
      go_wp2_with fail
      refine hCall.mono ?_
      rintro e w2 ⟨rfl, b2⟩
      have hb3 := hbw.trans (b2.mono hbw.size)
      have HB2 := HB.out.next b2
      clear hCall
      go_wp2
      go_roundw
      case rel => exact ⟨k + 1, by omega, by go_num, by rw [HT.out, hnx]; go_num, hb3, HB2⟩
      case measure => simp [intOf]; omega
    · obtain rfl : k = l.length := by omega
      have HN := Lib.hid (bytesN_end l)
      go_wp2
      go_ret
      exact ⟨by rw [HN.out]; rfl, hbw⟩

set_option maxHeartbeats 2000000 in
theorem refBytes_any (mi mb nx : Int) (l : List Nd) (v : Value) (w : World) (hv : Nds w v l) (hl : l.length ≤ 1000000) (hs : bytesN l ≤ 1099511627776) :
    Calls Tryz.prog 60 #[.agg (fsC mi mb nx v)] w fun e w' => e = .returned (.int .i64 (bytesN l : Int)) ∧ Below w.heap.size w w' := by
  obtain ⟨a, ca, rfl, hc, hm, hea, hna, HA0⟩ := id hv
  unfold maxLen at hm
  have HA := Lib.hid HA0
  have HE := Lib.hid hea
  clear HA0 hea hv
  have b0 := Blk.new w 24 (fsC mi mb nx (.slice a l.length ca))
  have hB0 := alloc_below w (.cells (fsC mi mb nx (.slice a l.length ca)) 24)
  go_enter Tryz.func60, Tryz.ntmps60
  go_wp2
  go_loopw [3, 4] (fun s3 s4 wr => ∃ k : Nat, k ≤ l.length ∧ s4 = .int .i64 k ∧ s3 = .int .i64 (bytesN (l.take k) : Int) ∧ wr = w.alloc (.cells (fsC mi mb nx (.slice a l.length ca)) 24)) (fun _ s4 _ => l.length - (intOf s4).toNat)
  case atStart => exact ⟨0, Nat.zero_le _, rfl, rfl, rfl⟩
  case round =>
    obtain ⟨k, hk, rfl, rfl, rfl⟩ := hrel
    have p3 := b0.four.1.2.2.2
    generalize w.alloc (.cells (fsC mi mb nx (.slice a l.length ca)) 24) = wr at *
    by_cases hlt : k < l.length
    · obtain ⟨b, o, rfl, hb, hcl⟩ := HA.out (by omega)
      obtain ⟨c0, c1, c2, c3, c4, c5⟩ := (hcl k hlt).below hB0 hb
      clear hcl
      have hnx := bytesN_next hlt
      have hle := bytesN_take l (k + 1)
      generalize l[k] = y at *
      generalize hT : bytesN (l.take (k + 1)) = T at *
      have HT := Lib.hid hT
      generalize bytesN (l.take k) = U at *
      have k0 : (0 : Int) ≤ (k : Int) := by omega
      have k1 : (k : Int) < (l.length : Int) := by omega
      obtain ⟨yi, yk, yl, yd, yp, ye, yn⟩ := y
      dsimp only at c0 c1 c2 c3 c4 c5
      clear hT
      cases h : (yk == 1)
      · have HC := Lib.hid (costN_no (x := ⟨yi, yk, yl, yd, yp, ye, yn⟩) (by simpa using h))
        rw [HC.out] at hnx
        go_wp2
        go_roundw
        case rel => exact ⟨k + 1, by omega, by go_num, by rw [HT.out, hnx]; go_num, trivial⟩
        case measure => simp [intOf]; omega
      · have HC := Lib.hid (costN_yes (x := ⟨yi, yk, yl, yd, yp, ye, yn⟩) (by simpa using h))
        rw [HC.out] at hnx
        dsimp only at hnx
        go_wp2
        go_roundw
        case rel => exact ⟨k + 1, by omega, by go_num, by rw [HT.out, hnx]; go_num, trivial⟩
        case measure => simp [intOf]; omega
    · obtain rfl : k = l.length := by omega
      have HN := Lib.hid (bytesN_end l)
      go_wp2
      go_ret
      exact ⟨by rw [HN.out]; rfl, hB0⟩

set_option maxHeartbeats 2000000 in
theorem Fits_any (mi mb nx i b : Int) (l : List Nd) (v : Value) (w : World) (hv : Nds w v l) (hl : l.length ≤ 1000000) (hs : bytesN l ≤ 1099511627776) (hi : -1099511627776 ≤ i ∧ i ≤ 1099511627776) (hb : -1099511627776 ≤ b ∧ b ≤ 1099511627776) :
    Calls Tryz.prog 35 #[.agg (fsC mi mb nx v), .int .i64 i, .int .i64 b] w fun e w' => e = .returned (.bool (fitsB mi mb l i b)) ∧ Below w.heap.size w w' := by
  obtain ⟨a, ca, rfl⟩ := nds_slice hv
  have b0 := Blk.new w 24 (fsC mi mb nx (.slice a l.length ca))
  have hB0 := alloc_below w (.cells (fsC mi mb nx (.slice a l.length ca)) 24)
  have nV := hv.below hB0
  clear hv
  generalize hw1 : w.alloc (.cells (fsC mi mb nx (.slice a l.length ca)) 24) = w1 at *
  have HW := Lib.hid hw1
  clear hw1
  have HMK : ∀ W, Below w1.heap.size w1 W → (W.cell? ⟨w.heap.size, 0, none⟩ = some (.int .i64 mi) ∧ W.cell? ⟨w.heap.size, 1, none⟩ = some (.int .i64 mb) ∧ W.cell? ⟨w.heap.size, 2, none⟩ = some (.int .i64 nx) ∧ W.cell? ⟨w.heap.size, 3, none⟩ = some (.slice a l.length ca)) := by
    intro W h
    exact (b0.next h).four.1
  clear b0
  have hq := (Below.refl w1.heap.size w1).drew
  have n1 : IntKind.i64.wrap ((l.length : Int) + i) = (l.length : Int) + i := by rw [IntKind.wrap_i64]; omega
  have n2 : IntKind.i64.wrap ((bytesN l : Int) + b) = (bytesN l : Int) + b := by rw [IntKind.wrap_i64]; omega
  go_enter Tryz.func35, Tryz.ntmps35
  cases h1 : decide ((l.length : Int) + i ≤ mi)
  · have HF : Hid (fitsB mi mb l i b = false) := by (show _ = _); unfold fitsB; rw [h1, Bool.false_and]
    go_upto_region 1 with fail
    rw [HW.out]
    (refine wp_region_held_drew (S := (fun W => W.cell? ⟨w.heap.size, 0, none⟩ = some (.int .i64 mi) ∧ W.cell? ⟨w.heap.size, 1, none⟩ = some (.int .i64 mb) ∧ W.cell? ⟨w.heap.size, 2, none⟩ = some (.int .i64 nx) ∧ W.cell? ⟨w.heap.size, 3, none⟩ = some (.slice a l.length ca))) (by kernel_rfl) (HMK _ hq) (fun hHeld => ?_))
    (refine heldTake 0 (some 7) (v := ?_) rfl rfl (by kernel_rfl) (by kernel_rfl) (by kernel_rfl) (fun _ _ _ h => h) (by rfl) ?_ (by assumption) ?_; rotate_left; (focus (intro w hSw; (try dsimp only at hSw); go_simp; try with_reducible rfl)); (try simp only [Act.put, List.setIfInBounds_toArray, List.set_cons_zero, List.set_cons_succ]))
    (refine heldTake 2 (some 9) (v := ?_) rfl rfl (by kernel_rfl) (by kernel_rfl) (by kernel_rfl) (fun _ _ _ h => h) (by rfl) ?_ (by assumption) ?_; rotate_left; (focus (intro w hSw; (try dsimp only at hSw); go_simp; try with_reducible rfl)); (try simp only [Act.put, List.setIfInBounds_toArray, List.set_cons_zero, List.set_cons_succ]))
    (refine heldTake 4 (some 11) (v := ?_) rfl rfl (by kernel_rfl) (by kernel_rfl) (by kernel_rfl) (fun _ _ _ h => h) (by rfl) ?_ (by assumption) ?_; rotate_left; (focus (intro w hSw; (try dsimp only at hSw); go_simp; try with_reducible rfl)); (try simp only [Act.put, List.setIfInBounds_toArray, List.set_cons_zero, List.set_cons_succ]))
    (refine heldTake 5 (some 12) (v := ?_) rfl rfl (by kernel_rfl) (by kernel_rfl) (by kernel_rfl) (fun _ _ _ h => h) (by rfl) ?_ (by assumption) ?_; rotate_left; (focus (intro w hSw; (try dsimp only at hSw); go_simp; try with_reducible rfl)); (try simp only [Act.put, List.setIfInBounds_toArray, List.set_cons_zero, List.set_cons_succ]))
    (refine wpAnyH_ready (rs := [1]) (by kernel_rfl) (by simp) ?_; refine AllReadyH.cons rfl (fun K hK => ?_) AllReadyH.nil; go_simp; go_at_call 57; refine (Inodes_any mi mb nx l _ _ (nV.below hq)).mono ?_; rintro e wz ⟨rfl, bz⟩; have hq := hq.trans (bz.mono hq.size); (try dsimp only); refine hK.out _ _ (HMK _ hq) (fun hHeld => ?_); clear hK K; (try simp only [Act.put, List.setIfInBounds_toArray, List.set_cons_zero, List.set_cons_succ]))
    (refine heldTake 3 (some 10) (v := ?_) rfl rfl (by kernel_rfl) (by kernel_rfl) (by kernel_rfl) (fun _ _ _ h => h) (by rfl) ?_ (by assumption) ?_; rotate_left; (focus (intro w hSw; (try dsimp only at hSw); go_simp; try with_reducible rfl)); (try simp only [Act.put, List.setIfInBounds_toArray, List.set_cons_zero, List.set_cons_succ]))
    (refine heldTake 6 (some 13) (v := ?_) rfl rfl (by kernel_rfl) (by kernel_rfl) (by kernel_rfl) (fun _ _ _ h => h) (by rfl) ?_ (by assumption) ?_; rotate_left; (focus (intro w hSw; (try dsimp only at hSw); go_simp; try with_reducible rfl)); (try simp only [Act.put, List.setIfInBounds_toArray, List.set_cons_zero, List.set_cons_succ]))
    (refine heldTake 7 (some 14) (v := ?_) rfl rfl (by kernel_rfl) (by kernel_rfl) (by kernel_rfl) (fun _ _ _ h => h) (by rfl) ?_ (by assumption) ?_; rotate_left; (focus (intro w hSw; (try dsimp only at hSw); go_simp; try with_reducible rfl)); (try simp only [Act.put, List.setIfInBounds_toArray, List.set_cons_zero, List.set_cons_succ]))
    (refine heldSkip 8 (some 15) rfl rfl (by kernel_rfl) (by kernel_rfl) (by kernel_rfl) (fun _ _ _ h => h) (by rfl) (by assumption) ?_; (try simp only [Act.put, List.setIfInBounds_toArray, List.set_cons_zero, List.set_cons_succ]))
    (refine heldSkip 9 (some 16) rfl rfl (by kernel_rfl) (by kernel_rfl) (by kernel_rfl) (fun _ _ _ h => h) (by rfl) (by assumption) ?_; (try simp only [Act.put, List.setIfInBounds_toArray, List.set_cons_zero, List.set_cons_succ]))
    (refine heldSkip 10 (some 17) rfl rfl (by kernel_rfl) (by kernel_rfl) (by kernel_rfl) (fun _ _ _ h => h) (by rfl) (by assumption) ?_; (try simp only [Act.put, List.setIfInBounds_toArray, List.set_cons_zero, List.set_cons_succ]))
    (refine heldSkip 11 (some 18) rfl rfl (by kernel_rfl) (by kernel_rfl) (by kernel_rfl) (fun _ _ _ h => h) (by rfl) (by assumption) ?_; (try simp only [Act.put, List.setIfInBounds_toArray, List.set_cons_zero, List.set_cons_succ]))
    (refine heldSkip 12 (some 19) rfl rfl (by kernel_rfl) (by kernel_rfl) (by kernel_rfl) (fun _ _ _ h => h) (by rfl) (by assumption) ?_; (try simp only [Act.put, List.setIfInBounds_toArray, List.set_cons_zero, List.set_cons_succ]))
    (refine heldSkip 13 (some 20) rfl rfl (by kernel_rfl) (by kernel_rfl) (by kernel_rfl) (fun _ _ _ h => h) (by rfl) (by assumption) ?_; (try simp only [Act.put, List.setIfInBounds_toArray, List.set_cons_zero, List.set_cons_succ]))
    (refine heldSkip 14 (some 21) rfl rfl (by kernel_rfl) (by kernel_rfl) (by kernel_rfl) (fun _ _ _ h => h) (by rfl) (by assumption) ?_; (try simp only [Act.put, List.setIfInBounds_toArray, List.set_cons_zero, List.set_cons_succ]))
    (refine heldTake 15 (some 22) (v := ?_) rfl rfl (by kernel_rfl) (by kernel_rfl) (by kernel_rfl) (fun _ _ _ h => h) (by rfl) ?_ (by assumption) ?_; rotate_left; (focus (intro w hSw; (try dsimp only at hSw); go_simp; try with_reducible rfl)); (try simp only [Act.put, List.setIfInBounds_toArray, List.set_cons_zero, List.set_cons_succ]))
    (refine heldTake 16 (some 6) (v := ?_) rfl rfl (by kernel_rfl) (by kernel_rfl) (by kernel_rfl) (fun _ _ _ h => h) (by rfl) ?_ (by assumption) ?_; rotate_left; (focus (intro w hSw; (try dsimp only at hSw); go_simp; try with_reducible rfl)); (try simp only [Act.put, List.setIfInBounds_toArray, List.set_cons_zero, List.set_cons_succ]))
    refine wpAnyH_done (by kernel_rfl) ?_ _
    all_goals go_wp2
    all_goals go_ret
    all_goals exact ⟨ret_bool (by rw [HF.out]), hB0.trans (hq.mono hB0.size)⟩
  · have HF : Hid (fitsB mi mb l i b = decide ((bytesN l : Int) + b ≤ mb)) := by (show _ = _); unfold fitsB; rw [h1, Bool.true_and]
    go_upto_region 1 with fail
    rw [HW.out]
    go_region_held3 (fun W => W.cell? ⟨w.heap.size, 0, none⟩ = some (.int .i64 mi) ∧ W.cell? ⟨w.heap.size, 1, none⟩ = some (.int .i64 mb) ∧ W.cell? ⟨w.heap.size, 2, none⟩ = some (.int .i64 nx) ∧ W.cell? ⟨w.heap.size, 3, none⟩ = some (.slice a l.length ca))
      (exact HMK _ hq)
      (first
        | (go_at_call 57; refine (Inodes_any mi mb nx l _ _ (nV.below hq)).mono ?_; rintro e wz ⟨rfl, bz⟩; have hq := hq.trans (bz.mono hq.size))
        | (go_at_call 58; refine (Bytes_any mi mb nx l _ _ (nV.below hq) hl hs).mono ?_; rintro e wz ⟨rfl, bz⟩; have hq := hq.trans (bz.mono hq.size)))
    all_goals go_wp2
    all_goals go_ret
    all_goals exact ⟨ret_bool (by rw [HF.out]), hB0.trans (hq.mono hB0.size)⟩

set_option maxHeartbeats 2000000 in
theorem refFits_any (mi mb nx i b : Int) (l : List Nd) (v : Value) (w : World) (hv : Nds w v l) (hl : l.length ≤ 1000000) (hs : bytesN l ≤ 1099511627776) (hi : -1099511627776 ≤ i ∧ i ≤ 1099511627776) (hb : -1099511627776 ≤ b ∧ b ≤ 1099511627776) :
    Calls Tryz.prog 37 #[.agg (fsC mi mb nx v), .int .i64 i, .int .i64 b] w fun e w' => e = .returned (.bool (fitsB mi mb l i b)) ∧ Below w.heap.size w w' := by
  obtain ⟨a, ca, rfl⟩ := nds_slice hv
  have b0 := Blk.new w 24 (fsC mi mb nx (.slice a l.length ca))
  have hB0 := alloc_below w (.cells (fsC mi mb nx (.slice a l.length ca)) 24)
  have nV := hv.below hB0
  clear hv
  obtain ⟨p0, p1, p2, p3⟩ := b0.four.1
  have n1 : IntKind.i64.wrap ((l.length : Int) + i) = (l.length : Int) + i := by rw [IntKind.wrap_i64]; omega
  have n2 : IntKind.i64.wrap ((bytesN l : Int) + b) = (bytesN l : Int) + b := by rw [IntKind.wrap_i64]; omega
  go_enter Tryz.func37, Tryz.ntmps37
  by_cases h1 : (l.length : Int) + i ≤ mi
  · have HF : Hid (fitsB mi mb l i b = decide ((bytesN l : Int) + b ≤ mb)) := by (show _ = _); unfold fitsB; rw [decide_eq_true h1, Bool.true_and]
    have h2 : ¬ ((l.length : Int) + i > mi) := by omega
    go_upto_region 3 with fail
    generalize hw1 : w.alloc (.cells (fsC mi mb nx (.slice a l.length ca)) 24) = w1 at *
    have HMK : ∀ W, Below w1.heap.size w1 W → (W.cell? ⟨w.heap.size, 0, none⟩ = some (.int .i64 mi) ∧ W.cell? ⟨w.heap.size, 1, none⟩ = some (.int .i64 mb) ∧ W.cell? ⟨w.heap.size, 2, none⟩ = some (.int .i64 nx) ∧ W.cell? ⟨w.heap.size, 3, none⟩ = some (.slice a l.length ca)) := by
      intro W h
      exact (b0.next h).four.1
    have hq := (Below.refl w1.heap.size w1).drew
    clear b0 p0 p1 p2 p3 hw1
    go_region_held3 (fun W => W.cell? ⟨w.heap.size, 0, none⟩ = some (.int .i64 mi) ∧ W.cell? ⟨w.heap.size, 1, none⟩ = some (.int .i64 mb) ∧ W.cell? ⟨w.heap.size, 2, none⟩ = some (.int .i64 nx) ∧ W.cell? ⟨w.heap.size, 3, none⟩ = some (.slice a l.length ca))
      (exact HMK _ hq)
      (first
        | (go_at_call 60; refine (refBytes_any mi mb nx l _ _ (nV.below hq) hl hs).mono ?_; rintro e wz ⟨rfl, bz⟩; have hq := hq.trans (bz.mono hq.size)))
    all_goals go_wp2
    all_goals go_ret
    all_goals exact ⟨ret_bool (by rw [HF.out]), hB0.trans (hq.mono hB0.size)⟩
  · have HF : Hid (fitsB mi mb l i b = false) := by (show _ = _); unfold fitsB; rw [decide_eq_false h1, Bool.false_and]
    have h2 : (l.length : Int) + i > mi := by omega
    go_wp2
    go_ret
    exact ⟨ret_bool (by rw [HF.out]), hB0⟩

def withinB (n : Int) : Bool := decide (-1099511627776 ≤ n) && decide (n ≤ 1099511627776)
end Go.Proofs.YtkipplkaffpkjaaGreat

/- What every statement's proof over this translation shares. -/
set_option linter.unusedVariables false
set_option linter.unusedSimpArgs false
namespace Go.Proofs.YtkipplkaffpkjaaGreat
open Go.ChangeShapes Go.WideShapes Go.ChangeAt Go.RowKit

set_option maxRecDepth 100000
theorem laidOut : laidOutB Tryz.prog = true := by kernel_rfl

def textOf5 : Value → List UInt8
  | .string s => s.data.toList
  | _ => []
def numOf5 : Value → Int
  | .int _ n => n
  | _ => 0

/-- A slice of entries, as its cell reads. -/
theorem ents_of_cell {H : Type} {enc : TypeId × Value → H} {W : World} {fuel : Nat} {cs : List Value} {y : DataW H × List MemPlace}
    (hf : DataW.trod enc Tryz.prog W 0 (fun _ => true) true fuel 27 cs = some y) : ∃ v l, cs = [v] ∧ Ents W v l := by
  rcases Deep.open_slice_pairs Tryz.underlying27 Tryz.underlying74 (by kernel_rfl) rfl rfl (by kernel_rfl) (by kernel_rfl) hf with ⟨hcs, _⟩ | ⟨a, len, cap, m, n, V0, V1, D0, D1, P0, P1, hcs, _, hl, hm, hz, hx, hcell⟩
  · exact ⟨_, [], hcs, Ents.nil_ W⟩
  · simp at hz
    subst hz
    refine ⟨_, (List.range len).map fun i => (textOf5 (V0 i), numOf5 (V1 i)), hcs, some a, m, by simp, by simpa using hl, hm, fun h => ?_⟩
    have hn : ((List.range len).map fun i => (textOf5 (V0 i), numOf5 (V1 i))).length = len := by simp
    rw [hn] at h
    have c0 := (hcell 0 (by omega)).1
    obtain ⟨b, off, spot⟩ := a
    have hspot : spot = none := by simpa [Addr.add] using World.cell?_spot c0
    subst hspot
    refine ⟨b, off, rfl, ?_, fun i hi => ?_⟩
    · rw [Addr.add_lit] at c0; exact World.block_lt_of_cell? W _ c0
    · rw [hn] at hi
      obtain ⟨e0, e1, t0, t1⟩ := hcell i (by omega)
      obtain ⟨s, hs, _, _⟩ := DataW.trod_string Tryz.underlying9 t0
      obtain ⟨z, hz, _, _⟩ := DataW.trod_int Tryz.underlying3 t1
      simp only [List.cons.injEq, and_true] at hs hz
      rw [Addr.add_lit] at e0 e1
      rw [hs] at e0
      rw [hz] at e1
      simp only [List.getElem_map, List.getElem_range, hs, hz, textOf5, numOf5]
      exact ⟨by rw [e0], by rw [← e1, Nat.add_assoc]⟩

theorem list6 {α : Type} {cs : List α} (h : cs.length = 6) : ∃ c0 c1 c2 c3 c4 c5, cs = [c0, c1, c2, c3, c4, c5] := by
  match cs, h with
  | [c0, c1, c2, c3, c4, c5], _ => exact ⟨c0, c1, c2, c3, c4, c5, rfl⟩
theorem size_int : Tryz.prog.cellsOf 3 = 1 := by kernel_rfl
theorem size_str : Tryz.prog.cellsOf 9 = 1 := by kernel_rfl
theorem size_ents : Tryz.prog.cellsOf 27 = 1 := by kernel_rfl
theorem size_nds : Tryz.prog.cellsOf 22 = 1 := by kernel_rfl
theorem size_nd : Tryz.prog.cellsOf 29 = 6 := by kernel_rfl
theorem size_fs : Tryz.prog.cellsOf 24 = 4 := by kernel_rfl

/-- An inode, as its six cells read; its content's length is one of the reading's weights. -/
theorem nd_of_cells {H : Type} {enc : TypeId × Value → H} {W : World} {fuel : Nat} {cs : List Value} {y : DataW H × List MemPlace}
    (hf : DataW.trod enc Tryz.prog W 0 (fun _ => true) true fuel 29 cs = some y) : ∃ x : Nd, cs = (ndC x).toList ∧ Ents W x.ev x.ents ∧ x.data.length ≤ maxLen ∧ x.data.length ∈ y.1.weights Tryz.prog 29 := by
  obtain ⟨xs, n, _, rfl, hl, hlen, hx⟩ := DataW.trod_struct Tryz.underlying29 hf
  obtain ⟨c0, c1, c2, c3, c4, c5, rfl⟩ := list6 (hl.trans size_nd)
  obtain ⟨y0, y1, y2, y3, y4, y5, rfl⟩ := list6 hlen
  have g0 := hx 0 _ rfl
  have g1 := hx 1 _ rfl
  have g2 := hx 2 _ rfl
  have g3 := hx 3 _ rfl
  have g4 := hx 4 _ rfl
  have g5 := hx 5 _ rfl
  simp [size_int, size_str, size_ents] at g0 g1 g2 g3 g4 g5
  obtain ⟨z0, e0, _, _⟩ := DataW.trod_int Tryz.underlying3 g0
  obtain ⟨z1, e1, _, _⟩ := DataW.trod_int Tryz.underlying3 g1
  obtain ⟨z2, e2, _, _⟩ := DataW.trod_int Tryz.underlying3 g2
  obtain ⟨s, e3, w3, m3⟩ := DataW.trod_string Tryz.underlying9 g3
  obtain ⟨z4, e4, _, _⟩ := DataW.trod_int Tryz.underlying3 g4
  obtain ⟨v, l, e5, h5⟩ := ents_of_cell g5
  simp only [List.cons.injEq, and_true] at e0 e1 e2 e3 e4 e5
  subst e0 e1 e2 e3 e4 e5
  refine ⟨⟨z0, z1, z2, s.data.toList, z4, c5, l⟩, by simp [ndC], h5, by simpa using m3, ?_⟩
  have hw := DataW.weights_mem_each (P := Tryz.prog) (ts := [3, 3, 3, 9, 3, 27]) (ds := [y0.1, y1.1, y2.1, y3.1, y4.1, y5.1]) (j := 3) rfl rfl s.data.toList.length (by rw [w3]; simp [DataW.weights])
  simp only [DataW.weights, Tryz.underlying29]
  exact hw
theorem weightsAll_mem {H : Type} {P : Program} {e : TypeId} {l : List (DataW H)} {d : DataW H} (h : d ∈ l) {n : Nat} (hn : n ∈ d.weights P e) : n ∈ DataW.weightsAll P e l := by
  induction l with
  | nil => cases h
  | cons x r ih =>
    simp only [DataW.weightsAll, List.mem_append]
    rcases List.mem_cons.1 h with rfl | h
    · exact .inl hn
    · exact .inr (ih h)

instance : Inhabited Nd := ⟨zeroN⟩
/-- A slice of inodes, as its cell reads. -/
theorem nds_of_cell {H : Type} {enc : TypeId × Value → H} {W : World} {fuel : Nat} {cs : List Value} {y : DataW H × List MemPlace}
    (hf : DataW.trod enc Tryz.prog W 0 (fun _ => true) true fuel 22 cs = some y) : ∃ v l, cs = [v] ∧ Nds W v l ∧ (∀ x ∈ l, x.data.length ≤ maxLen ∧ x.data.length ∈ y.1.weights Tryz.prog 22) := by
  rcases Deep.open_slice Tryz.underlying22 hf with ⟨hcs, _⟩ | ⟨a, len, cap, m, n, D, Pl, hcs, _, hl, hm, hmm, rfl, hcell⟩
  · exact ⟨_, [], hcs, Nds.nil_ W, fun x hx => absurd hx (by simp)⟩
  · simp at hmm
    subst hmm
    rw [size_nd] at hcell
    obtain ⟨X, hX⟩ := Deep.choose_lt (p := fun i (x : Nd) => (∀ j, j < 6 → W.cell? ((a.add (i * 6)).add j) = (ndC x).toList[j]?) ∧ Ents W x.ev x.ents ∧ x.data.length ≤ maxLen ∧ x.data.length ∈ (D i).weights Tryz.prog 29) (fun i (hi : i < m) => by
      obtain ⟨cs', h1, h2⟩ := hcell i hi
      obtain ⟨_, _, h3⟩ := World.cells?_some h1
      obtain ⟨x, rfl, hx⟩ := nd_of_cells h2
      exact ⟨x, h3, hx⟩)
    have hn : ((List.range len).map X).length = len := by simp
    refine ⟨_, (List.range len).map X, hcs, ⟨some a, m, by simp, by simpa using hl, hm, ?_, (fun h => by cases h), fun h => ?_⟩, ?_⟩
    · intro x hx
      obtain ⟨i, hi, rfl⟩ := List.mem_map.1 hx
      exact (hX i (by have := List.mem_range.1 hi; omega)).2.1
    · rw [hn] at h
      have c0 := (hX 0 (by omega)).1 0 (by omega)
      obtain ⟨b, off, spot⟩ := a
      have hspot : spot = none := by
        have := World.cell?_spot (c0.trans (rfl : _ = some (Value.int .i64 (X 0).ino)))
        simpa [Addr.add] using this
      subst hspot
      refine ⟨b, off, rfl, ?_, fun i hi => ?_⟩
      · have := World.block_lt_of_cell? W _ (c0.trans (rfl : _ = some (Value.int .i64 (X 0).ino)))
        simpa [Addr.add] using this
      · rw [hn] at hi
        have hc := (hX i (by omega)).1
        simp only [Addr.add_lit] at hc
        simp only [List.getElem_map, List.getElem_range]
        exact ⟨(hc 0 (by omega)).trans rfl, (hc 1 (by omega)).trans rfl, (hc 2 (by omega)).trans rfl, (hc 3 (by omega)).trans rfl, (hc 4 (by omega)).trans rfl, (hc 5 (by omega)).trans rfl⟩
    · intro x hx
      obtain ⟨i, hi, rfl⟩ := List.mem_map.1 hx
      have hi2 := List.mem_range.1 hi
      have h3 := (hX i (by omega)).2.2
      refine ⟨h3.1, ?_⟩
      simp only [DataW.weights, Tryz.underlying22, List.mem_cons, List.mem_append]
      exact .inr (.inl (weightsAll_mem (List.mem_map.2 ⟨i, hi, rfl⟩) h3.2))

theorem nds_of_trod {H : Type} {enc : TypeId × Value → H} {W : World} {v : Value} {d : DataW H} {p : List MemPlace}
    (k : DataW.Trod enc Tryz.prog W 0 (fun _ => true) true 22 v d p) (ok : ∃ base, Value.okWide Tryz.prog W .any base 22 v) : ∃ l, Nds W v l ∧ ∀ x ∈ l, x.data.length ≤ maxLen ∧ x.data.length ∈ d.weights Tryz.prog 22 := by
  obtain ⟨base, ok⟩ := ok
  obtain ⟨a0, len, cap, rfl⟩ := okWide_slice Tryz.underlying22 ok
  obtain ⟨fuel, hf⟩ := k
  obtain ⟨v, l, e, h1, h2⟩ := nds_of_cell hf
  simp [Value.cells] at e
  subst e
  exact ⟨l, h1, h2⟩
/-- An inode that came in. -/
theorem nd_of_trod {H : Type} {enc : TypeId × Value → H} {W : World} {v : Value} {d : DataW H} {p : List MemPlace}
    (k : DataW.Trod enc Tryz.prog W 0 (fun _ => true) true 29 v d p) (ok : ∃ base, Value.okWide Tryz.prog W .any base 29 v) : ∃ x : Nd, v = .agg (ndC x) ∧ Ents W x.ev x.ents ∧ x.data.length ≤ maxLen ∧ x.data.length ∈ d.weights Tryz.prog 29 := by
  obtain ⟨base, ok⟩ := ok
  obtain ⟨cs, rfl, hsz⟩ := okWide_struct Tryz.underlying29 ok
  obtain ⟨fuel, hf⟩ := k
  obtain ⟨x, e, h1, h2⟩ := nd_of_cells hf
  refine ⟨x, ?_, h1, h2⟩
  have : cs.toList = (ndC x).toList := by simpa [Value.cells] using e
  rw [show cs = ndC x from Array.ext' this]
/-- A table that came in. -/
theorem fs_of_trod {H : Type} {enc : TypeId × Value → H} {W : World} {base : Nat} {v : Value} {d : DataW H} {p : List MemPlace}
    (k : DataW.Trod enc Tryz.prog W 0 (fun _ => true) true 24 v d p) (ok : Value.okWide Tryz.prog W .any base 24 v) : ∃ mi mb nx x l, v = .agg (fsC mi mb nx x) ∧ Nds W x l := by
  obtain ⟨v0, v1, v2, v3, y0, y1, y2, y3, n, rfl, rfl, rfl, h0, h1, h2, h3⟩ := Joins.open_agg4 Tryz.underlying24 (by kernel_rfl) (by kernel_rfl) ok k
  obtain ⟨z0, e0, _, _⟩ := DataW.trod_int Tryz.underlying3 h0
  obtain ⟨z1, e1, _, _⟩ := DataW.trod_int Tryz.underlying3 h1
  obtain ⟨z2, e2, _, _⟩ := DataW.trod_int Tryz.underlying3 h2
  obtain ⟨v, l, e3, h, _⟩ := nds_of_cell h3
  simp only [List.cons.injEq, and_true] at e0 e1 e2 e3
  subst e0 e1 e2 e3
  exact ⟨_, _, _, _, l, rfl, h⟩
end Go.Proofs.YtkipplkaffpkjaaGreat

/- Walks: are inodes, lists of inodes, tables alike: the document's and the program's. -/
set_option linter.unusedVariables false
set_option linter.unusedSimpArgs false
namespace Go.Proofs.YtkipplkaffpkjaaGreat
open Go.RowKit

set_option maxHeartbeats 2000000 in
theorem refOne_any (x y : Nd) (w : World) (hx : Ents w x.ev x.ents) (hy : Ents w y.ev y.ents) :
    Calls Tryz.prog 16 #[.agg (ndC x), .agg (ndC y)] w fun e w' => e = .returned (.bool (oneB x y)) ∧ Below w.heap.size w w' := by
  have hB : Below w.heap.size w ((w.alloc (.cells (ndC x) 29)).alloc (.cells (ndC y) 29)) := ((Below.refl _ w).alloc (Nat.le_refl _) _).alloc (by simp) _
  have hx2 := hx.below hB
  have hy2 := hy.below hB
  clear hx hy
  obtain ⟨xi, xk, xl, xd, xp, xe, xn⟩ := x
  obtain ⟨yi, yk, yl, yd, yp, ye, yn⟩ := y
  dsimp only at hx2 hy2
  obtain ⟨a, ca, rfl, _⟩ := id hx2
  obtain ⟨b, cb, rfl, _⟩ := id hy2
  cases h1 : (xi == yi) with | false => (have HN := Lib.hid (oneB_no1 (a := ⟨xi, xk, xl, xd, xp, .slice a xn.length ca, xn⟩) (b := ⟨yi, yk, yl, yd, yp, .slice b yn.length cb, yn⟩) h1); go_enter Tryz.func16, Tryz.ntmps16; go_wp2; go_ret; exact ⟨ret_bool (by rw [HN.out]), hB⟩) | true => (cases h2 : (xk == yk) with | false => (have HN := Lib.hid (oneB_no2 (a := ⟨xi, xk, xl, xd, xp, .slice a xn.length ca, xn⟩) (b := ⟨yi, yk, yl, yd, yp, .slice b yn.length cb, yn⟩) h2); go_enter Tryz.func16, Tryz.ntmps16; go_wp2; go_ret; exact ⟨ret_bool (by rw [HN.out]), hB⟩) | true => (cases h3 : (xl == yl) with | false => (have HN := Lib.hid (oneB_no3 (a := ⟨xi, xk, xl, xd, xp, .slice a xn.length ca, xn⟩) (b := ⟨yi, yk, yl, yd, yp, .slice b yn.length cb, yn⟩) h3); go_enter Tryz.func16, Tryz.ntmps16; go_wp2; go_ret; exact ⟨ret_bool (by rw [HN.out]), hB⟩) | true => (cases h4 : (xd == yd) with | false => (have HN := Lib.hid (oneB_no4 (a := ⟨xi, xk, xl, xd, xp, .slice a xn.length ca, xn⟩) (b := ⟨yi, yk, yl, yd, yp, .slice b yn.length cb, yn⟩) h4); go_enter Tryz.func16, Tryz.ntmps16; go_wp2; go_ret; exact ⟨ret_bool (by rw [HN.out]), hB⟩) | true => (cases h5 : (xp == yp) with | false => (have HN := Lib.hid (oneB_no5 (a := ⟨xi, xk, xl, xd, xp, .slice a xn.length ca, xn⟩) (b := ⟨yi, yk, yl, yd, yp, .slice b yn.length cb, yn⟩) h5); go_enter Tryz.func16, Tryz.ntmps16; go_wp2; go_ret; exact ⟨ret_bool (by rw [HN.out]), hB⟩) | true => (have HN := Lib.hid (oneB_ents (a := ⟨xi, xk, xl, xd, xp, .slice a xn.length ca, xn⟩) (b := ⟨yi, yk, yl, yd, yp, .slice b yn.length cb, yn⟩) h1 h2 h3 h4 h5); go_enter Tryz.func16, Tryz.ntmps16; go_wp2_with fail; refine (refSame_any xn yn _ _ _ hx2 hy2).mono ?_; rintro e w2 ⟨rfl, b2⟩; go_wp2; go_ret; exact ⟨ret_bool (by rw [HN.out]), hB.trans (b2.mono hB.size)⟩)))))

end Go.Proofs.YtkipplkaffpkjaaGreat

/- Walks: are lists of inodes, tables alike. -/
set_option linter.unusedVariables false
set_option linter.unusedSimpArgs false
namespace Go.Proofs.YtkipplkaffpkjaaGreat
open Go.RowKit

set_option maxHeartbeats 2000000 in
set_option maxRecDepth 100000 in
theorem refOnes_any (la lb : List Nd) (va vb : Value) (w : World) (ha : Nds w va la) (hb : Nds w vb lb) :
    Calls Tryz.prog 34 #[va, vb] w fun e w' => e = .returned (.bool (onesB la lb)) ∧ Below w.heap.size w w' := by
  obtain ⟨a, ca, rfl, hca, hma, hea, _, HA⟩ := ha
  obtain ⟨b, cb, rfl, hcb, hmb, heb, _, HB⟩ := hb
  unfold maxLen at hma hmb
  by_cases hl : la.length = lb.length
  · have HA' := Lib.hid HA
    have HB' := Lib.hid HB
    have HEA := Lib.hid hea
    have HEB := Lib.hid heb
    clear HA HB hea heb
    have hne : ((la.length : Int) != (lb.length : Int)) = false := by simp; omega
    have HL := Lib.hid hl
    have hl2 : la.length ≤ lb.length := by omega
    clear hl
    go_enter Tryz.func34, Tryz.ntmps34
    go_wp2
    go_loopw [5] (fun i wr => ∃ k : Nat, k ≤ la.length ∧ i = .int .i64 k ∧ Aside ((la.take k).map Nd.key = (lb.take k).map Nd.key) ∧ Below w.heap.size w wr) (fun i _ => la.length - (intOf i).toNat)
    case atStart => exact ⟨0, Nat.zero_le _, rfl, rfl, Below.refl _ _⟩
    case round =>
      obtain ⟨k, hk, rfl, HT, hbw⟩ := hrel
      by_cases hlt : k < la.length
      · have hltb : k < lb.length := by omega
        obtain ⟨ba, oa, rfl, hba, hxa⟩ := HA'.out (by omega)
        obtain ⟨bb, ob, rfl, hbb, hxb⟩ := HB'.out (by omega)
        obtain ⟨c0, c1, c2, c3, c4, c5⟩ := (hxa k hlt).below hbw hba
        obtain ⟨d0, d1, d2, d3, d4, d5⟩ := (hxb k hltb).below hbw hbb
        clear hxa hxb
        have k0 : (0 : Int) ≤ (k : Int) := by omega
        have k1 : (k : Int) < (la.length : Int) := by omega
        have k2 : (k : Int) < (lb.length : Int) := by omega
        go_upto_region 6 with fail
        go_still_tail 8, (by kernel_rfl)
        change wpList _ _ _ _ _ wr.drew
        generalize hwd : wr.drew = w2
        have hB2 : Below w.heap.size w w2 := by rw [← hwd]; exact hbw.drew
        have hea := HEA.out.below hB2
        have heb := HEB.out.below hB2
        clear hwd c0 c1 c2 c3 c4 c5 d0 d1 d2 d3 d4 d5
        go_wp2_with fail
        refine (refOne_any la[k] lb[k] _ (hea _ (List.getElem_mem hlt)) (heb _ (List.getElem_mem hltb))).mono ?_
        rintro e w3 ⟨rfl, b3⟩
        have hB3 := hB2.trans (b3.mono hB2.size)
        clear hea heb hB2 b3
        cases ho : oneB la[k] lb[k]
        · have HN := Lib.hid (onesB_no hlt hltb ho)
          go_wp2
          go_ret
          exact ⟨ret_bool (by rw [HN.out]), hB3⟩
        · have HT2 := Lib.hid (onesB_next hlt hltb HT.out ho)
          go_wp2
          go_roundw
          case rel => exact ⟨k + 1, by omega, by go_num, HT2.out, hB3⟩
          case measure => simp [intOf]; omega
      · obtain rfl : k = la.length := by omega
        have HN := Lib.hid (onesB_end HL.out HT.out)
        clear HT
        go_wp2
        go_ret
        exact ⟨ret_bool (by rw [HN.out]), hbw⟩
  · have hne : ((la.length : Int) != (lb.length : Int)) = true := by rw [bne_iff_ne]; omega
    have HN := Lib.hid (onesB_len hl)
    clear HA HB hea heb
    go_enter Tryz.func34, Tryz.ntmps34
    go_wp2
    go_ret
    exact ⟨ret_bool (by rw [HN.out]), Below.refl _ _⟩

/-- Are two tables alike? -/
def tabB (ma ba na : Int) (la : List Nd) (mb bb nb : Int) (lb : List Nd) : Bool := (ma == mb) && (ba == bb) && (na == nb) && onesB la lb
theorem tabB_refl (m b n : Int) (l : List Nd) : tabB m b n l m b n l = true := by simp [tabB, onesB_refl]

theorem refTab_any (ma ba na mb bb nb : Int) (la lb : List Nd) (va vb : Value) (w : World) (ha : Nds w va la) (hb : Nds w vb lb) :
    Calls Tryz.prog 19 #[.agg (fsC ma ba na va), .agg (fsC mb bb nb vb)] w fun e w' => e = .returned (.bool (tabB ma ba na la mb bb nb lb)) ∧ Below w.heap.size w w' := by
  obtain ⟨a, ca, rfl, _⟩ := id ha
  obtain ⟨b, cb, rfl, _⟩ := id hb
  have hB : Below w.heap.size w ((w.alloc (.cells (fsC ma ba na (.slice a la.length ca)) 24)).alloc (.cells (fsC mb bb nb (.slice b lb.length cb)) 24)) := ((Below.refl _ w).alloc (Nat.le_refl _) _).alloc (by simp) _
  have ha2 := ha.below hB
  have hb2 := hb.below hB
  clear ha hb
  cases h1 : (ma == mb) with | false => (have HN : Hid (tabB ma ba na la mb bb nb lb = false) := (by (show _ = _); simp only [tabB, h1, Bool.false_and]); go_enter Tryz.func19, Tryz.ntmps19; go_wp2; go_ret; exact ⟨ret_bool (by rw [HN.out]), hB⟩) | true => (cases h2 : (ba == bb) with | false => (have HN : Hid (tabB ma ba na la mb bb nb lb = false) := (by (show _ = _); simp only [tabB, h2, Bool.false_and, Bool.and_false]); go_enter Tryz.func19, Tryz.ntmps19; go_wp2; go_ret; exact ⟨ret_bool (by rw [HN.out]), hB⟩) | true => (cases h3 : (na == nb) with | false => (have HN : Hid (tabB ma ba na la mb bb nb lb = false) := (by (show _ = _); simp only [tabB, h3, Bool.false_and, Bool.and_false]); go_enter Tryz.func19, Tryz.ntmps19; go_wp2; go_ret; exact ⟨ret_bool (by rw [HN.out]), hB⟩) | true => (have HN : Hid (tabB ma ba na la mb bb nb lb = onesB la lb) := (by (show _ = _); simp only [tabB, h1, h2, h3, Bool.true_and]); go_enter Tryz.func19, Tryz.ntmps19; go_wp2_with fail; refine (refOnes_any la lb _ _ _ ha2 hb2).mono ?_; rintro e w2 ⟨rfl, b2⟩; go_wp2; go_ret; exact ⟨ret_bool (by rw [HN.out]), hB.trans (b2.mono hB.size)⟩)))
end Go.Proofs.YtkipplkaffpkjaaGreat
