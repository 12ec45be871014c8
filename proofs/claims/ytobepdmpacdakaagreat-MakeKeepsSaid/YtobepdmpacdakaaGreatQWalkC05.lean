/- Walks: strings.Clone at any length, holding. -/
import Derived.Test.YtobepdmpacdakaaGreatQ
import Derived.Deep.RegionWith
import Derived.Maps.AppendAt
import Derived.Deep.Cut
import Derived.Deep.CutRange
set_option linter.unusedVariables false
set_option linter.unusedSimpArgs false
namespace Go.Proofs.YtobepdmpacdakaaGreat
open Go.RowKit

theorem CloneN_any (l : List UInt8) (w : World) (hl : l.length ≤ 281474976710656) :
    Calls Tryz.prog 57 #[.string ⟨l.toArray⟩] w fun e w' => e = .returned (.string ⟨l.toArray⟩) ∧ Below w.heap.size w w' := by
  go_enter Tryz.func57, Tryz.ntmps57
  go_wp2_with fail
  refine (Tryz.stringslite_Clone _ _ (by simp [ByteArray.size]; omega)).mono ?_
  rintro e w' ⟨rfl, hB⟩
  go_wp2
  go_ret
  exact ⟨rfl, hB⟩

/-- A table's cells. -/
abbrev fsC (mi mb nx : Int) (v : Value) : Array Value := #[.int .i64 mi, .int .i64 mb, .int .i64 nx, v]

theorem own_base {w : World} {base base' : Nat} {e : TypeId} {size : Nat} {v : Value} {n : Nat} {xs : List Value} (h : w.ownsRow base e size v n xs) (hb : base' ≤ base) : w.ownsRow base' e size v n xs := by
  refine ⟨h.1, ?_⟩
  rcases h.2 with h2 | ⟨g, cap, cur, hv, hg, r⟩
  · exact .inl h2
  · exact .inr ⟨g, cap, cur, hv, Nat.le_trans hb hg, r⟩
/-- An owned row: nil, or a block. -/
theorem own_cases {w : World} {base : Nat} {e : TypeId} {size : Nat} {v : Value} {n : Nat} {xs : List Value} (h : w.ownsRow base e size v n xs) :
    (v = .slice none 0 0 ∧ n = 0 ∧ xs = []) ∨ ∃ g cap, v = .slice (some ⟨g, 0, none⟩) n cap ∧ base ≤ g ∧ g < w.heap.size ∧ n ≤ cap ∧ cap ≤ maxLen := by
  rcases h.2 with ⟨rfl, rfl⟩ | ⟨g, cap, cur, rfl, hg, hh, hnc, hcm, _⟩
  · exact .inl ⟨rfl, rfl, List.eq_nil_of_length_eq_zero (by simpa using h.1)⟩
  · exact .inr ⟨g, cap, rfl, hg, (Array.getElem?_eq_some_iff.1 hh).1, hnc, hcm⟩
/-- A cell of an owned row set to what it holds. -/
theorem own_set_same {w : World} {base : Nat} {e : TypeId} {size g cap n : Nat} {xs : List Value} (h : w.ownsRow base e size (.slice (some ⟨g, 0, none⟩) n cap) n xs) {j : Nat} {u : Value} (hj : xs[j]? = some u) :
    (w.setCell ⟨g, j, none⟩ u).ownsRow base e size (.slice (some ⟨g, 0, none⟩) n cap) n xs ∧ w.grownBy (w.setCell ⟨g, j, none⟩ u) (some g) := by
  have h2 := h.stored j u
  have e1 : xs.set j u = xs := by
    apply List.ext_getElem?
    intro i
    rw [List.getElem?_set]
    split
    · rename_i e; subst e
      split
      · exact hj.symm
      · rename_i hh; rw [List.getElem?_eq_none (by omega)]
    · rfl
  simpa [e1] using h2
theorem own_at {w : World} {base : Nat} {e : TypeId} {g cap : Nat} {L : List Nd} (h : w.ownsRow base e 6 (.slice (some ⟨g, 0, none⟩) L.length cap) L.length (ndsV L)) {k : Nat} (hk : k < L.length) : NdAt w g (k * 6) L[k] := by
  have hat := ndsV_at L k hk
  have c := fun j (hj : j < L.length * 6) => h.cellAt j hj
  exact ⟨(c _ (by omega)).trans hat.1, (c _ (by omega)).trans hat.2.1, (c _ (by omega)).trans hat.2.2.1, (c _ (by omega)).trans hat.2.2.2.1, (c _ (by omega)).trans hat.2.2.2.2.1, (c _ (by omega)).trans hat.2.2.2.2.2⟩
/-- A block of four cells: what a walk asks of it. -/
theorem Blk.four {W : World} {B : Nat} {t : TypeId} {a b c d : Value} (h : Blk W B t #[a, b, c, d]) :
    (W.cell? ⟨B, 0, none⟩ = some a ∧ W.cell? ⟨B, 1, none⟩ = some b ∧ W.cell? ⟨B, 2, none⟩ = some c ∧ W.cell? ⟨B, 3, none⟩ = some d) ∧
      (W.frozen? ⟨B, 0, none⟩ = false ∧ W.frozen? ⟨B, 1, none⟩ = false ∧ W.frozen? ⟨B, 2, none⟩ = false ∧ W.frozen? ⟨B, 3, none⟩ = false) :=
  ⟨⟨(h.cell 0).trans rfl, (h.cell 1).trans rfl, (h.cell 2).trans rfl, (h.cell 3).trans rfl⟩, h.frozen 0, h.frozen 1, h.frozen 2, h.frozen 3⟩
/-- A struct of four cells stored whole. -/
theorem Blk.put4 {W : World} {B : Nat} {t : TypeId} {a b c d : Value} (h : Blk W B t #[a, b, c, d]) (p q r s : Value) :
    ∃ W', (((W.setCell ⟨B, 0, none⟩ p).setCell ⟨B, 1, none⟩ q).setCell ⟨B, 2, none⟩ r).setCell ⟨B, 3, none⟩ s = W' ∧ Blk W' B t #[p, q, r, s] ∧ W.grownBy W' (some B) := by
  refine ⟨_, rfl, ?_, ?_⟩
  · exact (((h.set 0 p).set 1 q).set 2 r).set 3 s
  · exact (((grownBy_set W B 0 p).trans (grownBy_set _ B 1 q)).trans (grownBy_set _ B 2 r)).trans (grownBy_set _ B 3 s)
theorem below_grown {n : Nat} {w0 W W' : World} {B : Nat} (h : Below n w0 W) (hg : W.grownBy W' (some B)) (hn : n ≤ w0.heap.size) (hB : n ≤ B) : Below n w0 W' := h.grown hg (Nat.le_trans hn h.size) (fun k hk => by cases hk; exact hB)
/-- A block of six cells: what a walk asks of it. -/
def Six (W : World) (B : Nat) (x : Nd) : Prop := W.cell? ⟨B, 0, none⟩ = some (.int .i64 x.ino) ∧ W.cell? ⟨B, 1, none⟩ = some (.int .i64 x.kind) ∧ W.cell? ⟨B, 2, none⟩ = some (.int .i64 x.links) ∧
  W.cell? ⟨B, 3, none⟩ = some (.string ⟨x.data.toArray⟩) ∧ W.cell? ⟨B, 4, none⟩ = some (.int .i64 x.parent) ∧ W.cell? ⟨B, 5, none⟩ = some x.ev
theorem Blk.six {W : World} {B : Nat} {t : TypeId} {x : Nd} (h : Blk W B t (ndC x)) :
    Six W B x ∧ (W.frozen? ⟨B, 0, none⟩ = false ∧ W.frozen? ⟨B, 1, none⟩ = false ∧ W.frozen? ⟨B, 2, none⟩ = false ∧ W.frozen? ⟨B, 3, none⟩ = false ∧ W.frozen? ⟨B, 4, none⟩ = false ∧ W.frozen? ⟨B, 5, none⟩ = false) :=
  ⟨⟨(h.cell 0).trans rfl, (h.cell 1).trans rfl, (h.cell 2).trans rfl, (h.cell 3).trans rfl, (h.cell 4).trans rfl, (h.cell 5).trans rfl⟩, h.frozen 0, h.frozen 1, h.frozen 2, h.frozen 3, h.frozen 4, h.frozen 5⟩

theorem PartsN.below {w w' : World} {v : Value} {ps : List (List Nd)} (h : PartsN w v ps) (hb : Below w.heap.size w w') : PartsN w' v ps := by
  obtain ⟨a, cap, rfl, h1⟩ := h
  refine ⟨a, cap, rfl, fun hl => ?_⟩
  obtain ⟨b, off, rfl, hlt, hx⟩ := h1 hl
  refine ⟨b, off, rfl, Nat.lt_of_lt_of_le hlt hb.size, fun i hi => ?_⟩
  obtain ⟨x, hc, hn⟩ := hx i hi
  exact ⟨x, (hb.cell (p := ⟨b, off + i, none⟩) hlt).trans hc, hn.below hb⟩

set_option maxHeartbeats 4000000 in
theorem holding_any (mi mb nx : Int) (fv : Value) (ps : List (List Nd)) (v : Value) (w : World) (hv : PartsN w v ps) (hp : ps.length ≤ 1000000) (hn : ps.flatten.length ≤ 1000000) (hd : ∀ x ∈ ps.flatten, x.data.length ≤ 281474976710656) :
    Calls Tryz.prog 90 #[.agg (fsC mi mb nx fv), v] w fun e w' => ∃ x, e = .returned (.agg (fsC mi mb nx x)) ∧ NewNds w ps.flatten x w' := by
  have hev : ∀ x ∈ ps.flatten, ∃ a n c, x.ev = .slice a n c := by
    obtain ⟨_, _, _, h1⟩ := hv
    intro x hx
    obtain ⟨l, hl, hxl⟩ := List.mem_flatten.1 hx
    obtain ⟨i, hi, rfl⟩ := List.getElem_of_mem hl
    obtain ⟨_, _, _, _, h2⟩ := h1 (by omega)
    obtain ⟨_, _, h3⟩ := h2 i hi
    obtain ⟨a, c, h4, _⟩ := h3.all x hxl
    exact ⟨_, _, _, h4⟩
  have b0 := Blk.new w 24 (fsC mi mb nx fv)
  have b1 := Blk.new (w.alloc (.cells (fsC mi mb nx fv) 24)) 24 (fsC 0 0 0 (.slice none 0 0))
  have b0' := b0.alloc (.cells (fsC 0 0 0 (.slice none 0 0)) 24)
  have hB0 : Below w.heap.size w ((w.alloc (.cells (fsC mi mb nx fv) 24)).alloc (.cells (fsC 0 0 0 (.slice none 0 0)) 24)) := ((Below.refl _ w).alloc (Nat.le_refl _) _).alloc (by simp) _
  have hP := hv.below hB0
  have HC := ConcatN_any ps _ _ hP hp hn
  generalize ps.flatten = L at *
  clear b0 hP
  go_enter Tryz.func90, Tryz.ntmps90
  go_wp2_with fail
  refine HC.mono ?_
  rintro e w1 ⟨x, rfl, hown, hb1⟩
  clear HC
  simp only [World.size_alloc] at b1
  replace b0' := b0'.next hb1
  replace b1 := b1.next hb1
  have hown1 := own_base hown (base' := w.heap.size) (by simp; omega)
  replace hB0 := hB0.trans (hb1.mono hB0.size)
  have hlt1 : w.heap.size + 2 ≤ w1.heap.size := by have := hb1.size; simp at this; omega
  have hgb : ∀ g, x.ownBlock = some g → w.heap.size + 2 ≤ g := fun g hg => by have := (hown.lt g hg).1; simp at this; omega
  clear hown hb1
  have c3 := b0'.cell 3
  have f3 := b0'.frozen 3
  simp [fsC] at c3
  have HL := Lib.hid hd
  have HEV := Lib.hid hev
  clear hd hev
  have b2 := b0'.set 3 x
  rw [show (fsC mi mb nx fv).setIfInBounds 3 x = fsC mi mb nx x from rfl] at b2
  have b3 := b1.other (B2 := w.heap.size) (i := 3) (by omega) x
  have hB3 := hB0.setCell (p := ⟨w.heap.size, 3, none⟩) (Nat.le_refl _) x
  have hown3 := hown1.kept (grownBy_set w1 w.heap.size 3 x) (by
    rcases own_cases hown1 with ⟨rfl, _⟩ | ⟨g, cap, rfl, _⟩
    · exact .inl rfl
    · exact .inr (by have := hgb g rfl; simp [Value.ownBlock]; omega))
  clear b0' b1 hB0
  rcases own_cases hown1 with ⟨rfl, hL0, _⟩ | ⟨g, cap, rfl, hwg, hg1, hLc, hcm⟩
  · clear hown1 hgb
    generalize hw3 : w1.setCell ⟨w.heap.size, 3, none⟩ (.slice none 0 0) = w3 at *
    have H3 := Lib.hid (show _ ∧ _ ∧ _ ∧ _ from ⟨b2, b3, hB3, hown3⟩)
    obtain ⟨⟨p0, p1, p2, p3⟩, _⟩ := b2.four
    obtain ⟨⟨q0, q1, q2, q3⟩, e0, e1, e2, e3⟩ := b3.four
    clear b2 b3 hB3 hown3
    go_wp2
    clear hw3
    go_loopg [13] 0 (fun g s13 wr => s13 = .int .i64 0 ∧ wr = w3)
    case atStart => exact ⟨rfl, rfl⟩
    case round =>
      obtain ⟨rfl, rfl⟩ := hrel
      obtain ⟨b2, b3, hB3, hown3⟩ := H3.out
      obtain ⟨W', hW', hb4, hg4⟩ := b3.put4 (.int .i64 mi) (.int .i64 mb) (.int .i64 nx) (.slice none 0 0)
      have hbl := below_grown hB3 hg4 (Nat.le_refl _) (by omega)
      have hown4 := hown3.kept hg4 (.inl rfl)
      clear b2 b3 hB3 hown3 hg4
      go_wp2
      obtain ⟨⟨r0, r1, r2, r3⟩, _⟩ := hb4.four
      clear hW' hb4 p0 p1 p2 p3 q0 q1 q2 q3 e0 e1 e2 e3
      refine bodyPost_ret (v := .agg (fsC mi mb nx (.slice none 0 0))) (by simp [results, Tryz.f90, go_sem, r0, r1, r2, r3]) rfl ?_
      exact ⟨_, rfl, hown4, hbl⟩
  · have hg2 := hgb g rfl
    clear hown1 hgb
    generalize hw3 : w1.setCell ⟨w.heap.size, 3, none⟩ (.slice (some ⟨g, 0, none⟩) L.length cap) = w3 at *
    have H3 := Lib.hid (show _ ∧ _ ∧ _ ∧ _ from ⟨b2, b3, hB3, hown3⟩)
    obtain ⟨⟨p0, p1, p2, p3⟩, _⟩ := b2.four
    clear b2 b3 hB3 hown3 hg1
    unfold maxLen at hcm
    go_wp2
    clear hw3 p0 p1 p2 p3
    go_loopg [13] L.length (fun G s13 wr => ∃ k : Nat, k + G = L.length ∧ s13 = .int .i64 k ∧ Below w.heap.size w wr ∧ Aside (Blk wr w.heap.size 24 (fsC mi mb nx (.slice (some ⟨g, 0, none⟩) L.length cap))) ∧ Aside (Blk wr (w.heap.size + 1) 24 (fsC 0 0 0 (.slice none 0 0))) ∧ Aside (wr.ownsRow w.heap.size 45 6 (.slice (some ⟨g, 0, none⟩) L.length cap) L.length (ndsV L)))
    case atStart => exact ⟨0, by omega, rfl, H3.out.2.2.1, H3.out.1, H3.out.2.1, H3.out.2.2.2⟩
    case round =>
      obtain ⟨k, hkg, rfl, hbw, HB2, HB3, HO⟩ := hrel
      by_cases hlt : k < L.length
      · obtain ⟨G, rfl⟩ : ∃ G, gk = G + 1 := ⟨gk - 1, by omega⟩
        obtain ⟨c0, c1, c2, c3, c4, c5⟩ := own_at HO.out hlt
        have hat := (ndsV_at L k hlt).2.2.2.1
        have hyd := HL.out _ (List.getElem_mem hlt)
        obtain ⟨ae, ne, ce, hye⟩ := HEV.out _ (List.getElem_mem hlt)
        rw [hye] at c5
        generalize L[k].data = yd at *
        generalize L[k].ino = y0 at *
        generalize L[k].kind = y1 at *
        generalize L[k].links = y2 at *
        generalize L[k].parent = y4 at *
        have HAT := Lib.hid hat
        have x1 := Blk.new wr 45 #[.int .i64 y0, .int .i64 y1, .int .i64 y2, .string ⟨yd.toArray⟩, .int .i64 y4, .slice ae ne ce]
        have hb5 : Below w.heap.size w (wr.alloc (.cells #[.int .i64 y0, .int .i64 y1, .int .i64 y2, .string ⟨yd.toArray⟩, .int .i64 y4, .slice ae ne ce] 45)) := hbw.alloc (Nat.le_trans hbw.size (Nat.le_refl _)) _
        have B2 := HB2.out.alloc (.cells #[.int .i64 y0, .int .i64 y1, .int .i64 y2, .string ⟨yd.toArray⟩, .int .i64 y4, .slice ae ne ce] 45)
        have B3 := HB3.out.alloc (.cells #[.int .i64 y0, .int .i64 y1, .int .i64 y2, .string ⟨yd.toArray⟩, .int .i64 y4, .slice ae ne ce] 45)
        have O5 := HO.out.alloc (.cells #[.int .i64 y0, .int .i64 y1, .int .i64 y2, .string ⟨yd.toArray⟩, .int .i64 y4, .slice ae ne ce] 45)
        have p3 := B2.four.1.2.2.2
        have k3 := (x1.cell 3).trans (rfl : _ = some (Value.string ⟨yd.toArray⟩))
        clear HB2 HB3 HO hbw hat hye
        have k0 : (0 : Int) ≤ (k : Int) := by omega
        have k1 : (k : Int) < (L.length : Int) := by omega
        have hk6 : k * 6 + 3 < L.length * 6 := by omega
        generalize hwa : wr.alloc (.cells #[.int .i64 y0, .int .i64 y1, .int .i64 y2, .string ⟨yd.toArray⟩, .int .i64 y4, .slice ae ne ce] 45) = wa at *
        have O6 : wa.drew.ownsRow w.heap.size 45 6 (.slice (some ⟨g, 0, none⟩) L.length cap) L.length (ndsV L) := O5
        have B4 : Blk wa.drew w.heap.size 24 (fsC mi mb nx (.slice (some ⟨g, 0, none⟩) L.length cap)) := B2
        have B5 : Blk wa.drew (w.heap.size + 1) 24 (fsC 0 0 0 (.slice none 0 0)) := B3
        have hb6 : Below w.heap.size w wa.drew := hb5.drew
        clear O5 B2 B3 hb5 x1
        go_upto_region 5 with fail
        go_region_with (go_at_call 57; refine (CloneN_any yd _ hyd).mono ?_; rintro e w5 ⟨rfl, b5⟩; have O7 := own_keep O6 b5; have q3 := (O7.cellAt (k * 6 + 3) hk6).trans HAT.out; have qf := O7.frozenAt (k * 6 + 3); have p5 := (B4.next b5).four.1.2.2.2)
        all_goals (go_wp2; go_roundg G)
        all_goals first | omega | exact ⟨k + 1, by omega, by go_num, (hb6.trans (b5.mono hb6.size)).setCell hwg _, (B4.next b5).other (B2 := g) (i := k * 6 + 3) (by omega) _, (B5.next b5).other (B2 := g) (i := k * 6 + 3) (by omega) _, (own_set_same O7 HAT.out).1⟩
      · obtain rfl : k = L.length := by omega
        obtain ⟨⟨p0, p1, p2, p3⟩, _⟩ := HB2.out.four
        obtain ⟨⟨q0, q1, q2, q3⟩, e0, e1, e2, e3⟩ := HB3.out.four
        obtain ⟨W', hW', hb4, hg4⟩ := HB3.out.put4 (.int .i64 mi) (.int .i64 mb) (.int .i64 nx) (.slice (some ⟨g, 0, none⟩) L.length cap)
        have hbl := below_grown hbw hg4 (Nat.le_refl _) (by omega)
        have hown4 := HO.out.kept hg4 (.inr (by simp [Value.ownBlock]; omega))
        clear HB2 HB3 HO hbw hg4
        go_wp2
        obtain ⟨⟨r0, r1, r2, r3⟩, _⟩ := hb4.four
        clear hW' hb4 p0 p1 p2 p3 q0 q1 q2 q3 e0 e1 e2 e3
        refine bodyPost_ret (v := .agg (fsC mi mb nx (.slice (some ⟨g, 0, none⟩) L.length cap))) (by simp [results, Tryz.f90, go_sem, r0, r1, r2, r3]) rfl ?_
        exact ⟨_, rfl, hown4, hbl⟩
end Go.Proofs.YtobepdmpacdakaaGreat
