/- Walks: slices.Clone of entries and of inodes, ownInode. -/
import Derived.Test.YtneklkjlcpgdgaaQWalkG08
import Derived.Test.YtneklkjlcpgdgaaQWalkE04
import Derived.Lib.SliceRun
namespace Go.Proofs.Ytneklkjlcpgdgaa
open Go.RowKit

theorem infoE8 : (Try.prog.info? 55).map (fun i => (i.zero, i.size, i.bytes)) = some (some (.agg #[.string ⟨#[]⟩, .int .i64 0]), 2, 24) := by kernel_rfl
set_option maxRecDepth 100000 in
set_option maxHeartbeats 1000000 in
theorem cloneE_any (es : List Ent) (v : Value) (w : World) (hv : Ents w v es) (hl : es.length ≤ 1000000) :
    Calls Try.prog 58 #[v] w fun e w' => ∃ y, e = .returned y ∧ w'.ownsRow w.heap.size 55 2 y es.length (entsV es) ∧ Below w.heap.size w w' := by
  obtain ⟨i0, hi, hz0, hz1, hz2⟩ := info_parts infoE8
  obtain ⟨a, c, rfl, h1, h2, h3⟩ := hv
  have hs := fun hl => Ents.src (w := w) (a := a) (n := es.length) (cap := c) (l := es) ⟨a, c, rfl, h1, h2, h3⟩ hl
  cases a with
  | none =>
    have h0 : es = [] := by
      cases es with
      | nil => rfl
      | cons x r => obtain ⟨b, off, e, _⟩ := h3 (by simp); cases e
    subst h0
    clear h3 hs
    have hnil := Lib.run_eql_slice_nil (P := Try.prog) w 39 55 none 0 c 0 0 Try.underlying39
    simp only [List.length_nil]
    go_enter Try.func58, Try.ntmps58
    go_wp2
    go_ret
    exact ⟨_, rfl, World.ownsRow_nil _ _ _ _, Below.refl _ _⟩
  | some ad =>
    have hal := alloc_below w (.cells #[] 55)
    have hown : (w.alloc (.cells #[] 55)).ownsRow w.heap.size 55 2 (.slice (some ⟨w.heap.size, 0, none⟩) 0 0) 0 [] := World.ownsRow_lit w #[] 0 (Nat.le_refl _) (by decide) rfl
    have hsrc : ∀ ad', (some ad : Option Addr) = some ad' → ∀ j u, (entsV es)[j]? = some u → (w.alloc (.cells #[] 55)).cell? (ad'.add j) = some u := by
      intro ad' e j u hj
      cases e
      have hpos : 0 < es.length := by
        rcases Nat.eq_zero_or_pos es.length with h | h
        · rw [List.eq_nil_of_length_eq_zero h] at hj; simp [entsV] at hj
        · exact h
      obtain ⟨ad2, e2, hlt, hc⟩ := hs hpos
      cases e2
      have := hc j u hj
      exact (hal.cell (p := ad.add j) (by rw [show (ad.add j).block = ad.block from by unfold Addr.add; split <;> rfl]; exact hlt)).trans this
    have hln := entsV_len es
    clear hs h3
    have hnil := Lib.run_eql_slice_nil (P := Try.prog) w 39 55 (some ad) es.length c 0 0 Try.underlying39
    go_enter Try.func58, Try.ntmps58
    go_wp2_with (at_builtin; refine wpList_append_any rfl (.tmp 5) (.tmp 6) 39 55 rfl Try.underlying39 hi hz0 hz1 hz2 rfl (by decide) (by decide) w.heap.size (v := .slice (some ⟨w.heap.size, 0, none⟩) 0 0) (some ad) es.length c (entsV es) rfl rfl hown (fun h => by cases h) hln hsrc (entsV_one _) (by omega) (by simp) ?_; intro v1 w1 hown1 hb1)
    go_ret
    exact ⟨v1, rfl, by simpa using hown1, (hal.mono (Nat.le_refl _)).trans hb1⟩

set_option maxRecDepth 100000 in
set_option maxHeartbeats 1000000 in
theorem cloneN_any (l : List Nd) (v : Value) (w : World) (hv : Nds w v l) (hl : l.length ≤ 1000000) :
    Calls Try.prog 57 #[v] w fun e w' => ∃ y, e = .returned y ∧ w'.ownsRow w.heap.size 41 6 y l.length (ndsV l) ∧ Below w.heap.size w w' := by
  obtain ⟨i0, hi, hz0, hz1, hz2⟩ := info_parts infoN
  have hv2 := hv
  obtain ⟨a, c, rfl, h1, h2, he, h0, h3⟩ := hv
  cases a with
  | none =>
    have hl0 : l = [] := by
      cases l with
      | nil => rfl
      | cons x r => obtain ⟨b, off, e, _⟩ := h3 (by simp); cases e
    subst hl0
    obtain rfl := h0 rfl
    clear h3 hv2
    have hnil := Lib.run_eql_slice_nil (P := Try.prog) w 22 41 none 0 0 0 0 Try.underlying22
    simp only [List.length_nil]
    go_enter Try.func57, Try.ntmps57
    go_wp2
    go_ret
    exact ⟨_, rfl, World.ownsRow_nil _ _ _ _, Below.refl _ _⟩
  | some ad =>
    have hal := alloc_below w (.cells #[] 41)
    have hown : (w.alloc (.cells #[] 41)).ownsRow w.heap.size 41 6 (.slice (some ⟨w.heap.size, 0, none⟩) 0 0) 0 [] := World.ownsRow_lit w #[] 0 (Nat.le_refl _) (by decide) rfl
    have hsrc := fun ad' e => (hv2.below hal).src ad' e
    have hone := ndsV_one he
    have hln := ndsV_len l
    clear h3 he hv2 h0
    have hnil := Lib.run_eql_slice_nil (P := Try.prog) w 22 41 (some ad) l.length c 0 0 Try.underlying22
    go_enter Try.func57, Try.ntmps57
    go_wp2_with (at_builtin; refine wpList_append_any rfl (.tmp 5) (.tmp 6) 22 41 rfl Try.underlying22 hi hz0 hz1 hz2 rfl (by decide) (by decide) w.heap.size (v := .slice (some ⟨w.heap.size, 0, none⟩) 0 0) (some ad) l.length c (ndsV l) rfl rfl hown (fun h => by cases h) hln hsrc hone (by omega) (by simp) ?_; intro v1 w1 hown1 hb1)
    go_ret
    exact ⟨v1, rfl, by simpa using hown1, (hal.mono (Nat.le_refl _)).trans hb1⟩

set_option maxRecDepth 100000 in
set_option maxHeartbeats 4000000 in
theorem ownInode_any (x : Nd) (w : World) (hx : Ents w x.ev x.ents) (hl : x.ents.length ≤ 1000000) (hs : shortP 300 x.ents) (hd : x.data.length ≤ 100000000) :
    Calls Try.prog 37 #[.agg (ndC x)] w fun e w' => ∃ y, e = .returned (.agg (ndC ⟨x.ino, x.kind, x.links, x.data, x.parent, y, x.ents⟩)) ∧ w'.ownsRow w.heap.size 55 2 y x.ents.length (entsV x.ents) ∧ Below w.heap.size w w' := by
  obtain ⟨xi, xk, xl, xd, xp, xe, xn⟩ := x
  obtain ⟨a, n, c, hxe⟩ : ∃ a n c, xe = .slice a n c := by obtain ⟨a, c, h, _⟩ := hx; exact ⟨a, _, c, h⟩
  dsimp only at hx hl hs hd hxe ⊢
  subst hxe
  have bX := (Blk.new w 41 (ndC ⟨xi, xk, xl, xd, xp, .slice a n c, xn⟩)).alloc (.cells (ndC zeroN) 41)
  have bR := Blk.new (w.alloc (.cells (ndC ⟨xi, xk, xl, xd, xp, .slice a n c, xn⟩) 41)) 41 (ndC zeroN)
  have hB0 : Below w.heap.size w ((w.alloc (.cells (ndC ⟨xi, xk, xl, xd, xp, .slice a n c, xn⟩) 41)).alloc (.cells (ndC zeroN) 41)) := ((Below.refl _ w).alloc (Nat.le_refl _) _).alloc (by simp) _
  rw [World.size_alloc] at bR
  obtain ⟨⟨x0, x1, x2, x3, x4, x5⟩, _⟩ := bX.six
  dsimp only at x0 x1 x2 x3 x4 x5
  go_enter Try.func37, Try.ntmps37
  go_wp2_with fail
  refine (Clone_any xd _ hd).mono ?_
  rintro e w1 ⟨rfl, b1⟩
  clear x0 x1 x2 x3 x4 x5
  have hB1 := hB0.trans (b1.mono hB0.size)
  replace bX := bX.next b1
  replace bR := bR.next b1
  have f3 := bX.frozen 3
  have c3 := (bX.cell 3).trans (rfl : _ = some (Value.string ⟨xd.toArray⟩))
  have bX2 := bX.set 3 (.string ⟨xd.toArray⟩)
  rw [show (ndC ⟨xi, xk, xl, xd, xp, .slice a n c, xn⟩).setIfInBounds 3 (.string ⟨xd.toArray⟩) = ndC ⟨xi, xk, xl, xd, xp, .slice a n c, xn⟩ from rfl] at bX2
  have bR2 := bR.other (B2 := w.heap.size) (i := 3) (by omega) (.string ⟨xd.toArray⟩)
  have hB2 := hB1.setCell (p := ⟨w.heap.size, 3, none⟩) (Nat.le_refl _) (.string ⟨xd.toArray⟩)
  generalize hw2 : w1.setCell ⟨w.heap.size, 3, none⟩ (.string ⟨xd.toArray⟩) = w2 at *
  obtain ⟨⟨x0, x1, x2, x3, x4, x5⟩, _⟩ := bX2.six
  dsimp only at x0 x1 x2 x3 x4 x5
  clear bX bR hB0 hB1 b1
  go_wp2_with fail
  clear hw2 f3 c3
  refine (cloneE_any xn _ _ (hx.below hB2) hl).mono ?_
  rintro e w3 ⟨y, rfl, hown, b3⟩
  clear x0 x1 x2 x3 x4 x5
  obtain ⟨ay, cy, rfl⟩ := own_slice hown
  replace hown := own_base hown hB2.size
  replace bX2 := bX2.next b3
  replace bR2 := bR2.next b3
  have hB3 := hB2.trans (b3.mono hB2.size)
  have f5 := bX2.frozen 5
  have c5 := (bX2.cell 5).trans (rfl : _ = some (Value.slice a n c))
  have bX3 := bX2.set 5 (.slice ay xn.length cy)
  rw [show (ndC ⟨xi, xk, xl, xd, xp, .slice a n c, xn⟩).setIfInBounds 5 (.slice ay xn.length cy) = ndC ⟨xi, xk, xl, xd, xp, .slice ay xn.length cy, xn⟩ from rfl] at bX3
  have bR3 := bR2.other (B2 := w.heap.size) (i := 5) (by omega) (.slice ay xn.length cy)
  have hB4 := hB3.setCell (p := ⟨w.heap.size, 5, none⟩) (Nat.le_refl _) (.slice ay xn.length cy)
  have hown4 := hown.kept (grownBy_set w3 w.heap.size 5 (.slice ay xn.length cy)) (.inr (bX2.not_row (by decide) hown).symm)
  generalize hw4 : w3.setCell ⟨w.heap.size, 5, none⟩ (.slice ay xn.length cy) = w4 at *
  obtain ⟨⟨x0, x1, x2, x3, x4, x5⟩, _⟩ := bX3.six
  dsimp only at x0 x1 x2 x3 x4 x5
  have H4 := Lib.hid (show _ ∧ _ ∧ _ ∧ _ from ⟨bX3, bR3, hB4, hown4⟩)
  clear bX2 bR2 hB2 hB3 b3 hown bX3 bR3 hB4 hown4
  have HSS := Lib.hid hs
  clear hs hx
  go_wp2
  clear hw4 f5 c5
  clear x0 x1 x2 x3 x4 x5
  go_loopg [16] xn.length (fun G s16 wr => ∃ k : Nat, k + G = xn.length ∧ s16 = .int .i64 k ∧ Below w.heap.size w wr ∧ Aside (Blk wr w.heap.size 41 (ndC ⟨xi, xk, xl, xd, xp, .slice ay xn.length cy, xn⟩)) ∧ Aside (Blk wr (w.heap.size + 1) 41 (ndC zeroN)) ∧ Aside (wr.ownsRow w.heap.size 55 2 (.slice ay xn.length cy) xn.length (entsV xn)))
  case atStart => exact ⟨0, by omega, rfl, H4.out.2.2.1, H4.out.1, H4.out.2.1, H4.out.2.2.2⟩
  case round =>
    clear H4
    obtain ⟨k, hkg, rfl, hbw, HX, HR, HO⟩ := hrel
    by_cases hlt : k < xn.length
    · obtain ⟨G, rfl⟩ : ∃ G, gk = G + 1 := ⟨gk - 1, by omega⟩
      obtain ⟨g, rfl, hwg⟩ : ∃ g, ay = some ⟨g, 0, none⟩ ∧ w.heap.size ≤ g := by
        rcases own_cases HO.out with ⟨_, h0, _⟩ | ⟨g, c', h, h1, _⟩
        · omega
        · simp only [Value.slice.injEq] at h; exact ⟨g, h.1, h1⟩
      have hat := entsV_at xn k hlt
      have c0 := (HO.out.cellAt (k * 2) (by omega)).trans hat.1
      have c1 := (HO.out.cellAt (k * 2 + 1) (by omega)).trans hat.2
      have hnm := HSS.out _ (List.getElem_mem hlt)
      have HAT := Lib.hid hat.1
      clear hat
      generalize xn[k] = e at *
      obtain ⟨nm, z⟩ := e
      dsimp only at c0 c1 hnm HAT
      have k0 : (0 : Int) ≤ (k : Int) := by omega
      have k1 : (k : Int) < (xn.length : Int) := by omega
      have hk2 : k * 2 < xn.length * 2 := by omega
      have bE := Blk.new wr 55 #[.string ⟨nm.toArray⟩, .int .i64 z]
      have hb5 : Below w.heap.size w (wr.alloc (.cells #[.string ⟨nm.toArray⟩, .int .i64 z] 55)) := hbw.alloc hbw.size _
      have B2 := HX.out.alloc (.cells #[.string ⟨nm.toArray⟩, .int .i64 z] 55)
      have B3 := HR.out.alloc (.cells #[.string ⟨nm.toArray⟩, .int .i64 z] 55)
      have O5 := HO.out.alloc (.cells #[.string ⟨nm.toArray⟩, .int .i64 z] 55)
      have y5 := (B2.cell 5).trans (rfl : _ = some (Value.slice (some ⟨g, 0, none⟩) xn.length cy))
      have z0 := (bE.cell 0).trans (rfl : _ = some (Value.string ⟨nm.toArray⟩))
      have hXg : w.heap.size ≠ g := fun e => own_ne HO.out HX.out (by decide) e.symm
      have hRg : w.heap.size + 1 ≠ g := fun e => own_ne HO.out HR.out (by decide) e.symm
      go_upto_region 6 with fail
      generalize hwa : wr.alloc (.cells #[.string ⟨nm.toArray⟩, .int .i64 z] 55) = wa at *
      have O6 : wa.drew.ownsRow w.heap.size 55 2 (.slice (some ⟨g, 0, none⟩) xn.length cy) xn.length (entsV xn) := O5
      have B4 : Blk wa.drew w.heap.size 41 (ndC ⟨xi, xk, xl, xd, xp, .slice (some ⟨g, 0, none⟩) xn.length cy, xn⟩) := B2
      have B5 : Blk wa.drew (w.heap.size + 1) 41 (ndC zeroN) := B3
      have hb6 : Below w.heap.size w wa.drew := hb5.drew
      have bE2 : Blk wa.drew wr.heap.size 55 #[.string ⟨nm.toArray⟩, .int .i64 z] := bE
      clear O5 B2 B3 hb5 HX HR HO hbw c0 c1 bE hwa
      go_region_with (go_at_call 54; refine (Clone_any nm _ (by omega)).mono ?_; rintro e w5 ⟨rfl, b5⟩; have O7 := own_keep O6 b5; have q3 := (O7.cellAt (k * 2) hk2).trans HAT.out; have qf := O7.frozenAt (k * 2); have p5 := ((B4.next b5).cell 5).trans (rfl : _ = some (Value.slice (some ⟨g, 0, none⟩) xn.length cy)))
      all_goals (go_wp2; go_roundg G)
      all_goals first | omega | exact ⟨k + 1, by omega, by go_num, (hb6.trans (b5.mono hb6.size)).setCell hwg _, (B4.next b5).other (B2 := g) (i := k * 2) hXg _, (B5.next b5).other (B2 := g) (i := k * 2) hRg _, (own_set_same O7 HAT.out).1⟩
    · obtain rfl : k = xn.length := by omega
      obtain ⟨⟨x0, x1, x2, x3, x4, x5⟩, _⟩ := HX.out.six
      dsimp only at x0 x1 x2 x3 x4 x5
      obtain ⟨⟨r0, r1, r2, r3, r4, r5⟩, e0, e1, e2, e3, e4, e5⟩ := HR.out.six
      simp only [zeroN] at r0 r1 r2 r3 r4 r5
      obtain ⟨W', hW', hb4, hg4⟩ := HR.out.put6 ⟨xi, xk, xl, xd, xp, .slice ay xn.length cy, xn⟩
      have hbl := below_grown hbw hg4 (Nat.le_refl _) (by omega)
      have hown4 := HO.out.kept hg4 (.inr (HR.out.not_row (by decide) HO.out).symm)
      dsimp only at hW'
      clear HX HR HO hbw hg4
      go_wp2
      obtain ⟨⟨z0, z1, z2, z3, z4, z5⟩, _⟩ := hb4.six
      refine bodyPost_ret (v := .agg (ndC ⟨xi, xk, xl, xd, xp, .slice ay xn.length cy, xn⟩)) (by simp [results, Try.f37, go_sem, z0, z1, z2, z3, z4, z5]) rfl ?_
      exact ⟨_, rfl, hown4, hbl⟩
end Go.Proofs.Ytneklkjlcpgdgaa
