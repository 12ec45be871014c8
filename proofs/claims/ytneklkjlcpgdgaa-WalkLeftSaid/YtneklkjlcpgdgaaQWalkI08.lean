/- Walks: ownTable: a file system in memory of its own. -/
import Derived.Test.YtneklkjlcpgdgaaQWalkH08
namespace Go.Proofs.Ytneklkjlcpgdgaa
open Go.RowKit

/-- An inode but for the memory that its entries lie in. -/
def bare (x : Nd) : Nd := ⟨x.ino, x.kind, x.links, x.data, x.parent, .slice none 0 0, x.ents⟩
theorem own_at2 {w : World} {base : Nat} {e : TypeId} {g cap n : Nat} {L : List Nd} (h : w.ownsRow base e 6 (.slice (some ⟨g, 0, none⟩) n cap) n (ndsV L)) {k : Nat} (hk : k < L.length) : NdAt w g (k * 6) L[k] := by
  have := h.1
  rw [ndsV_len] at this
  obtain rfl : n = L.length := by omega
  exact own_at h hk
theorem ndsV_put (y : Nd) (L : List Nd) : ∀ k, k < L.length → ((((((ndsV L).set (k * 6) (.int .i64 y.ino)).set (k * 6 + 1) (.int .i64 y.kind)).set (k * 6 + 2) (.int .i64 y.links)).set (k * 6 + 3) (.string ⟨y.data.toArray⟩)).set (k * 6 + 4) (.int .i64 y.parent)).set (k * 6 + 5) y.ev = ndsV (L.set k y) := by
  induction L with
  | nil => intro k h; simp at h
  | cons x r ih =>
    intro k h
    cases k with
    | zero => rfl
    | succ k =>
      have := ih k (by simpa using h)
      rw [List.set_cons_succ]
      show _ = _ :: _ :: _ :: _ :: _ :: _ :: ndsV (r.set k y)
      rw [← this, show (k + 1) * 6 = k * 6 + 6 from by omega]
      rfl
theorem own_put6 {w : World} {base : Nat} {e : TypeId} {g cap n : Nat} {L : List Nd} (h : w.ownsRow base e 6 (.slice (some ⟨g, 0, none⟩) n cap) n (ndsV L)) {k : Nat} (hk : k < L.length) (y : Nd) :
    ∃ W', (((((w.setCell ⟨g, k * 6, none⟩ (.int .i64 y.ino)).setCell ⟨g, k * 6 + 1, none⟩ (.int .i64 y.kind)).setCell ⟨g, k * 6 + 2, none⟩ (.int .i64 y.links)).setCell ⟨g, k * 6 + 3, none⟩ (.string ⟨y.data.toArray⟩)).setCell ⟨g, k * 6 + 4, none⟩ (.int .i64 y.parent)).setCell ⟨g, k * 6 + 5, none⟩ y.ev = W' ∧
      W'.ownsRow base e 6 (.slice (some ⟨g, 0, none⟩) n cap) n (ndsV (L.set k y)) ∧ w.grownBy W' (some g) := by
  refine ⟨_, rfl, ?_, ?_⟩
  · rw [← ndsV_put y L k hk]
    exact ((((((h.stored _ _).1.stored _ _).1.stored _ _).1.stored _ _).1.stored _ _).1.stored _ _).1
  · exact (((((grownBy_set w g _ _).trans (grownBy_set _ g _ _)).trans (grownBy_set _ g _ _)).trans (grownBy_set _ g _ _)).trans (grownBy_set _ g _ _)).trans (grownBy_set _ g _ _)
theorem ents_same {A B : World} {v : Value} {l : List Ent} (h : Ents A v l) (hs : 0 < l.length → ∀ g, v.ownBlock = some g → B.heap[g]? = A.heap[g]?) (hsz : A.heap.size ≤ B.heap.size) : Ents B v l := by
  obtain ⟨a, c, rfl, h1, h2, h3⟩ := h
  refine ⟨a, c, rfl, h1, h2, fun hl => ?_⟩
  obtain ⟨b, off, rfl, hlt, hc⟩ := h3 hl
  exact ⟨b, off, rfl, Nat.lt_of_lt_of_le hlt hsz, fun i hi => ⟨(World.cell?_of_block (hs hl b rfl)).trans (hc i hi).1, (World.cell?_of_block (hs hl b rfl)).trans (hc i hi).2⟩⟩
theorem ents_lt {A : World} {v : Value} {l : List Ent} (h : Ents A v l) (hl : 0 < l.length) {g : Nat} (hg : v.ownBlock = some g) : g < A.heap.size := by
  obtain ⟨a, c, rfl, h1, h2, h3⟩ := h
  obtain ⟨b, off, rfl, hlt, hc⟩ := h3 hl
  cases hg
  exact hlt
/-- Entries that lie elsewhere than in the blocks from n to n'. -/
def EntsO (w : World) (n n' : Nat) (x : Nd) : Prop := Ents w x.ev x.ents ∧ (0 < x.ents.length → ∀ b, x.ev.ownBlock = some b → b < n ∨ n' ≤ b)
theorem EntsO.kept {A B : World} {n n' r : Nat} {x : Nd} (h : EntsO A n n' x) (hg : A.grownBy B (some r)) (hr : n ≤ r) (hr' : r < n') : EntsO B n n' x :=
  ⟨ents_same h.1 (fun hl b hb => hg.block b (ents_lt h.1 hl hb) (fun e => by cases e; have := h.2 hl _ hb; omega)) hg.size, h.2⟩
theorem EntsO.below {A B : World} {n n' : Nat} {x : Nd} (h : EntsO A n n' x) (hb : Below A.heap.size A B) : EntsO B n n' x := ⟨h.1.below hb, h.2⟩

set_option maxRecDepth 100000 in
set_option maxHeartbeats 4000000 in
theorem ownTable_any (mi mb nx : Int) (l : List Nd) (v : Value) (w : World) (hv : Nds w v l) (hl : l.length ≤ 100000) (hle : ∀ x ∈ l, x.ents.length ≤ 1000000) (hsh : ∀ x ∈ l, shortP 300 x.ents) (hda : ∀ x ∈ l, x.data.length ≤ 100000000)
    (n₀ : Nat) (hn₀ : n₀ ≤ w.heap.size) (hv0 : ∀ x ∈ l, 0 < x.ents.length → ∀ b, x.ev.ownBlock = some b → b < n₀) :
    Calls Try.prog 35 #[.agg (fsC mi mb nx v)] w fun e w' => ∃ y L, e = .returned (.agg (fsC mi mb nx y)) ∧ w'.ownsRow w.heap.size 41 6 y l.length (ndsV L) ∧ EntsAll w' L ∧ L.map bare = l.map bare ∧ (∀ x ∈ L, 0 < x.ents.length → ∀ b, x.ev.ownBlock = some b → b < n₀ ∨ w.heap.size ≤ b) ∧ Below w.heap.size w w' := by
  obtain ⟨af, cf, rfl⟩ := nds_slice hv
  have bF := (Blk.new w 24 (fsC mi mb nx (.slice af l.length cf))).alloc (.cells (fsC 0 0 0 (.slice none 0 0)) 24)
  have bR := Blk.new (w.alloc (.cells (fsC mi mb nx (.slice af l.length cf)) 24)) 24 (fsC 0 0 0 (.slice none 0 0))
  have hB0 : Below w.heap.size w ((w.alloc (.cells (fsC mi mb nx (.slice af l.length cf)) 24)).alloc (.cells (fsC 0 0 0 (.slice none 0 0)) 24)) := ((Below.refl _ w).alloc (Nat.le_refl _) _).alloc (by simp) _
  rw [World.size_alloc] at bR
  have p3 := bF.four.1.2.2.2
  go_enter Try.func35, Try.ntmps35
  go_wp2_with fail
  refine (cloneN_any l _ _ (hv.below hB0) (by omega)).mono ?_
  rintro e w1 ⟨y, rfl, hown, b1⟩
  clear p3
  obtain ⟨ay, cy, rfl⟩ := own_slice hown
  have hown1 := own_base hown hB0.size
  have hgb : ∀ g, ay = some ⟨g, 0, none⟩ → w.heap.size + 2 ≤ g := fun g hg => by have := (hown.lt g (by rw [hg]; rfl)).1; simp at this; omega
  have hB1 := hB0.trans (b1.mono hB0.size)
  replace bF := bF.next b1
  replace bR := bR.next b1
  have f3 := bF.frozen 3
  have c3 := (bF.cell 3).trans (rfl : _ = some (Value.slice af l.length cf))
  have bF2 := bF.set 3 (.slice ay l.length cy)
  rw [show (fsC mi mb nx (.slice af l.length cf)).setIfInBounds 3 (.slice ay l.length cy) = fsC mi mb nx (.slice ay l.length cy) from rfl] at bF2
  have bR2 := bR.other (B2 := w.heap.size) (i := 3) (by omega) (.slice ay l.length cy)
  have hB2 := hB1.setCell (p := ⟨w.heap.size, 3, none⟩) (Nat.le_refl _) (.slice ay l.length cy)
  have hown2 := hown1.kept (grownBy_set w1 w.heap.size 3 (.slice ay l.length cy)) (.inr (bF.not_row (by decide) hown1).symm)
  obtain ⟨N, hN⟩ : ∃ N, (w1.setCell ⟨w.heap.size, 3, none⟩ (.slice ay l.length cy)).heap.size = N := ⟨_, rfl⟩
  have hgN : ∀ g, ay = some ⟨g, 0, none⟩ → g < N := fun g hg => by have := (hown2.lt g (by rw [hg]; rfl)).2; omega
  have hRN : w.heap.size + 1 < N := by have := bR2.lt; omega
  have hgb2 : ∀ x ∈ l, EntsO (w1.setCell ⟨w.heap.size, 3, none⟩ (.slice ay l.length cy)) n₀ N x := fun x hx =>
    ⟨(hv.all x hx).below hB2, fun h0 b hb => .inl (hv0 x hx h0 b hb)⟩
  clear bF bR hB0 hB1 hown hown1 b1
  generalize hw2 : w1.setCell ⟨w.heap.size, 3, none⟩ (.slice ay l.length cy) = w2 at *
  have p3 := bF2.four.1.2.2.2
  have H2 := Lib.hid (show _ ∧ _ ∧ _ ∧ _ ∧ _ ∧ _ from ⟨bF2, bR2, hB2, hown2, hgb2, hN⟩)
  have HP := Lib.hid (show _ ∧ _ ∧ _ from ⟨hle, hsh, hda⟩)
  have HG := Lib.hid (show _ ∧ _ ∧ _ from ⟨hgb, hgN, hRN⟩)
  clear bF2 bR2 hB2 hown2 hgb2 hle hsh hda hgb hv hv0 hgN hRN hN
  go_wp2
  clear hw2 f3 c3 p3
  go_loopg [12] l.length (fun G s12 wr => ∃ (k : Nat) (L : List Nd), k + G = l.length ∧ s12 = .int .i64 k ∧ Below w.heap.size w wr ∧ Aside (Blk wr w.heap.size 24 (fsC mi mb nx (.slice ay l.length cy))) ∧ Aside (Blk wr (w.heap.size + 1) 24 (fsC 0 0 0 (.slice none 0 0))) ∧
    Aside (wr.ownsRow w.heap.size 41 6 (.slice ay l.length cy) l.length (ndsV L)) ∧ Aside (L.map bare = l.map bare ∧ N ≤ wr.heap.size ∧ ∀ x ∈ L, EntsO wr n₀ N x))
  case atStart => exact ⟨0, l, by omega, rfl, H2.out.2.2.1, H2.out.1, H2.out.2.1, H2.out.2.2.2.1, rfl, Nat.le_of_eq H2.out.2.2.2.2.2.symm, H2.out.2.2.2.2.1⟩
  case round =>
    clear H2
    obtain ⟨k, L, hkg, rfl, hbw, HF, HR, HO, HL⟩ := hrel
    have hLl : Hid (L.length = l.length) := by (show _ = _); simpa using congrArg List.length HL.out.1
    by_cases hlt : k < l.length
    · obtain ⟨G, rfl⟩ : ∃ G, gk = G + 1 := ⟨gk - 1, by omega⟩
      obtain ⟨g, rfl, hwg⟩ : ∃ g, ay = some ⟨g, 0, none⟩ ∧ w.heap.size ≤ g := by
        rcases own_cases HO.out with ⟨_, h0, _⟩ | ⟨g, c', h, h1, _⟩
        · omega
        · simp only [Value.slice.injEq] at h; exact ⟨g, h.1, h1⟩
      have hg2 := HG.out.1 g rfl
      have hgN := HG.out.2.1 g rfl
      have hgw : g < wr.heap.size := (HO.out.lt g rfl).2
      have hkL : k < L.length := by rw [hLl.out]; exact hlt
      have hmem := List.getElem_mem hkL
      have hbare : Hid (bare L[k] = bare l[k]) := by
        (show _ = _)
        have := congrArg (fun z => z[k]?) HL.out.1
        simpa [List.getElem?_map, List.getElem?_eq_getElem hkL, List.getElem?_eq_getElem hlt] using this
      have hE := HL.out.2.2 _ hmem
      have hP : L[k].ents.length ≤ 1000000 ∧ shortP 300 L[k].ents ∧ L[k].data.length ≤ 100000000 := by
        have e1 : L[k].ents = l[k].ents := (congrArg Nd.ents hbare.out :)
        have e2 : L[k].data = l[k].data := (congrArg Nd.data hbare.out :)
        have hm := List.getElem_mem hlt
        rw [e1, e2]
        exact ⟨HP.out.1 _ hm, HP.out.2.1 _ hm, HP.out.2.2 _ hm⟩
      obtain ⟨q1, q2, q3⟩ := hP
      obtain ⟨c0, c1, c2, c3, c4, c5⟩ := own_at2 HO.out hkL
      generalize hx : L[k] = x at *
      have HX := Lib.hid hx
      clear hx hmem
      obtain ⟨ae, ne, ce, hye⟩ : ∃ a n c, x.ev = .slice a n c := by obtain ⟨a, c, h, _⟩ := hE.1; exact ⟨a, _, c, h⟩
      obtain ⟨xi, xk, xl, xd, xp, xe, xn⟩ := x
      dsimp only at c0 c1 c2 c3 c4 c5 q1 q2 q3 hye
      subst hye
      have bX := Blk.new wr 41 (ndC ⟨xi, xk, xl, xd, xp, .slice ae ne ce, xn⟩)
      have hal := alloc_below wr (.cells (ndC ⟨xi, xk, xl, xd, xp, .slice ae ne ce, xn⟩) 41)
      have hb5 := hbw.trans (hal.mono hbw.size)
      have B2 := HF.out.next hal
      have B3 := HR.out.next hal
      have O5 := own_keep HO.out hal
      have k0 : (0 : Int) ≤ (k : Int) := by omega
      have k1 : (k : Int) < (l.length : Int) := by omega
      have HE := Lib.hid (show ∀ x ∈ L, EntsO (wr.alloc (.cells (ndC ⟨xi, xk, xl, xd, xp, .slice ae ne ce, xn⟩) 41)) n₀ N x from fun x hx => (HL.out.2.2 x hx).below hal)
      have hNw := HL.out.2.1
      have hNa := Nat.le_trans hNw hal.size
      have hE5 := hE.below hal
      have HMAP := Lib.hid HL.out.1
      simp only [ndC] at bX B2 B3 O5 hb5 HE hE5
      go_upto_region 5 with fail
      generalize hwa : wr.alloc (.cells #[.int .i64 xi, .int .i64 xk, .int .i64 xl, .string ⟨xd.toArray⟩, .int .i64 xp, .slice ae ne ce] 41) = wa at *
      have O6 : wa.drew.ownsRow w.heap.size 41 6 (.slice (some ⟨g, 0, none⟩) l.length cy) l.length (ndsV L) := O5
      have B4 : Blk wa.drew w.heap.size 24 (fsC mi mb nx (.slice (some ⟨g, 0, none⟩) l.length cy)) := B2
      have B5 : Blk wa.drew (w.heap.size + 1) 24 (fsC 0 0 0 (.slice none 0 0)) := B3
      have hb6 : Below w.heap.size w wa.drew := hb5.drew
      have bX2 : Blk wa.drew wr.heap.size 41 (ndC ⟨xi, xk, xl, xd, xp, .slice ae ne ce, xn⟩) := bX
      have hga : g < wa.drew.heap.size := (O6.lt g rfl).2
      have HE6 : Hid (∀ x ∈ L, EntsO wa.drew n₀ N x) := fun x hx => (HE.out x hx).below (Below.refl _ wa).drew
      have hE6 : Ents wa.drew (.slice ae ne ce) xn := (hE5.below (Below.refl _ wa).drew).1
      have hNd : N ≤ wa.drew.heap.size := hNa
      have p3 := B4.four.1.2.2.2
      obtain ⟨⟨x0, x1, x2, x3, x4, x5⟩, _⟩ := bX2.six
      dsimp only at x0 x1 x2 x3 x4 x5
      clear O5 B2 B3 hb5 bX HF HR HO HL hbw c0 c1 c2 c3 c4 c5 hwa hal HE hE5 hE hNa hNw
      go_region_with (go_at_call 37; refine (ownInode_any ⟨xi, xk, xl, xd, xp, .slice ae ne ce, xn⟩ _ hE6 q1 q2 q3).mono ?_; rintro e w5 ⟨y, rfl, hown, b5⟩; obtain ⟨ay, cy', rfl⟩ := own_slice hown; have O7 := own_keep O6 b5; obtain ⟨W', hW', O8, hg8⟩ := own_put6 O7 hkL ⟨xi, xk, xl, xd, xp, .slice ay xn.length cy', xn⟩; obtain ⟨y0, y1, y2, y3, y4, y5⟩ := own_at2 O7 hkL; have g0 := O7.frozenAt (k * 6); have g1 := O7.frozenAt (k * 6 + 1); have g2 := O7.frozenAt (k * 6 + 2); have g3 := O7.frozenAt (k * 6 + 3); have g4 := O7.frozenAt (k * 6 + 4); have g5 := O7.frozenAt (k * 6 + 5); have p5 := (B4.next b5).four.1.2.2.2)
      all_goals (go_wp2; go_roundg G)
      all_goals first | omega | (
        have hy := own_ents hown
        have hyg : EntsO w5 n₀ N ⟨xi, xk, xl, xd, xp, .slice ay xn.length cy', xn⟩ := ⟨hy, fun _ b hb => .inr (Nat.le_trans hNd (hown.lt b hb).1)⟩
        have hs5 := b5.size
        refine ⟨k + 1, L.set k ⟨xi, xk, xl, xd, xp, .slice ay xn.length cy', xn⟩, by omega, by go_num, below_grown (hb6.trans (b5.mono hb6.size)) hg8 (Nat.le_refl _) hwg, (B4.next b5).kept hg8 (by simp; omega), (B5.next b5).kept hg8 (by simp; omega), O8, ?_, Nat.le_trans (Nat.le_trans hNd b5.size) hg8.size, ?_⟩
        · rw [List.map_set, ← HMAP.out]
          apply List.ext_getElem?
          intro i
          rw [List.getElem?_set]
          split
          · rename_i e
            subst e
            rw [if_pos (by simpa using hkL), List.getElem?_map, List.getElem?_eq_getElem hkL, HX.out]
            rfl
          · rfl
        · intro x hx
          rcases List.mem_or_eq_of_mem_set hx with hx | rfl
          · exact ((HE6.out x hx).below b5).kept hg8 (Nat.le_trans hn₀ hwg) hgN
          · exact hyg.kept hg8 (Nat.le_trans hn₀ hwg) hgN)
    · obtain rfl : k = l.length := by omega
      obtain ⟨⟨p0, p1, p2, p3⟩, _⟩ := HF.out.four
      obtain ⟨⟨q0, q1, q2, q3⟩, e0, e1, e2, e3⟩ := HR.out.four
      obtain ⟨W', hW', hb4, hg4⟩ := HR.out.put4 (.int .i64 mi) (.int .i64 mb) (.int .i64 nx) (.slice ay l.length cy)
      have hbl := below_grown hbw hg4 (Nat.le_refl _) (by omega)
      have hown4 := HO.out.kept hg4 (.inr (HR.out.not_row (by decide) HO.out).symm)
      have hE4 : EntsAll W' L := fun x hx => ((HL.out.2.2 x hx).kept hg4 (by omega) HG.out.2.2).1
      have hmap := HL.out.1
      have hlo : ∀ x ∈ L, 0 < x.ents.length → ∀ b, x.ev.ownBlock = some b → b < n₀ ∨ w.heap.size ≤ b := fun x hx h0 b hb => ((HL.out.2.2 x hx).2 h0 b hb).imp id (fun h => by have := HG.out.2.2; omega)
      have HMM := Lib.hid (show _ ∧ _ from ⟨hmap, hlo⟩)
      clear hmap hlo
      clear HF HR HO HL hbw hg4
      go_wp2
      obtain ⟨⟨r0, r1, r2, r3⟩, _⟩ := hb4.four
      refine bodyPost_ret (v := .agg (fsC mi mb nx (.slice ay l.length cy))) (by simp [results, Try.f35, go_sem, r0, r1, r2, r3]) rfl ?_
      exact ⟨_, L, rfl, hown4, hE4, HMM.out.1, HMM.out.2, hbl⟩
end Go.Proofs.Ytneklkjlcpgdgaa
