/- Walks: Paths. -/
import Derived.Test.YtneklkjlcpgdgaaQWalkE08
namespace Go.Proofs.Ytneklkjlcpgdgaa
open Go.RowKit Go.Shelf
attribute [local go_sem] Oper.semAt_some

def selS (i : Int) (xs : List St8) : List (List UInt8) := (xs.filter (fun e => e.x.ino == i)).map (fun e => joinB e.ns)
theorem selS_snoc (i : Int) (xs : List St8) (e : St8) : selS i (xs ++ [e]) = if e.x.ino == i then selS i xs ++ [joinB e.ns] else selS i xs := by
  unfold selS
  rw [List.filter_append]
  cases h : (e.x.ino == i) <;> simp [h]
theorem selS_end {l : List Nd} (t : Tree l) {xs : List St8} (h : xs.map keyS = walkS l 1 []) (i : Int) : selS i xs = pathsN l i := by
  have e1 : listN l = xs.map (fun e => (joinB e.ns, e.x.ino)) := by
    have := walk_below t 1 (p := [47]) rfl
    rw [show namesB [47] = [] from rfl, ← h, List.map_map] at this
    exact this.symm
  unfold selS pathsN
  rw [e1, List.filter_map, List.map_map]
  rfl
theorem selS_len (i : Int) (xs : List St8) : (selS i xs).length ≤ xs.length := by
  unfold selS; rw [List.length_map]; exact List.length_filter_le _ _

set_option maxRecDepth 100000 in
set_option maxHeartbeats 4000000 in
theorem PathsW_any (mi mb nx : Int) (l : List Nd) (t : Tree l) (hsh : ∀ x ∈ l, shortP 300 x.ents) (hl : l.length ≤ 100) (v : Value) (w : World) (hv : Nds w v l) (ino : Int) (hlen : (walkS l 1 []).length ≤ 1000000) :
    Calls Try.prog 19 #[.agg (fsC mi mb nx v), .int .i64 ino] w fun e w' => ∃ y, e = .returned y ∧ w'.ownsRow w.heap.size 9 1 y (pathsN l ino).length (strsV (pathsN l ino)) ∧ Below w.heap.size w w' := by
  obtain ⟨is, hsi, hs0, hs1, hs2⟩ := info_parts Try.infoS
  obtain ⟨af, cf, rfl⟩ := nds_slice hv
  have hmx : Try.prog.follows .mixedOrders = true := by kernel_rfl
  refine (callsIn_wide (n := 6)).1 ?_
  (refine callsIn_of_wp_marks Try.func19 rfl trivial ?_ rfl; simp only [Try.ntmps19, List.size_toArray, List.length_cons, List.length_nil, Nat.reduceAdd, Nat.reduceSub, Array.replicate_succ, Array.replicate_zero, List.push_toArray, List.append_toArray, List.nil_append, List.cons_append])
  gi_upto_region 2 with fail
  have bF := ((Blk.new w 24 (fsC mi mb nx (.slice af l.length cf))).alloc (.cells #[.int .i64 ino] 3)).alloc (.cells #[.slice none 0 0] 27)
  have bI := (Blk.new (w.alloc (.cells (fsC mi mb nx (.slice af l.length cf)) 24)) 3 #[.int .i64 ino]).alloc (.cells #[.slice none 0 0] 27)
  have bA := Blk.new ((w.alloc (.cells (fsC mi mb nx (.slice af l.length cf)) 24)).alloc (.cells #[.int .i64 ino] 3)) 27 #[.slice none 0 0]
  simp only [World.size_alloc] at bA bI
  have hB0 : Below w.heap.size w (((w.alloc (.cells (fsC mi mb nx (.slice af l.length cf)) 24)).alloc (.cells #[.int .i64 ino] 3)).alloc (.cells #[.slice none 0 0] 27)) := (((Below.refl _ w).alloc (Nat.le_refl _) _).alloc (by simp) _).alloc (by simp; omega) _
  have hs2 : (((w.alloc (.cells (fsC mi mb nx (.slice af l.length cf)) 24)).alloc (.cells #[.int .i64 ino] 3)).alloc (.cells #[.slice none 0 0] 27)).heap.size = w.heap.size + 3 := by simp
  generalize ((w.alloc (.cells (fsC mi mb nx (.slice af l.length cf)) 24)).alloc (.cells #[.int .i64 ino] 3)).alloc (.cells #[.slice none 0 0] 27) = w2 at *
  have hs3 : w.heap.size + 2 < w2.heap.size := by omega
  clear hs2
  have HT := Lib.hid t
  have HHS := Lib.hid hsh
  have HLN := Lib.hid hlen
  clear t hsh hlen
  obtain ⟨⟨p0, p1, p2, p3⟩, _⟩ := bF.four
  gi_wp2_with fail
  refine ⟨trivial, ?_⟩
  gi_at_call 29
  refine (callsIn_wide.2 (steps_any mi mb nx 1 _ none 0 0 _)).mono ?_
  rintro e w5 ⟨rfl, hw5⟩
  obtain ⟨b5, bf5, bi5, bn5⟩ := steps_blocks hw5
  clear hw5 p0 p1 p2 p3
  have bA5 := bA.next b5
  have bI5 := bI.next b5
  have hB5 := hB0.trans (b5.mono hB0.size)
  have h35 : w2.heap.size + 2 < w5.heap.size := bn5.lt
  clear bA bI bF hB0 b5
  gi_wp2
  refine wpIn_rangeFunc_mine rfl (by omega) (gf := 48) (lb := #[.pointer (some ⟨w2.heap.size, 0, none⟩), .pointer (some ⟨w2.heap.size + 1, 0, none⟩), .pointer (some ⟨w2.heap.size + 2, 0, none⟩)]) rfl trivial (enters_of Try.func48 (by kernel_rfl) rfl)
    (steps_stops (6 - 1) (by omega) mi mb nx l HT.out HHS.out hl _ w hv 1 [] none 0 0 w2.heap.size (by simp) (by simp [tailB]) (Nat.le_refl _) (Nat.zero_le _) (fun _ => ⟨rfl, rfl⟩) w5 hB5 bf5 bi5 bn5 (Strs.nil_ _) (fun g hg => by simp [Value.ownBlock] at hg))
    hB5.size (fun k hk => hk.elim (fun h => by omega) (fun h => by simp [Value.ownBlock] at h)) (Below.refl _ _) (fun _ => rfl)
    (fun m pre W => RowI w w.heap.size (w.heap.size + 2) 27 9 1 (fun pre => (selS ino pre).length) (fun pre => strsV (selS ino pre)) m pre W ∧ BlkI (w.heap.size + 1) 3 #[.int .i64 ino] m pre W) (fun _ _ _ _ => False)
    ((RowI.abides (Nat.le_refl _)).and BlkI.abides) (fun _ _ _ _ _ _ h _ _ => h) ((RowI.book (Nat.le_refl _) hB5.size).and BlkI.book) (fun _ _ _ _ _ _ h _ _ => h)
    ⟨⟨⟨_, bA5, World.ownsRow_nil _ _ _ _, fun h => h.elim (fun h => by omega) (fun h => by simp [Value.ownBlock] at h), fun g hg => by simp [Value.ownBlock] at hg⟩, hB5, fun r h => h.elim (fun h => by omega) (fun h => by simp [Value.ownBlock] at h)⟩, bI5, fun h => h.elim (fun h => by omega) (fun h => by simp [Value.ownBlock] at h)⟩
    (fun x a' W => RdS l x W ∧ ∃ Bx, w.heap.size ≤ Bx ∧ Blk W Bx 41 (ndC x.x) ∧ a' = { tmps := #[.agg (fsC mi mb nx (.slice af l.length cf)), .int .i64 ino, .pointer (some ⟨w.heap.size, 0, none⟩), .pointer (some ⟨w.heap.size + 1, 0, none⟩), .slice none 0 0, .pointer (some ⟨w.heap.size + 2, 0, none⟩), x.v, .pointer (some ⟨Bx, 0, none⟩),
      .agg #[.int .i64 mi, .int .i64 mb, .int .i64 nx, .slice af l.length cf],
      .func (.func 48) #[] #[.pointer (some ⟨w2.heap.size, 0, none⟩), .pointer (some ⟨w2.heap.size + 1, 0, none⟩), .pointer (some ⟨w2.heap.size + 2, 0, none⟩)], x.v, .agg (ndC x.x), undef, undef, undef, undef, undef, undef, undef, undef, undef, undef], defers := [] })
    (fun x a' => (Own.from (fun s A B row hs hg hr => ⟨⟨strs_own x.v x.ns () A B row hs.1.1 hg hr, hs.1.2⟩, by obtain ⟨Bx, h1, h2, h3⟩ := hs.2; exact ⟨Bx, h1, blk_own (β := Unit) Bx _ (fun _ => ndC x.x) () A B row h2 hg hr, h3⟩⟩) _)) ?assign ?body ?done ?stop
  case assign =>
    intro l' m pre x W K hl' hI hRd hms hsz hK
    obtain ⟨xns, xv, xi, xk, xl, xd, xp, xe, xn⟩ := x
    obtain ⟨ae, ce, hxe, _⟩ := hv.all _ hRd.2.1
    dsimp only at hxe
    subst hxe
    gi_wp2
    exact hK _ _ ((KeepsOthers.alloc W _).from _) (KeptM.of_below (alloc_below W _) (by have := hI.1.2.1.size; omega) hms) (((RowI.abides (Nat.le_refl _)).and BlkI.abides) m m pre W _ hI (Turned.of_below (alloc_below W _)) (fun r h => .inl h)) ⟨⟨hRd.1.below (alloc_below W _), hRd.2⟩, W.heap.size, hI.1.2.1.size, Blk.new W _ _, rfl⟩
  case body =>
    rintro l' m pre x a' W rfl ⟨rl, hrl⟩ hD hmD hml hms ⟨⟨⟨vv, hvv, hrow, hmB, hmv⟩, hBW, hmn⟩, bI, hmI⟩ ⟨hRd, Bx, hBx, bX, rfl⟩ hpre
    obtain ⟨xns, xv, xi, xk, xl, xd, xp, xe, xn⟩ := x
    obtain ⟨hst, hxl, hxn, hxt⟩ := hRd
    dsimp only at hst hxl hxn hxt bX hrow
    obtain ⟨av, cv, rfl⟩ := own_slice hrow
    have hnw : w.heap.size ≤ W.heap.size := hBW.size
    have cI := (bI.cell 0).trans (rfl : _ = some (Value.int .i64 ino))
    have cX := (bX.cell 0).trans (rfl : _ = some (Value.int .i64 xi))
    have hlnn := HLN.out
    have hsl := selS_len ino pre
    cases hx : (xi == ino)
    · gi_wp2
      exact ⟨⟨rfl, rfl⟩, KeptM.refl _ _ _, ⟨⟨_, hvv, by dsimp only; rw [selS_snoc, if_neg (by rw [hx]; simp)]; exact hrow, hmB, hmv⟩, hBW, hmn⟩, bI, hmI⟩
    · have HX := Lib.hid hx
      have hjn := Join_any xns xv W.drew hst (by omega) (by have := interB_len_tail xns; omega)
      have cA := (hvv.cell 0).trans (rfl : _ = some (Value.slice av (selS ino pre).length cv))
      gi_upto_region 6 with fail
      (refine wpIn_region_heldG (fun _ => True) (by kernel_rfl) (trivial) (fun hHeld => ?_))
      (refine takeG 1 (some 17) (v := ?_) (fun _ => trivial) (by kernel_rfl) rfl rfl (by kernel_rfl) (by kernel_rfl) (by kernel_rfl) (fun _ _ _ h => h) (by rfl) ?_ (by assumption) ?_; rotate_left; (focus (intro w hSw; (try dsimp only at hSw); go_simp; try with_reducible rfl)); (try simp only [Act.put, List.setIfInBounds_toArray, List.set_cons_zero, List.set_cons_succ]))
      (refine readyG (rs := [0, 2]) (by kernel_rfl) (by simp) ?_; refine AllReadyG.cons rfl (fun K hK => ?_) (AllReadyG.cons rfl (fun K hK => ?_) AllReadyG.nil))
      · (go_simp; skip; (try dsimp only); refine hK.out _ _ (trivial) (fun hHeld => ?_); clear hK K; (try simp only [Act.put, List.setIfInBounds_toArray, List.set_cons_zero, List.set_cons_succ]))
        (refine readyG (rs := [2]) (by kernel_rfl) (by simp) ?_; refine AllReadyG.cons rfl (fun K hK => ?_) AllReadyG.nil; go_simp; (refine ⟨trivial, ?_⟩; refine (CallsIn.inRound _ (callsIn_wide.2 hjn)).mono ?_; rintro e w2j ⟨rfl, b2⟩; replace b2 := ((Below.refl W.heap.size W).drew).trans b2); (try dsimp only); refine hK.out _ _ (trivial) (fun hHeld => ?_); clear hK K; (try simp only [Act.put, List.setIfInBounds_toArray, List.set_cons_zero, List.set_cons_succ]))
        (refine readyG (rs := [3]) (by kernel_rfl) (by simp) ?_; refine AllReadyG.cons rfl (fun K hK => ?_) AllReadyG.nil; go_simp; skip; (try dsimp only); refine hK.out _ _ (trivial) (fun hHeld => ?_); clear hK K; (try simp only [Act.put, List.setIfInBounds_toArray, List.set_cons_zero, List.set_cons_succ]))
        (refine readyG (rs := [4]) (by kernel_rfl) (by simp) ?_; refine AllReadyG.cons rfl (fun K hK => ?_) AllReadyG.nil; (refine stepG_append_here rfl (.tmp 16) (.tmp 19) 27 9 rfl Try.underlying27 hsi hs0 hs1 hs2 rfl (by decide) (by decide) w.heap.size (v := .slice av (selS ino pre).length cv) ⟨w2j.heap.size, 0, none⟩ 1 [.string ⟨(joinB xns).toArray⟩] rfl rfl ((own_keep hrow b2).alloc _) rfl (cell_one_new _ _ _) (by simp [Value.oneCell']) (by omega) (by have := b2.size; simp; omega) ?_; intro v9 w9 hown9 hgr9 hnew9; obtain ⟨g9, c9, rfl⟩ := ownsRow_succ hown9); (try dsimp only); refine hK.out _ _ (trivial) (fun hHeld => ?_); clear hK K; (try simp only [Act.put, List.setIfInBounds_toArray, List.set_cons_zero, List.set_cons_succ]))
        obtain ⟨k1, k2, k3⟩ := boxrow_next (m := m) (by decide) hvv hrow hmB hmv hms hnw (by omega) b2 hown9 hgr9 hnew9
        have hA9 := ((hvv.next b2).alloc (.cells #[.string ⟨(joinB xns).toArray⟩] 9)).kept hgr9 ((hvv.next b2).not_row (by decide) (own_keep hrow b2))
        have cA9 := (hA9.cell 0).trans (rfl : _ = some (Value.slice av (selS ino pre).length cv))
        have fA9 := hA9.frozen 0
        have bI9 := ((bI.next b2).alloc (.cells #[.string ⟨(joinB xns).toArray⟩] 9)).kept hgr9 ((bI.next b2).not_row (by decide) (own_keep hrow b2))
        have bIe := bI9.other (B2 := w.heap.size + 2) (i := 0) (by omega) (.slice (some ⟨g9, 0, none⟩) ((selS ino pre).length + 1) c9)
        (refine readyG (rs := [5]) (by kernel_rfl) (by simp) ?_; refine AllReadyG.cons rfl (fun K hK => ?_) AllReadyG.nil; go_simp; skip; (try dsimp only); refine hK.out _ _ (trivial) (fun hHeld => ?_); clear hK K; (try simp only [Act.put, List.setIfInBounds_toArray, List.set_cons_zero, List.set_cons_succ]))
        refine doneG (by kernel_rfl) ?_ _
        clear hHeld
        gi_wp2
        refine ⟨⟨(k1.same _ _ hD rfl).trans hD.symm, (k1.same _ _ hrl rfl).trans hrl.symm⟩, k2, ⟨?_, hBW.trans k2.below, hmn⟩, bIe, hmI⟩
        have hsn : selS ino (pre ++ [⟨xns, xv, ⟨xi, xk, xl, xd, xp, xe, xn⟩⟩]) = selS ino pre ++ [joinB xns] := by rw [selS_snoc, if_pos HX.out]
        dsimp only
        rw [hsn]
        simpa [strsV] using k3
      · (go_simp; (refine ⟨trivial, ?_⟩; refine (CallsIn.inRound _ (callsIn_wide.2 hjn)).mono ?_; rintro e w2j ⟨rfl, b2⟩; replace b2 := ((Below.refl W.heap.size W).drew).trans b2; have cA := ((hvv.next b2).cell 0).trans (rfl : _ = some (Value.slice av (selS ino pre).length cv))); (try dsimp only); refine hK.out _ _ (trivial) (fun hHeld => ?_); clear hK K; (try simp only [Act.put, List.setIfInBounds_toArray, List.set_cons_zero, List.set_cons_succ]))
        have cA2 := (((hvv.next b2).alloc (.cells #[.string ⟨(joinB xns).toArray⟩] 9)).cell 0).trans (rfl : _ = some (Value.slice av (selS ino pre).length cv))
        (refine readyG (rs := [0, 3]) (by kernel_rfl) (by simp) ?_; refine AllReadyG.cons rfl (fun K hK => ?_) (AllReadyG.cons rfl (fun K hK => ?_) AllReadyG.nil))
        · (go_simp; skip; (try dsimp only); refine hK.out _ _ (trivial) (fun hHeld => ?_); clear hK K; (try simp only [Act.put, List.setIfInBounds_toArray, List.set_cons_zero, List.set_cons_succ]))
          (refine readyG (rs := [3]) (by kernel_rfl) (by simp) ?_; refine AllReadyG.cons rfl (fun K hK => ?_) AllReadyG.nil; go_simp; skip; (try dsimp only); refine hK.out _ _ (trivial) (fun hHeld => ?_); clear hK K; (try simp only [Act.put, List.setIfInBounds_toArray, List.set_cons_zero, List.set_cons_succ]))
          (refine readyG (rs := [4]) (by kernel_rfl) (by simp) ?_; refine AllReadyG.cons rfl (fun K hK => ?_) AllReadyG.nil; (refine stepG_append_here rfl (.tmp 16) (.tmp 19) 27 9 rfl Try.underlying27 hsi hs0 hs1 hs2 rfl (by decide) (by decide) w.heap.size (v := .slice av (selS ino pre).length cv) ⟨w2j.heap.size, 0, none⟩ 1 [.string ⟨(joinB xns).toArray⟩] rfl rfl ((own_keep hrow b2).alloc _) rfl (cell_one_new _ _ _) (by simp [Value.oneCell']) (by omega) (by have := b2.size; simp; omega) ?_; intro v9 w9 hown9 hgr9 hnew9; obtain ⟨g9, c9, rfl⟩ := ownsRow_succ hown9); (try dsimp only); refine hK.out _ _ (trivial) (fun hHeld => ?_); clear hK K; (try simp only [Act.put, List.setIfInBounds_toArray, List.set_cons_zero, List.set_cons_succ]))
          obtain ⟨k1, k2, k3⟩ := boxrow_next (m := m) (by decide) hvv hrow hmB hmv hms hnw (by omega) b2 hown9 hgr9 hnew9
          have hA9 := ((hvv.next b2).alloc (.cells #[.string ⟨(joinB xns).toArray⟩] 9)).kept hgr9 ((hvv.next b2).not_row (by decide) (own_keep hrow b2))
          have cA9 := (hA9.cell 0).trans (rfl : _ = some (Value.slice av (selS ino pre).length cv))
          have fA9 := hA9.frozen 0
          have bI9 := ((bI.next b2).alloc (.cells #[.string ⟨(joinB xns).toArray⟩] 9)).kept hgr9 ((bI.next b2).not_row (by decide) (own_keep hrow b2))
          have bIe := bI9.other (B2 := w.heap.size + 2) (i := 0) (by omega) (.slice (some ⟨g9, 0, none⟩) ((selS ino pre).length + 1) c9)
          (refine readyG (rs := [5]) (by kernel_rfl) (by simp) ?_; refine AllReadyG.cons rfl (fun K hK => ?_) AllReadyG.nil; go_simp; skip; (try dsimp only); refine hK.out _ _ (trivial) (fun hHeld => ?_); clear hK K; (try simp only [Act.put, List.setIfInBounds_toArray, List.set_cons_zero, List.set_cons_succ]))
          refine doneG (by kernel_rfl) ?_ _
          clear hHeld
          gi_wp2
          refine ⟨⟨(k1.same _ _ hD rfl).trans hD.symm, (k1.same _ _ hrl rfl).trans hrl.symm⟩, k2, ⟨?_, hBW.trans k2.below, hmn⟩, bIe, hmI⟩
          have hsn : selS ino (pre ++ [⟨xns, xv, ⟨xi, xk, xl, xd, xp, xe, xn⟩⟩]) = selS ino pre ++ [joinB xns] := by rw [selS_snoc, if_pos HX.out]
          dsimp only
          rw [hsn]
          simpa [strsV] using k3
        · (go_simp; skip; (try dsimp only); refine hK.out _ _ (trivial) (fun hHeld => ?_); clear hK K; (try simp only [Act.put, List.setIfInBounds_toArray, List.set_cons_zero, List.set_cons_succ]))
          (refine readyG (rs := [0]) (by kernel_rfl) (by simp) ?_; refine AllReadyG.cons rfl (fun K hK => ?_) AllReadyG.nil; go_simp; skip; (try dsimp only); refine hK.out _ _ (trivial) (fun hHeld => ?_); clear hK K; (try simp only [Act.put, List.setIfInBounds_toArray, List.set_cons_zero, List.set_cons_succ]))
          (refine readyG (rs := [4]) (by kernel_rfl) (by simp) ?_; refine AllReadyG.cons rfl (fun K hK => ?_) AllReadyG.nil; (refine stepG_append_here rfl (.tmp 16) (.tmp 19) 27 9 rfl Try.underlying27 hsi hs0 hs1 hs2 rfl (by decide) (by decide) w.heap.size (v := .slice av (selS ino pre).length cv) ⟨w2j.heap.size, 0, none⟩ 1 [.string ⟨(joinB xns).toArray⟩] rfl rfl ((own_keep hrow b2).alloc _) rfl (cell_one_new _ _ _) (by simp [Value.oneCell']) (by omega) (by have := b2.size; simp; omega) ?_; intro v9 w9 hown9 hgr9 hnew9; obtain ⟨g9, c9, rfl⟩ := ownsRow_succ hown9); (try dsimp only); refine hK.out _ _ (trivial) (fun hHeld => ?_); clear hK K; (try simp only [Act.put, List.setIfInBounds_toArray, List.set_cons_zero, List.set_cons_succ]))
          obtain ⟨k1, k2, k3⟩ := boxrow_next (m := m) (by decide) hvv hrow hmB hmv hms hnw (by omega) b2 hown9 hgr9 hnew9
          have hA9 := ((hvv.next b2).alloc (.cells #[.string ⟨(joinB xns).toArray⟩] 9)).kept hgr9 ((hvv.next b2).not_row (by decide) (own_keep hrow b2))
          have cA9 := (hA9.cell 0).trans (rfl : _ = some (Value.slice av (selS ino pre).length cv))
          have fA9 := hA9.frozen 0
          have bI9 := ((bI.next b2).alloc (.cells #[.string ⟨(joinB xns).toArray⟩] 9)).kept hgr9 ((bI.next b2).not_row (by decide) (own_keep hrow b2))
          have bIe := bI9.other (B2 := w.heap.size + 2) (i := 0) (by omega) (.slice (some ⟨g9, 0, none⟩) ((selS ino pre).length + 1) c9)
          (refine readyG (rs := [5]) (by kernel_rfl) (by simp) ?_; refine AllReadyG.cons rfl (fun K hK => ?_) AllReadyG.nil; go_simp; skip; (try dsimp only); refine hK.out _ _ (trivial) (fun hHeld => ?_); clear hK K; (try simp only [Act.put, List.setIfInBounds_toArray, List.set_cons_zero, List.set_cons_succ]))
          refine doneG (by kernel_rfl) ?_ _
          clear hHeld
          gi_wp2
          refine ⟨⟨(k1.same _ _ hD rfl).trans hD.symm, (k1.same _ _ hrl rfl).trans hrl.symm⟩, k2, ⟨?_, hBW.trans k2.below, hmn⟩, bIe, hmI⟩
          have hsn : selS ino (pre ++ [⟨xns, xv, ⟨xi, xk, xl, xd, xp, xe, xn⟩⟩]) = selS ino pre ++ [joinB xns] := by rw [selS_snoc, if_pos HX.out]
          dsimp only
          rw [hsn]
          simpa [strsV] using k3
  case done =>
    rintro m xs W hxs ⟨⟨⟨vv, hvv, hrow, hmB, hmv⟩, hBW, hmn⟩, bI, hmI⟩ hmD hml hD
    dsimp only at hrow ⊢
    rw [selS_end HT.out hxs] at hrow
    clear hxs
    obtain ⟨av, cv, rfl⟩ := own_slice hrow
    have cA := (hvv.cell 0).trans (rfl : _ = some (Value.slice av (pathsN l ino).length cv))
    gi_wp2
    refine ⟨by simp, .inl ⟨_, _, rfl, run_takeDeferred hD, ?_⟩⟩
    refine ⟨_, results_tmp rfl _ _ _, _, rfl, ownsRow_putObj hrow _ hD rfl, hBW.trans (belowK_b (w := w) (Nat.le_refl _) W w5.heap.size _ _ hB5.size hD rfl rfl)⟩
  case stop => intro c m pre W _ h; exact h.elim
end Go.Proofs.Ytneklkjlcpgdgaa
