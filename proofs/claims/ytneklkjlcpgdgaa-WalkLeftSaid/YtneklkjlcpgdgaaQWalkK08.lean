/- Walks: the iterator that All answers. -/
import Derived.Test.YtneklkjlcpgdgaaQWalkJ08
import Derived.Test.YtneklkjlcpgdgaaQWalkF08
namespace Go.Proofs.Ytneklkjlcpgdgaa
open Go.RowKit Go.Shelf
attribute [local go_sem] Oper.semAt_some

theorem steps2_stops (n : Nat) (hn : 2 ≤ n) (mi mb nx : Int) (l : List Nd) (t : Tree l) (hsh : ∀ x ∈ l, shortP 300 x.ents) (hl : l.length ≤ 100) (fv : Value) (w0 : World) (n₀ : Nat) (mt : Nat → Prop) (hvT : ∀ X, Bel n₀ mt w0 X → Nds X fv l)
    (hmlt : ∀ k, mt k → k < w0.heap.size) (B : Nat) (w : World) (hB : Bel n₀ mt w0 w) (bf : Blk w B 24 (fsC mi mb nx fv)) (bi : Blk w (B + 1) 3 #[.int .i64 1]) (bn : Blk w (B + 2) 27 #[.slice none 0 0]) :
    SeqM Fence.wide n Try.prog 48 #[.pointer (some ⟨B, 0, none⟩), .pointer (some ⟨B + 1, 0, none⟩), .pointer (some ⟨B + 2, 0, none⟩)] stV n₀ (fun k => mt k ∨ (B ≤ k ∧ k < B + 3)) (RdS2 l)
      (fun xs => xs.map keyS = walkS l 1 []) (fun pre => pre.map keyS <+: walkS l 1 []) (walkS l 1 []).length w := by
  intro lr J Jx W hW hJ hJx hY h0
  exact steps2_in n hn mi mb nx l t hsh hl fv w0 n₀ mt hvT 1 [] none 0 0 B (B + 1) (B + 2) _ (by simp) (by simp [tailB]) (Nat.le_refl _) (Nat.zero_le _) (fun _ => ⟨rfl, rfl⟩) (fun k h => .inl h) (.inr ⟨by omega, by omega⟩) (.inr ⟨by omega, by omega⟩) lr J Jx hJ hY W
    (hB.trans (hW.mono hB.size)) (bf.next hW) (bi.next hW) (bn.next hW) (Strs.nil_ _) (fun g hg => by simp [Value.ownBlock] at hg) (fun k hk => hk.elim (fun h => by have := hmlt k h; have := hB.size; have := hW.size; omega) (fun h => by have := bn.lt; have := hW.size; omega)) h0

abbrev encA (e : List UInt8 × Nd) : Array Value := #[.string ⟨e.1.toArray⟩, .agg (ndC e.2)]
def keyA (e : List UInt8 × Nd) : Ent := (e.1, e.2.ino)
def RdA (l : List Nd) (e : List UInt8 × Nd) (W : World) : Prop := e.1.length ≤ 200000 ∧ Ents W e.2.ev e.2.ents ∧ ∃ z ∈ l, bare e.2 = bare z

theorem ents_own (v : Value) (l : List Ent) : Own (fun (_ : Unit) W => Ents W v l) := by
  rintro _ A B row ⟨a, c, rfl, h1, h2, h3⟩ hg hr
  refine ⟨a, c, rfl, h1, h2, fun hl => ?_⟩
  obtain ⟨b, off, rfl, hlt, hc⟩ := h3 hl
  exact ⟨b, off, rfl, Nat.lt_of_lt_of_le hlt hg.size, fun i hi => ⟨cell_kept (hc i hi).1 hg hr, cell_kept (hc i hi).2 hg hr⟩⟩

/-- The outer caller's invariant, as the loop within carries it. -/
def InA (J : (Nat → Prop) → List (List UInt8 × Nd) → World → Prop) (mb : Nat → Prop) (YB : Nat) (t : TypeId) (lr Ws : Nat) (m : Nat → Prop) (pre : List St8) (W : World) : Prop :=
  ∃ preO mJ, J mJ preO W ∧ preO.map keyA = pre.map seenS ∧ (∀ k, mb k ∨ m k → mJ k) ∧ Blk W YB t #[.func (.yield lr) #[] #[]] ∧ ¬ m YB ∧ Ws ≤ W.heap.size
section
variable {J : (Nat → Prop) → List (List UInt8 × Nd) → World → Prop} {mb : Nat → Prop} {YB : Nat} {t : TypeId} {lr Ws : Nat}
theorem InA.abides (hJ : AbidesM J) : AbidesM (InA J mb YB t lr Ws) := by
  rintro m m' s A B ⟨preO, mJ, hj, he, hs, hb, hn, hw⟩ hT hmm
  have hT' : Turned mJ A B := ⟨hT.os, hT.tape, hT.output, hT.size, fun k hk h => hT.block k hk (fun e => h (hs k (.inr e)))⟩
  exact ⟨preO, fun r => mJ r ∨ m' r, hJ mJ _ preO A B hj hT' (fun r h => h.elim .inl (fun h => (hmm r h).imp (fun h => hs r (.inr h)) id)), he, fun k h => h.elim (fun h => .inl (hs k (.inl h))) .inr, hT.blk hb hn, fun e => (hmm _ e).elim hn (by have := hb.lt; omega), Nat.le_trans hw hT.size⟩
theorem InA.book {D : Nat} (hJ : AbidesM J) (hD : mb D ∧ mb (D + 1)) : Book D (InA J mb YB t lr Ws) := by
  rintro m s A B row ⟨preO, mJ, hj, he, hs, hb, hn, hw⟩ hg hrow
  refine ⟨preO, mJ, hJ mJ _ preO A B hj (Turned.of_grown hg (fun r e => .inl (hs r (.inl ?_)))) (fun r h => .inl h), he, hs, hb.kept hg (fun e' => ?_), hn, Nat.le_trans hw hg.size⟩
  · rcases (hrow r e).1 with rfl | rfl
    · exact hD.1
    · exact hD.2
  · obtain ⟨_, o, ho, hc⟩ := hrow YB e'.symm
    rw [show A.heap[YB]? = _ from hb] at ho; cases ho; cases hc
end
theorem round_wide {n n' l l' : Nat} {P : Program} {f : FuncId} {tmps : Array Value} {assign body : Code} {w : World} {R : Ending → World → Prop} (h : RoundIn Fence.wide n P l f tmps assign body w R) : RoundIn (Fence.wide.inRound l') n' P l f tmps assign body w R :=
  ⟨trivial, fun c cs _ => h.2 c cs (room_wide _)⟩
theorem KeptM.sub {n₀ : Nat} {m m' : Nat → Prop} {A B : World} (h : KeptM n₀ m A B) (hm : ∀ k, m' k → m k) : KeptM n₀ m' A B := ⟨h.below, fun k hk => h.mine k (hm k hk)⟩
theorem list_walk {l : List Nd} (t : Tree l) : (walkS l 1 []).map (fun q => (joinB q.1, q.2)) = listN l := walk_below t 1 (p := [47]) rfl

set_option maxRecDepth 100000 in
set_option maxHeartbeats 4000000 in
theorem all1_stops (n : Nat) (hn : 3 ≤ n) (mi mb nx : Int) (l : List Nd) (t : Tree l) (hsh : ∀ x ∈ l, shortP 300 x.ents) (hl : l.length ≤ 100) (hda : ∀ x ∈ l, x.data.length ≤ 100000000) (hle : ∀ x ∈ l, x.ents.length ≤ 1000000) (fv : Value) (w0 : World) (n₀ : Nat) (mt : Nat → Prop) (hn₀ : n₀ ≤ w0.heap.size) (hvT : ∀ X, Bel n₀ mt w0 X → Nds X fv l)
    (hmlt : ∀ k, mt k → k < w0.heap.size) (B : Nat) (w : World) (hB : Bel n₀ mt w0 w) (bf : Blk w B 24 (fsC mi mb nx fv)) :
    SeqM Fence.wide n Try.prog 36 #[.pointer (some ⟨B, 0, none⟩)] encA n₀ mt (RdA l) (fun xs => xs.map keyA = listN l) (fun pre => pre.map keyA <+: listN l) (listN l).length w := by
  intro lr J Jx W hW hJ hJx hY h0
  obtain ⟨is, hsi, hs0, hs1, hs2⟩ := info_parts Try.infoS
  have hn1 : 1 ≤ n := by omega
  have hn3 : 1 ≤ n - 1 - 1 := by omega
  have hB := hB.trans (hW.mono hB.size)
  have bf := bf.next hW
  obtain ⟨af, cf, rfl⟩ := nds_slice (hvT w0 (Bel.refl _ _ _))
  have hmx : Try.prog.follows .mixedOrders = true := by kernel_rfl
  have hLW := list_walk t
  have hLN : (listN l).length = (walkS l 1 []).length := by rw [← hLW, List.length_map]
  have HLW := Lib.hid hLW
  have HLN := Lib.hid hLN
  clear hLW hLN
  (refine callsIn_of_wp_marks Try.func36 rfl trivial ?_ rfl; simp only [Try.ntmps36, List.size_toArray, List.length_cons, List.length_nil, Nat.reduceAdd, Nat.reduceSub, Array.replicate_succ, Array.replicate_zero, List.push_toArray, List.append_toArray, List.nil_append, List.cons_append])
  gi_upto_region 1 with fail
  have bF := bf.alloc (.cells #[.func (.yield lr) #[] #[]] 71)
  have bY := Blk.new W 71 #[.func (.yield lr) #[] #[]]
  have hal := alloc_below W (.cells #[.func (.yield lr) #[] #[]] 71)
  have hs2 : (W.alloc (.cells #[.func (.yield lr) #[] #[]] 71)).heap.size = W.heap.size + 1 := by simp
  generalize W.alloc (.cells #[.func (.yield lr) #[] #[]] 71) = w2 at *
  obtain ⟨⟨p0, p1, p2, p3⟩, _⟩ := bF.four
  gi_wp2_with fail
  refine ⟨trivial, ?_⟩
  gi_at_call 29
  refine (callsIn_wide.2 (steps_any mi mb nx 1 _ none 0 0 _)).mono ?_
  rintro e w5 ⟨rfl, hw5⟩
  obtain ⟨b5, bf5, bi5, bn5⟩ := steps_blocks hw5
  clear hw5 p0 p1 p2 p3
  have bY5 := bY.next b5
  have hb5 := hal.trans (b5.mono hal.size)
  have hB5 := hB.trans (hb5.mono hB.size)
  have h35 : w2.heap.size + 2 < w5.heap.size := bn5.lt
  have hw0W := hB.size
  have hHY := Lib.hid hY
  have HP := Lib.hid (show _ ∧ _ ∧ _ from ⟨hsh, hda, hle⟩)
  have h12 : W.heap.size < w2.heap.size := by omega
  clear hal bY bF bf hY hda hle hs2 b5
  gi_wp2
  refine wpIn_rangeFunc_mine rfl (by omega) (gf := 48) (lb := #[.pointer (some ⟨w2.heap.size, 0, none⟩), .pointer (some ⟨w2.heap.size + 1, 0, none⟩), .pointer (some ⟨w2.heap.size + 2, 0, none⟩)]) rfl trivial (enters_of Try.func48 (by kernel_rfl) rfl)
    (steps2_stops (n - 1) (by omega) mi mb nx l t hsh hl _ w0 n₀ mt hvT hmlt w2.heap.size w5 hB5 bf5 bi5 bn5)
    (by omega) (fun k hk => hk.elim (fun h => by have := hmlt k h; omega) (fun h => by omega)) (Below.refl _ _) (fun _ => rfl)
    (InA J (fun k => k = W.heap.size ∨ k = w5.heap.size ∨ k = w5.heap.size + 1) W.heap.size 71 lr W.heap.size)
    (fun c m pre V => c = .ret ∧ InA Jx (fun k => k = W.heap.size ∨ k = w5.heap.size ∨ k = w5.heap.size + 1) W.heap.size 71 lr W.heap.size m pre V)
    (InA.abides hJ) (fun c m m' s X Y h hT hm => ⟨h.1, InA.abides hJx m m' s X Y h.2 hT hm⟩) (InA.book hJ ⟨.inr (.inl rfl), .inr (.inr rfl)⟩) (fun c m s X Y row h hg hr => ⟨h.1, InA.book hJx ⟨.inr (.inl rfl), .inr (.inr rfl)⟩ m s X Y row h.2 hg hr⟩)
    ⟨[], fun k => mt k ∨ W.heap.size ≤ k, hJ mt _ [] W w5 h0 (Turned.of_below hb5) (fun r h => h), rfl, fun k h => h.elim (fun h => .inr (by have := hb5.size; omega)) (fun h => h.imp id (fun h => by omega)), bY5, fun h => h.elim (fun h => by have := hmlt _ h; omega) (fun h => by omega), hb5.size⟩
    (fun x a' V => RdS2 l x V ∧ ∃ Bx, W.heap.size ≤ Bx ∧ Blk V Bx 41 (ndC x.x) ∧ a' = { tmps := #[.func (.yield lr) #[] #[], .pointer (some ⟨B, 0, none⟩), .pointer (some ⟨W.heap.size, 0, none⟩), x.v, .pointer (some ⟨Bx, 0, none⟩),
      .agg #[.int .i64 mi, .int .i64 mb, .int .i64 nx, .slice af l.length cf], .func (.func 48) #[] #[.pointer (some ⟨w2.heap.size, 0, none⟩), .pointer (some ⟨w2.heap.size + 1, 0, none⟩), .pointer (some ⟨w2.heap.size + 2, 0, none⟩)], x.v, .agg (ndC x.x), undef, undef, undef, undef, undef, undef, undef], defers := [] })
    (fun x a' => (Own.from (fun s A B row hs hg hr => ⟨⟨⟨strs_own x.v x.ns () A B row hs.1.1.1 hg hr, hs.1.1.2⟩, ents_own x.x.ev x.x.ents () A B row hs.1.2 hg hr⟩, by obtain ⟨Bx, h1, h2, h3⟩ := hs.2; exact ⟨Bx, h1, blk_own (β := Unit) Bx _ (fun _ => ndC x.x) () A B row h2 hg hr, h3⟩⟩) _)) ?assign ?body ?done ?stop
  case assign =>
    intro l' m pre x V K hl' hI hRd hms hsz hK
    obtain ⟨xns, xv, xi, xk, xl, xd, xp, xe, xn⟩ := x
    obtain ⟨ae, ce, hxe, _⟩ := (hvT w0 (Bel.refl _ _ _)).all _ hRd.1.2.1
    dsimp only at hxe
    subst hxe
    have hVs : W.heap.size ≤ V.heap.size := by obtain ⟨_, _, _, _, _, _, _, h⟩ := hI; exact h
    gi_wp2
    exact hK _ _ ((KeepsOthers.alloc V _).from _) (KeptM.of_below (alloc_below V _) (by omega) hms) (InA.abides hJ m m pre V _ hI (Turned.of_below (alloc_below V _)) (fun r h => .inl h)) ⟨⟨⟨hRd.1.1.below (alloc_below V _), hRd.1.2⟩, hRd.2.below (alloc_below V _)⟩, V.heap.size, hVs, Blk.new V _ _, rfl⟩
  case body =>
    rintro l' m pre x a' W0 rfl ⟨rl, hrl⟩ hD hmD0 hml hms ⟨preO, mJ, hj, hpe, hs, bYr, hmY0, hW0⟩ ⟨hRd, Bx, hBx, bX, rfl⟩ hpre
    obtain ⟨xns, xv, xi, xk, xl, xd, xp, xe, xn⟩ := x
    obtain ⟨⟨hst, hxl, hxn, hxt⟩, hxe0⟩ := hRd
    dsimp only at hst hxl hxn hxt bX hxe0
    obtain ⟨ae, ce, hxe, _⟩ := id hxe0
    subst hxe
    have hYW : W0.cell? ⟨W.heap.size, 0, none⟩ = some (.func (.yield lr) #[] #[]) := (bYr.cell 0).trans rfl
    have HCY : Hid (∀ V, Below W0.heap.size W0 V → V.cell? ⟨W.heap.size, 0, none⟩ = some (.func (.yield lr) #[] #[])) := fun V h => (h.cell (p := ⟨W.heap.size, 0, none⟩) bYr.lt).trans hYW
    have HJN : Hid (∀ V, Below W0.heap.size W0 V → Calls Try.prog 28 #[xv] V fun e V' => e = .returned (.string ⟨(joinB xns).toArray⟩) ∧ Below V.heap.size V V') := fun V h => Join_any xns xv V (hst.below h) (by omega) (by have := interB_len_tail xns; omega)
    have HOI : Hid (∀ V, Below W0.heap.size W0 V → Calls Try.prog 37 #[.agg (ndC ⟨xi, xk, xl, xd, xp, .slice ae xn.length ce, xn⟩)] V fun e V' => ∃ y, e = .returned (.agg (ndC ⟨xi, xk, xl, xd, xp, y, xn⟩)) ∧ V'.ownsRow V.heap.size 55 2 y xn.length (entsV xn) ∧ Below V.heap.size V V') := fun V h =>
      ownInode_any ⟨xi, xk, xl, xd, xp, .slice ae xn.length ce, xn⟩ V (hxe0.below h) (HP.out.2.2 _ hxl) (HP.out.1 _ hxl) (HP.out.2.1 _ hxl)
    have hD5 : w5.heap.size < W0.heap.size := (Array.getElem?_eq_some_iff.1 hD).1
    have hL5 : w5.heap.size + 1 < W0.heap.size := (Array.getElem?_eq_some_iff.1 hrl).1
    have hmD : mJ w5.heap.size ∧ w5.heap.size < W0.heap.size := ⟨hs _ (.inl (.inr (.inl rfl))), hD5⟩
    have hmL : mJ (w5.heap.size + 1) ∧ w5.heap.size + 1 < W0.heap.size := ⟨hs _ (.inl (.inr (.inr rfl))), hL5⟩
    have hmY : mJ W.heap.size ∧ W.heap.size < W0.heap.size := ⟨hs _ (.inl (.inl rfl)), bYr.lt⟩
    have hmb : ∀ k, (k = W.heap.size ∨ k = w5.heap.size ∨ k = w5.heap.size + 1) → mJ k ∧ k < W0.heap.size := fun k h => by
      rcases h with rfl | rfl | rfl
      · exact hmY
      · exact hmD
      · exact hmL
    have hpO : preO.length < (listN l).length := by
      rw [HLN.out]
      have := congrArg List.length hpe
      simp only [List.length_map] at this
      omega
    have hq0 := (Below.refl W0.heap.size W0).drew
    dsimp only
    gi_upto_region 4 with fail
    (refine wpIn_region_heldG (fun V => V.cell? ⟨W.heap.size, 0, none⟩ = some (.func (.yield lr) #[] #[])) (by kernel_rfl) (HCY.out _ hq0) (fun hHeld => ?_))
    (refine takeG 0 (some 9) (v := ?_) (fun _ => trivial) (by kernel_rfl) rfl rfl (by kernel_rfl) (by kernel_rfl) (by kernel_rfl) (fun _ _ _ h => h) (by rfl) ?_ (by assumption) ?_; rotate_left; (focus (intro w hSw; (try dsimp only at hSw); go_simp; try with_reducible rfl)); (try simp only [Act.put, List.setIfInBounds_toArray, List.set_cons_zero, List.set_cons_succ]))
    (refine takeG 1 (some 10) (v := ?_) (fun _ => trivial) (by kernel_rfl) rfl rfl (by kernel_rfl) (by kernel_rfl) (by kernel_rfl) (fun _ _ _ h => h) (by rfl) ?_ (by assumption) ?_; rotate_left; (focus (intro w hSw; (try dsimp only at hSw); go_simp; try with_reducible rfl)); (try simp only [Act.put, List.setIfInBounds_toArray, List.set_cons_zero, List.set_cons_succ]))
    (refine readyG (rs := [2, 3]) (by kernel_rfl) (by simp) ?_; refine AllReadyG.cons rfl (fun K hK => ?_) (AllReadyG.cons rfl (fun K hK => ?_) AllReadyG.nil))
    · (go_simp; (refine ⟨trivial, ?_⟩; refine (CallsIn.inRound _ (callsIn_wide.2 (HJN.out _ hq0))).mono ?_; rintro e v1 ⟨rfl, b1⟩; have hq1 := hq0.trans (b1.mono hq0.size); obtain ⟨⟨x0, x1, x2, x3, x4, x5⟩, _⟩ := (bX.next hq1).six; dsimp only at x0 x1 x2 x3 x4 x5); (try dsimp only); refine hK.out _ _ (HCY.out _ hq1) (fun hHeld => ?_); clear hK K; (try simp only [Act.put, List.setIfInBounds_toArray, List.set_cons_zero, List.set_cons_succ]))
      (refine readyG (rs := [3]) (by kernel_rfl) (by simp) ?_; refine AllReadyG.cons rfl (fun K hK => ?_) AllReadyG.nil; go_simp; skip; (try dsimp only); refine hK.out _ _ (HCY.out _ hq1) (fun hHeld => ?_); clear hK K; (try simp only [Act.put, List.setIfInBounds_toArray, List.set_cons_zero, List.set_cons_succ]))
      clear x0 x1 x2 x3 x4 x5
      (refine readyG (rs := [4]) (by kernel_rfl) (by simp) ?_; refine AllReadyG.cons rfl (fun K hK => ?_) AllReadyG.nil; go_simp; (refine ⟨trivial, ?_⟩; refine (CallsIn.inRound _ (callsIn_wide.2 (HOI.out _ hq1))).mono ?_; rintro e v2 ⟨y, rfl, hown, b2⟩; have hq2 := hq1.trans (b2.mono hq1.size)); (try dsimp only); refine hK.out _ _ (HCY.out _ hq2) (fun hHeld => ?_); clear hK K; (try simp only [Act.put, List.setIfInBounds_toArray, List.set_cons_zero, List.set_cons_succ]))
      obtain ⟨ay, cy, rfl⟩ := own_slice hown
      have hk2 : KeptM n₀ (fun k => mJ k ∧ k < W0.heap.size) W0 v2 := KeptM.of_below hq2 (by omega) (fun k h => h.2)
      obtain ⟨fn, tmps, assign, body, hy0, hR⟩ := hHY.out (fun k => mJ k ∧ k < W0.heap.size) preO (joinB xns, ⟨xi, xk, xl, xd, xp, .slice ay xn.length cy, xn⟩) v2 (hJ mJ _ preO W0 v2 hj (Turned.of_below hq2) (fun r h => .inl h.1)) (fun k h => Nat.lt_of_lt_of_le h.2 hq2.size)
        ⟨by dsimp only; have := interB_len_tail xns; simp only [joinB, List.length_cons]; omega, own_ents hown, _, hxl, rfl⟩ hpO
      have hy : (Instr.yield lr #[.string ⟨(joinB xns).toArray⟩, .agg (ndC ⟨xi, xk, xl, xd, xp, .slice ay xn.length cy, xn⟩)]).run Try.prog v2 = .ok (.round lr fn tmps assign body) v2 := hy0
      clear hy0
      (refine readyG (rs := [5]) (by kernel_rfl) (by simp) ?_; refine AllReadyG.cons rfl (fun K hK => ?_) AllReadyG.nil; go_simp; (refine (round_wide hR).mono ?_; rintro e W4 ⟨b, rfl, hKe, hbT, hbF⟩); (try dsimp only); refine hK.out _ _ ((World.cell?_of_block (hKe.mine _ hmY)).trans (HCY.out _ hq2)) (fun hHeld => ?_); clear hK K; (try simp only [Act.put, List.setIfInBounds_toArray, List.set_cons_zero, List.set_cons_succ]))
      (refine takeG 6 (some 15) (v := ?_) (fun _ => trivial) (by kernel_rfl) rfl rfl (by kernel_rfl) (by kernel_rfl) (by kernel_rfl) (fun _ _ _ h => h) (by rfl) ?_ (by assumption) ?_; rotate_left; (focus (intro w hSw; (try dsimp only at hSw); go_simp; try with_reducible rfl)); (try simp only [Act.put, List.setIfInBounds_toArray, List.set_cons_zero, List.set_cons_succ]))
      refine doneG (by kernel_rfl) ?_ _
      clear hHeld hR hy
      have hD4 : W4.heap[w5.heap.size]? = W0.heap[w5.heap.size]? := (hKe.mine _ hmD).trans (hq2.block _ hD5)
      have hL4 : W4.heap[w5.heap.size + 1]? = W0.heap[w5.heap.size + 1]? := (hKe.mine _ hmL).trans (hq2.block _ hL5)
      have hkk := hk2.trans hKe
      have hms2 : ∀ k, m k → mJ k ∧ k < W0.heap.size := fun k hk => ⟨hs k (.inr hk), hms k hk⟩
      have bY4 : Blk W4 W.heap.size 71 #[.func (.yield lr) #[] #[]] := (hKe.mine _ hmY).trans (bYr.next hq2)
      cases b
      · have hj4 := hbF rfl
        clear hbT hbF
        gi_wp2
        exact ⟨⟨hD4, hL4⟩, hkk.sub hms2, rfl, _, _, hj4, by rw [List.map_append, List.map_append, hpe]; rfl, fun k h => h.elim (fun h => hmb k h) (fun h => hms2 k h), bY4, hmY0, by have := hkk.below.size; omega⟩
      · have hj4 := hbT rfl
        clear hbT hbF
        gi_wp2
        exact ⟨⟨hD4, hL4⟩, hkk.sub hms2, _, _, hj4, by rw [List.map_append, List.map_append, hpe]; rfl, fun k h => h.elim (fun h => hmb k h) (fun h => hms2 k h), bY4, hmY0, by have := hkk.below.size; omega⟩
    · obtain ⟨⟨x0, x1, x2, x3, x4, x5⟩, _⟩ := (bX.next hq0).six
      dsimp only at x0 x1 x2 x3 x4 x5
      (go_simp; skip; (try dsimp only); refine hK.out _ _ (HCY.out _ hq0) (fun hHeld => ?_); clear hK K; (try simp only [Act.put, List.setIfInBounds_toArray, List.set_cons_zero, List.set_cons_succ]))
      clear x0 x1 x2 x3 x4 x5
      (refine readyG (rs := [2]) (by kernel_rfl) (by simp) ?_; refine AllReadyG.cons rfl (fun K hK => ?_) AllReadyG.nil; go_simp; (refine ⟨trivial, ?_⟩; refine (CallsIn.inRound _ (callsIn_wide.2 (HJN.out _ hq0))).mono ?_; rintro e v1 ⟨rfl, b1⟩; have hq1 := hq0.trans (b1.mono hq0.size)); (try dsimp only); refine hK.out _ _ (HCY.out _ hq1) (fun hHeld => ?_); clear hK K; (try simp only [Act.put, List.setIfInBounds_toArray, List.set_cons_zero, List.set_cons_succ]))
      (refine readyG (rs := [4]) (by kernel_rfl) (by simp) ?_; refine AllReadyG.cons rfl (fun K hK => ?_) AllReadyG.nil; go_simp; (refine ⟨trivial, ?_⟩; refine (CallsIn.inRound _ (callsIn_wide.2 (HOI.out _ hq1))).mono ?_; rintro e v2 ⟨y, rfl, hown, b2⟩; have hq2 := hq1.trans (b2.mono hq1.size)); (try dsimp only); refine hK.out _ _ (HCY.out _ hq2) (fun hHeld => ?_); clear hK K; (try simp only [Act.put, List.setIfInBounds_toArray, List.set_cons_zero, List.set_cons_succ]))
      obtain ⟨ay, cy, rfl⟩ := own_slice hown
      have hk2 : KeptM n₀ (fun k => mJ k ∧ k < W0.heap.size) W0 v2 := KeptM.of_below hq2 (by omega) (fun k h => h.2)
      obtain ⟨fn, tmps, assign, body, hy0, hR⟩ := hHY.out (fun k => mJ k ∧ k < W0.heap.size) preO (joinB xns, ⟨xi, xk, xl, xd, xp, .slice ay xn.length cy, xn⟩) v2 (hJ mJ _ preO W0 v2 hj (Turned.of_below hq2) (fun r h => .inl h.1)) (fun k h => Nat.lt_of_lt_of_le h.2 hq2.size)
        ⟨by dsimp only; have := interB_len_tail xns; simp only [joinB, List.length_cons]; omega, own_ents hown, _, hxl, rfl⟩ hpO
      have hy : (Instr.yield lr #[.string ⟨(joinB xns).toArray⟩, .agg (ndC ⟨xi, xk, xl, xd, xp, .slice ay xn.length cy, xn⟩)]).run Try.prog v2 = .ok (.round lr fn tmps assign body) v2 := hy0
      clear hy0
      (refine readyG (rs := [5]) (by kernel_rfl) (by simp) ?_; refine AllReadyG.cons rfl (fun K hK => ?_) AllReadyG.nil; go_simp; (refine (round_wide hR).mono ?_; rintro e W4 ⟨b, rfl, hKe, hbT, hbF⟩); (try dsimp only); refine hK.out _ _ ((World.cell?_of_block (hKe.mine _ hmY)).trans (HCY.out _ hq2)) (fun hHeld => ?_); clear hK K; (try simp only [Act.put, List.setIfInBounds_toArray, List.set_cons_zero, List.set_cons_succ]))
      (refine takeG 6 (some 15) (v := ?_) (fun _ => trivial) (by kernel_rfl) rfl rfl (by kernel_rfl) (by kernel_rfl) (by kernel_rfl) (fun _ _ _ h => h) (by rfl) ?_ (by assumption) ?_; rotate_left; (focus (intro w hSw; (try dsimp only at hSw); go_simp; try with_reducible rfl)); (try simp only [Act.put, List.setIfInBounds_toArray, List.set_cons_zero, List.set_cons_succ]))
      refine doneG (by kernel_rfl) ?_ _
      clear hHeld hR hy
      have hD4 : W4.heap[w5.heap.size]? = W0.heap[w5.heap.size]? := (hKe.mine _ hmD).trans (hq2.block _ hD5)
      have hL4 : W4.heap[w5.heap.size + 1]? = W0.heap[w5.heap.size + 1]? := (hKe.mine _ hmL).trans (hq2.block _ hL5)
      have hkk := hk2.trans hKe
      have hms2 : ∀ k, m k → mJ k ∧ k < W0.heap.size := fun k hk => ⟨hs k (.inr hk), hms k hk⟩
      have bY4 : Blk W4 W.heap.size 71 #[.func (.yield lr) #[] #[]] := (hKe.mine _ hmY).trans (bYr.next hq2)
      cases b
      · have hj4 := hbF rfl
        clear hbT hbF
        gi_wp2
        exact ⟨⟨hD4, hL4⟩, hkk.sub hms2, rfl, _, _, hj4, by rw [List.map_append, List.map_append, hpe]; rfl, fun k h => h.elim (fun h => hmb k h) (fun h => hms2 k h), bY4, hmY0, by have := hkk.below.size; omega⟩
      · have hj4 := hbT rfl
        clear hbT hbF
        gi_wp2
        exact ⟨⟨hD4, hL4⟩, hkk.sub hms2, _, _, hj4, by rw [List.map_append, List.map_append, hpe]; rfl, fun k h => h.elim (fun h => hmb k h) (fun h => hms2 k h), bY4, hmY0, by have := hkk.below.size; omega⟩
  case done =>
    rintro m xs V hxs ⟨preO, mJ, hj, hpe, hs, bYr, hmY0, hW0⟩ hmD hml hD
    gi_wp2
    refine ⟨by simp, .inl ⟨_, _, rfl, run_takeDeferred hD, ?_⟩⟩
    refine ⟨_, results_none rfl _ _ _, ⟨_, rfl⟩, .inl ⟨mJ, preO, ?_, hJ mJ _ preO V _ hj (Turned.of_grown (grownBy_putObj' V w5.heap.size (.deferred none)) (fun r e => by cases e; exact .inl (hs _ (.inl (.inr (.inl rfl)))))) (fun r h => .inl h)⟩⟩
    rw [hpe, ← HLW.out, ← hxs, List.map_map]
    rfl
  case stop =>
    rintro c m pre V hpf ⟨rfl, preO, mJ, hj, hpe, hs, bYr, hmY0, hW0⟩ hmD hml hD
    gi_wp2
    refine ⟨by simp, .inl ⟨_, _, rfl, run_takeDeferred hD, ?_⟩⟩
    refine ⟨_, results_none rfl _ _ _, ⟨_, rfl⟩, .inr ⟨mJ, preO, ?_, hJx mJ _ preO V _ hj (Turned.of_grown (grownBy_putObj' V w5.heap.size (.deferred none)) (fun r e => by cases e; exact .inl (hs _ (.inl (.inr (.inl rfl)))))) (fun r h => .inl h)⟩⟩
    obtain ⟨r, hr⟩ := hpf
    rw [hpe, ← HLW.out, ← hr, List.map_append, List.map_map]
    exact ⟨_, rfl⟩
end Go.Proofs.Ytneklkjlcpgdgaa
