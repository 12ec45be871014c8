/- Walks: steps, Below, List. -/
import Derived.Test.YtneklkjlcpgdgaaQWalkD08
import Derived.Test.YtneklkjlcpgdgaaQ
import Derived.Test.YtneklkjlcpgdgaaQWalkE03
import Derived.Test.YtneklkjlcpgdgaaQWalkA08
namespace Go.Proofs.Ytneklkjlcpgdgaa
open Go.RowKit Go.Shelf
attribute [local go_sem] Oper.semAt_some

theorem steps_any (mi mb nx ino : Int) (fv : Value) (na : Option Addr) (nk nc : Nat) (w : World) :
    Calls Try.prog 29 #[.agg (fsC mi mb nx fv), .int .i64 ino, .slice na nk nc] w fun e w' => e = .returned (.func (.func 48) #[] #[.pointer (some ⟨w.heap.size, 0, none⟩), .pointer (some ⟨w.heap.size + 1, 0, none⟩), .pointer (some ⟨w.heap.size + 2, 0, none⟩)]) ∧
      w' = ((w.alloc (.cells (fsC mi mb nx fv) 24)).alloc (.cells #[.int .i64 ino] 3)).alloc (.cells #[.slice na nk nc] 27) := by
  go_enter Try.func29, Try.ntmps29
  go_wp2
  go_ret
  exact ⟨rfl, rfl⟩

theorem steps_blocks {w w' : World} {mi mb nx ino : Int} {fv nv : Value} (h : w' = ((w.alloc (.cells (fsC mi mb nx fv) 24)).alloc (.cells #[.int .i64 ino] 3)).alloc (.cells #[nv] 27)) :
    Below w.heap.size w w' ∧ Blk w' w.heap.size 24 (fsC mi mb nx fv) ∧ Blk w' (w.heap.size + 1) 3 #[.int .i64 ino] ∧ Blk w' (w.heap.size + 2) 27 #[nv] := by
  subst h
  refine ⟨(((Below.refl _ w).alloc (Nat.le_refl _) _).alloc (by simp) _).alloc (by simp; omega) _, ((Blk.new w _ _).alloc _).alloc _, ?_, ?_⟩
  · have := (Blk.new (w.alloc (.cells (fsC mi mb nx fv) 24)) 3 #[.int .i64 ino]).alloc (.cells #[nv] 27)
    rwa [World.size_alloc] at this
  · have := Blk.new ((w.alloc (.cells (fsC mi mb nx fv) 24)).alloc (.cells #[.int .i64 ino] 3)) 27 #[nv]
    rwa [World.size_alloc, World.size_alloc] at this

theorem names_tail (p : List UInt8) : (tailB (namesB p)).length ≤ p.length + 1 := by
  have := namesA_total p []
  simpa [namesB] using this

/-- The iterator's own blocks at the beginning. -/
def mine8 (B : Nat) (nv : Value) : Nat → Prop := fun k => (B ≤ k ∧ k < B + 3) ∨ nv.ownBlock = some k
theorem steps_stops (n : Nat) (hn : 2 ≤ n) (mi mb nx : Int) (l : List Nd) (t : Tree l) (hsh : ∀ x ∈ l, shortP 300 x.ents) (hl : l.length ≤ 100) (fv : Value) (w0 : World) (hv : Nds w0 fv l)
    (ino : Int) (ns : List (List UInt8)) (na : Option Addr) (nk nc B : Nat) (hns : ns.length ≤ 10000) (hnt : (tailB ns).length ≤ 10000) (hnc : nk ≤ nc) (hncm : nc ≤ maxLen) (hna : na = none → nk = 0 ∧ nc = 0)
    (w : World) (hB : Below w0.heap.size w0 w) (bf : Blk w B 24 (fsC mi mb nx fv)) (bi : Blk w (B + 1) 3 #[.int .i64 ino]) (bn : Blk w (B + 2) 27 #[.slice na nk nc]) (hst : Strs w (.slice na nk nc) ns) (hsl : ∀ g, Value.ownBlock (.slice na nk nc) = some g → g < w.heap.size) :
    SeqM Fence.wide n Try.prog 48 #[.pointer (some ⟨B, 0, none⟩), .pointer (some ⟨B + 1, 0, none⟩), .pointer (some ⟨B + 2, 0, none⟩)] stV w0.heap.size (mine8 B (.slice na nk nc)) (RdS l)
      (fun xs => xs.map keyS = walkS l ino ns) (fun pre => pre.map keyS <+: walkS l ino ns) (walkS l ino ns).length w := by
  intro lr J Jx W hW hJ hJx hY h0
  exact steps1_in n hn mi mb nx l t hsh hl fv w0 hv ino ns na nk nc B (B + 1) (B + 2) (mine8 B (.slice na nk nc)) hns hnt hnc hncm hna (.inl ⟨by omega, by omega⟩) (.inl ⟨by omega, by omega⟩) lr J Jx hJ hY W
    (hB.trans (hW.mono hB.size)) (bf.next hW) (bi.next hW) (bn.next hW) (hst.below hW) (fun g hg => .inl (.inr hg)) (fun k hk => hk.elim (fun h => by have := bn.lt; have := hW.size; omega) (fun h => Nat.lt_of_lt_of_le (hsl k h) hW.size)) h0

theorem strs_own (v : Value) (l : List (List UInt8)) : Own (fun (_ : Unit) W => Strs W v l) := by
  rintro _ A B row ⟨a, c, rfl, h1, h2⟩ hg hr
  refine ⟨a, c, rfl, h1, fun hl => ?_⟩
  obtain ⟨b, off, rfl, hlt, hc⟩ := h2 hl
  exact ⟨b, off, rfl, Nat.lt_of_lt_of_le hlt hg.size, fun i hi => cell_kept (hc i hi) hg hr⟩
theorem field1r (a : Bool) (v : Value) (s : Bool) (w : World) : (Instr.field 65 (.agg (pathV a v s)) 1).run Try.prog w = .ok v w := by kernel_rfl
def seenS (e : St8) : Ent := (joinB e.ns, e.x.ino)
theorem infoSeen : (Try.prog.info? 51).map (fun i => (i.zero, i.size, i.bytes)) = some (some (.agg #[.string ⟨#[]⟩, .int .i64 0]), 2, 24) := by kernel_rfl

set_option maxRecDepth 100000 in
set_option maxHeartbeats 4000000 in
theorem BelowW_any (mi mb nx : Int) (l : List Nd) (t : Tree l) (hsh : ∀ x ∈ l, shortP 300 x.ents) (hl : l.length ≤ 100) (v : Value) (w : World) (hv : Nds w v l) (ino : Int) (p : List UInt8) (hp : p.length ≤ 2000) (hlen : (walkS l ino (namesB p)).length ≤ 1000000) :
    Calls Try.prog 13 #[.agg (fsC mi mb nx v), .int .i64 ino, .string ⟨p.toArray⟩] w fun e w' => ∃ y, e = .returned y ∧ w'.ownsRow w.heap.size 51 2 y (walkS l ino (namesB p)).length (entsV ((walkS l ino (namesB p)).map (fun q => (joinB q.1, q.2)))) ∧ Below w.heap.size w w' := by
  obtain ⟨i0, hi, hz0, hz1, hz2⟩ := info_parts infoSeen
  obtain ⟨af, cf, rfl⟩ := nds_slice hv
  have hmx : Try.prog.follows .mixedOrders = true := by kernel_rfl
  refine (callsIn_wide (n := 6)).1 ?_
  (refine callsIn_of_wp_marks Try.func13 rfl trivial ?_ rfl; simp only [Try.ntmps13, List.size_toArray, List.length_cons, List.length_nil, Nat.reduceAdd, Nat.reduceSub, Array.replicate_succ, Array.replicate_zero, List.push_toArray, List.append_toArray, List.nil_append, List.cons_append])
  gi_upto_region 2 with fail
  have bF := (Blk.new w 24 (fsC mi mb nx (.slice af l.length cf))).alloc (.cells #[.slice none 0 0] 31)
  have bA := Blk.new (w.alloc (.cells (fsC mi mb nx (.slice af l.length cf)) 24)) 31 #[.slice none 0 0]
  rw [World.size_alloc] at bA
  have hB0 : Below w.heap.size w ((w.alloc (.cells (fsC mi mb nx (.slice af l.length cf)) 24)).alloc (.cells #[.slice none 0 0] 31)) := ((Below.refl _ w).alloc (Nat.le_refl _) _).alloc (by simp) _
  have hs2 : ((w.alloc (.cells (fsC mi mb nx (.slice af l.length cf)) 24)).alloc (.cells #[.slice none 0 0] 31)).heap.size = w.heap.size + 2 := by simp
  generalize (w.alloc (.cells (fsC mi mb nx (.slice af l.length cf)) 24)).alloc (.cells #[.slice none 0 0] 31) = w2 at *
  have HMK : ∀ W, Below w2.heap.size w2 W → (W.cell? ⟨w.heap.size, 0, none⟩ = some (.int .i64 mi) ∧ W.cell? ⟨w.heap.size, 1, none⟩ = some (.int .i64 mb) ∧ W.cell? ⟨w.heap.size, 2, none⟩ = some (.int .i64 nx) ∧ W.cell? ⟨w.heap.size, 3, none⟩ = some (.slice af l.length cf)) := fun W h => (bF.next h).four.1
  have hq := (Below.refl w2.heap.size w2).drew
  have HT := Lib.hid t
  have HHS := Lib.hid hsh
  have HLN := Lib.hid hlen
  clear t hsh hlen
  refine wpIn_wide.2 ?_
  go_region_held3 (fun W => W.cell? ⟨w.heap.size, 0, none⟩ = some (.int .i64 mi) ∧ W.cell? ⟨w.heap.size, 1, none⟩ = some (.int .i64 mb) ∧ W.cell? ⟨w.heap.size, 2, none⟩ = some (.int .i64 nx) ∧ W.cell? ⟨w.heap.size, 3, none⟩ = some (.slice af l.length cf))
    (first | with_reducible exact HMK _ hq | with_reducible exact HMK _ hq5)
    (first
      | (go_at_call 30; refine (Read_any p (by omega) _).mono ?_; rintro e w3 ⟨y, rfl, hown, b3⟩; obtain ⟨na, nc, rfl⟩ := own_slice hown; have hq := hq.trans (b3.mono hq.size); have hfi := field1r (absB p) (.slice na (namesB p).length nc) (slashB p))
      | (go_at_call 29; refine (steps_any mi mb nx ino _ na (namesB p).length nc _).mono ?_; rintro e w5 ⟨rfl, hw5⟩; obtain ⟨b5, bf5, bi5, bn5⟩ := steps_blocks hw5; clear hw5; have hq5 := hq.trans (b5.mono hq.size)))
  have hst5 := (own_strs hown).below b5
  have hnl := (own_strs hown)
  have hsl5 : ∀ g, Value.ownBlock (.slice na (namesB p).length nc) = some g → w2.heap.size ≤ g ∧ g < w3.heap.size := fun g hg => hown.lt g hg
  obtain ⟨hnc, hncm, hna⟩ : (namesB p).length ≤ nc ∧ nc ≤ maxLen ∧ (na = none → (namesB p).length = 0 ∧ nc = 0) := by
    rcases own_cases hown with ⟨h, h0, _⟩ | ⟨g, c, h, _, _, h1, h2⟩
    · simp only [Value.slice.injEq] at h; obtain ⟨rfl, h3, rfl⟩ := h; exact ⟨by omega, Nat.zero_le _, fun _ => ⟨h3, rfl⟩⟩
    · simp only [Value.slice.injEq] at h; obtain ⟨rfl, _, rfl⟩ := h; exact ⟨h1, h2, fun h => by cases h⟩
  have bA5 := bA.next hq5
  have hB5 := hB0.trans (hq5.mono hB0.size)
  have h35 : w3.heap.size + 2 < w5.heap.size := bn5.lt
  have h23 := hq.size
  have hnm := namesB_count p
  have hnt := namesB_total p
  clear bA bF hB0 HMK hq hq5 b5 hown hnl hfi b3
  gi_wp2
  have hwAll : w.heap.size + 1 < w3.heap.size := by have : w2.drew.heap.size = w2.heap.size := rfl; omega
  refine wpIn_rangeFunc_mine rfl (by omega) (gf := 48) (lb := #[.pointer (some ⟨w3.heap.size, 0, none⟩), .pointer (some ⟨w3.heap.size + 1, 0, none⟩), .pointer (some ⟨w3.heap.size + 2, 0, none⟩)]) rfl trivial (enters_of Try.func48 (by kernel_rfl) rfl)
    (steps_stops (6 - 1) (by omega) mi mb nx l HT.out HHS.out hl _ w hv ino (namesB p) na _ nc w3.heap.size (by omega) (by have := names_tail p; omega) hnc hncm hna w5 hB5 bf5 bi5 bn5 hst5 (fun g hg => by have := (hsl5 g hg).2; omega))
    hB5.size (fun k hk => hk.elim (fun h => by omega) (fun h => by have := (hsl5 k h).2; omega)) (Below.refl _ _) (fun _ => rfl)
    (RowI w w.heap.size (w.heap.size + 1) 31 51 2 (fun pre => pre.length) (fun pre => entsV (pre.map seenS))) (fun _ _ _ _ => False)
    (RowI.abides (Nat.le_refl _)) (fun _ _ _ _ _ _ h _ _ => h) (RowI.book (Nat.le_refl _) hB5.size) (fun _ _ _ _ _ _ h _ _ => h)
    ⟨⟨_, bA5, World.ownsRow_nil _ _ _ _, fun h => h.elim (fun h => by omega) (fun h => by have := (hsl5 _ h).1; omega), fun g hg => by simp [Value.ownBlock] at hg⟩, hB5, fun r h => h.elim (fun h => by omega) (fun h => by have := (hsl5 _ h).1; omega)⟩
    (fun x a' W => RdS l x W ∧ ∃ Bx, w.heap.size ≤ Bx ∧ Blk W Bx 41 (ndC x.x) ∧ a' = { tmps := #[.agg (fsC mi mb nx (.slice af l.length cf)), .int .i64 ino, .string ⟨p.toArray⟩, .pointer (some ⟨w.heap.size, 0, none⟩), undef, undef, .slice none 0 0, .pointer (some ⟨w.heap.size + 1, 0, none⟩), x.v, .pointer (some ⟨Bx, 0, none⟩),
      .agg #[.int .i64 mi, .int .i64 mb, .int .i64 nx, .slice af l.length cf], .int .i64 ino, .string ⟨p.toArray⟩, .agg (pathV (absB p) (.slice na (namesB p).length nc) (slashB p)), .slice na (namesB p).length nc,
      .func (.func 48) #[] #[.pointer (some ⟨w3.heap.size, 0, none⟩), .pointer (some ⟨w3.heap.size + 1, 0, none⟩), .pointer (some ⟨w3.heap.size + 2, 0, none⟩)], x.v, .agg (ndC x.x), undef, undef, undef, undef, undef, undef, undef, undef, undef], defers := [] })
    (fun x a' => (Own.from (fun s A B row hs hg hr => ⟨⟨strs_own x.v x.ns () A B row hs.1.1 hg hr, hs.1.2⟩, by obtain ⟨Bx, h1, h2, h3⟩ := hs.2; exact ⟨Bx, h1, blk_own (β := Unit) Bx _ (fun _ => ndC x.x) () A B row h2 hg hr, h3⟩⟩) _)) ?assign ?body ?done ?stop
  case assign =>
    intro l' m pre x W K hl' hI hRd hms hsz hK
    obtain ⟨xns, xv, xi, xk, xl, xd, xp, xe, xn⟩ := x
    obtain ⟨ae, ce, hxe, _⟩ := hv.all _ hRd.2.1
    dsimp only at hxe
    subst hxe
    gi_wp2
    exact hK _ _ ((KeepsOthers.alloc W _).from _) (KeptM.of_below (alloc_below W _) (by have := hI.2.1.size; omega) hms) (RowI.abides (Nat.le_refl _) m m pre W _ hI (Turned.of_below (alloc_below W _)) (fun r h => .inl h)) ⟨⟨hRd.1.below (alloc_below W _), hRd.2⟩, W.heap.size, hI.2.1.size, Blk.new W _ _, rfl⟩
  case body =>
    rintro l' m pre x a' W rfl ⟨rl, hrl⟩ hD hmD hml hms ⟨⟨vv, hvv, hrow, hmB, hmv⟩, hBW, hmn⟩ ⟨hRd, Bx, hBx, bX, rfl⟩ hpre
    obtain ⟨xns, xv, xi, xk, xl, xd, xp, xe, xn⟩ := x
    obtain ⟨hst, hxl, hxn, hxt⟩ := hRd
    dsimp only at hst hxl hxn hxt bX
    obtain ⟨av, cv, rfl⟩ := own_slice hrow
    have hnw : w.heap.size ≤ W.heap.size := hBW.size
    have cA := (hvv.cell 0).trans (rfl : _ = some (Value.slice av pre.length cv))
    have cX := (bX.cell 0).trans (rfl : _ = some (Value.int .i64 xi))
    gi_wp2
    have hlnn := HLN.out
    have hjn := Join_any xns xv W.drew hst (by omega) (by have := interB_len_tail xns; omega)
    have hlnn := HLN.out
    (refine wpIn_region_heldG (fun W' => W'.cell? ⟨Bx, 0, none⟩ = some (.int .i64 xi)) (by kernel_rfl) (cX) (fun hHeld => ?_))
    (refine takeG 1 (some 19) (v := ?_) (fun _ => trivial) (by kernel_rfl) rfl rfl (by kernel_rfl) (by kernel_rfl) (by kernel_rfl) (fun _ _ _ h => h) (by rfl) ?_ (by assumption) ?_; rotate_left; (focus (intro w hSw; (try dsimp only at hSw); go_simp; try with_reducible rfl)); (try simp only [Act.put, List.setIfInBounds_toArray, List.set_cons_zero, List.set_cons_succ]))
    (refine takeG 3 (some 21) (v := ?_) (fun _ => trivial) (by kernel_rfl) rfl rfl (by kernel_rfl) (by kernel_rfl) (by kernel_rfl) (fun _ _ _ h => h) (by rfl) ?_ (by assumption) ?_; rotate_left; (focus (intro w hSw; (try dsimp only at hSw); go_simp; try with_reducible rfl)); (try simp only [Act.put, List.setIfInBounds_toArray, List.set_cons_zero, List.set_cons_succ]))
    (refine takeG 4 (some 22) (v := ?_) (fun _ => trivial) (by kernel_rfl) rfl rfl (by kernel_rfl) (by kernel_rfl) (by kernel_rfl) (fun _ _ _ h => h) (by rfl) ?_ (by assumption) ?_; rotate_left; (focus (intro w hSw; (try dsimp only at hSw); go_simp; try with_reducible rfl)); (try simp only [Act.put, List.setIfInBounds_toArray, List.set_cons_zero, List.set_cons_succ]))
    (refine readyG (rs := [0, 2]) (by kernel_rfl) (by simp) ?_; refine AllReadyG.cons rfl (fun K hK => ?_) (AllReadyG.cons rfl (fun K hK => ?_) AllReadyG.nil))
    · (go_simp; skip; (try dsimp only); refine hK.out _ _ (cX) (fun hHeld => ?_); clear hK K; (try simp only [Act.put, List.setIfInBounds_toArray, List.set_cons_zero, List.set_cons_succ]))
      (refine readyG (rs := [2]) (by kernel_rfl) (by simp) ?_; refine AllReadyG.cons rfl (fun K hK => ?_) AllReadyG.nil; go_simp; (refine ⟨trivial, ?_⟩; refine (CallsIn.inRound _ (callsIn_wide.2 hjn)).mono ?_; rintro e w2j ⟨rfl, b2⟩; replace b2 := ((Below.refl W.heap.size W).drew).trans b2); (try dsimp only); refine hK.out _ _ ((b2.cell (p := ⟨Bx, 0, none⟩) bX.lt).trans cX) (fun hHeld => ?_); clear hK K; (try simp only [Act.put, List.setIfInBounds_toArray, List.set_cons_zero, List.set_cons_succ]))
      have bX2 := bX.next b2
      have cX2 := ((bX2.alloc (.cells #[.string ⟨(joinB xns).toArray⟩, .int .i64 xi] 51)).cell 0).trans (rfl : _ = some (Value.int .i64 xi))
      (refine takeG 5 (some 23) (v := ?_) (fun _ => trivial) (by kernel_rfl) rfl rfl (by kernel_rfl) (by kernel_rfl) (by kernel_rfl) (fun _ _ _ h => h) (by rfl) ?_ (by assumption) ?_; rotate_left; (focus (intro w hSw; (try dsimp only at hSw); go_simp; try with_reducible rfl)); (try simp only [Act.put, List.setIfInBounds_toArray, List.set_cons_zero, List.set_cons_succ]))
      (refine readyG (rs := [6]) (by kernel_rfl) (by simp) ?_; refine AllReadyG.cons rfl (fun K hK => ?_) AllReadyG.nil; go_simp; skip; (try dsimp only); refine hK.out _ _ (cX2) (fun hHeld => ?_); clear hK K; (try simp only [Act.put, List.setIfInBounds_toArray, List.set_cons_zero, List.set_cons_succ]))
      (refine readyG (rs := [7]) (by kernel_rfl) (by simp) ?_; refine AllReadyG.cons rfl (fun K hK => ?_) AllReadyG.nil; (refine stepG_append_here rfl (.tmp 18) (.tmp 24) 31 51 rfl Try.underlying31 hi hz0 hz1 hz2 rfl (by decide) (by decide) w.heap.size (v := .slice av pre.length cv) ⟨w2j.heap.size, 0, none⟩ 1 [.string ⟨(joinB xns).toArray⟩, .int .i64 xi] rfl rfl ((own_keep hrow b2).alloc _) rfl (cell_two_new _ _ _ _) (by simp [Value.oneCell']) (by omega) (by have := b2.size; simp; omega) ?_; intro v9 w9 hown9 hgr9 hnew9; have hRX := ((bX2.alloc (.cells #[.string ⟨(joinB xns).toArray⟩, .int .i64 xi] 51)).kept hgr9 (bX2.not_row (by decide) (own_keep hrow b2))); have cX9 := (hRX.cell 0).trans (rfl : _ = some (Value.int .i64 xi)); obtain ⟨g9, c9, rfl⟩ := ownsRow_succ hown9); (try dsimp only); refine hK.out _ _ (cX9) (fun hHeld => ?_); clear hK K; (try simp only [Act.put, List.setIfInBounds_toArray, List.set_cons_zero, List.set_cons_succ]))
      obtain ⟨k1, k2, k3⟩ := boxrow_next (m := m) (by decide) hvv hrow hmB hmv hms hnw (by omega) b2 hown9 hgr9 hnew9
      have hA9 := ((hvv.next b2).alloc (.cells #[.string ⟨(joinB xns).toArray⟩, .int .i64 xi] 51)).kept hgr9 ((hvv.next b2).not_row (by decide) (own_keep hrow b2))
      have cA9 := (hA9.cell 0).trans (rfl : _ = some (Value.slice av pre.length cv))
      have fA9 := hA9.frozen 0
      have hXe := hRX.other (B2 := w.heap.size + 1) (i := 0) (fun e => by subst e; have := hA9.symm.trans hRX; simp at this) (.slice (some ⟨g9, 0, none⟩) (pre.length + 1) c9)
      have cXe := (hXe.cell 0).trans (rfl : _ = some (Value.int .i64 xi))
      (refine readyG (rs := [8]) (by kernel_rfl) (by simp) ?_; refine AllReadyG.cons rfl (fun K hK => ?_) AllReadyG.nil; go_simp; skip; (try dsimp only); refine hK.out _ _ (cXe) (fun hHeld => ?_); clear hK K; (try simp only [Act.put, List.setIfInBounds_toArray, List.set_cons_zero, List.set_cons_succ]))
      refine doneG (by kernel_rfl) ?_ _
      clear hHeld
      refine ⟨⟨(k1.same _ _ hD rfl).trans hD.symm, (k1.same _ _ hrl rfl).trans hrl.symm⟩, k2, ?_, hBW.trans k2.below, hmn⟩
      simpa [seenS, entsV_append, entsV] using k3
    · (go_simp; (refine ⟨trivial, ?_⟩; refine (CallsIn.inRound _ (callsIn_wide.2 hjn)).mono ?_; rintro e w2j ⟨rfl, b2⟩; replace b2 := ((Below.refl W.heap.size W).drew).trans b2; have cA := ((hvv.next b2).cell 0).trans (rfl : _ = some (Value.slice av pre.length cv))); (try dsimp only); refine hK.out _ _ ((b2.cell (p := ⟨Bx, 0, none⟩) bX.lt).trans cX) (fun hHeld => ?_); clear hK K; (try simp only [Act.put, List.setIfInBounds_toArray, List.set_cons_zero, List.set_cons_succ]))
      have bX2 := bX.next b2
      have cX2 := ((bX2.alloc (.cells #[.string ⟨(joinB xns).toArray⟩, .int .i64 xi] 51)).cell 0).trans (rfl : _ = some (Value.int .i64 xi))
      have cA2 := (((hvv.next b2).alloc (.cells #[.string ⟨(joinB xns).toArray⟩, .int .i64 xi] 51)).cell 0).trans (rfl : _ = some (Value.slice av pre.length cv))
      (refine takeG 5 (some 23) (v := ?_) (fun _ => trivial) (by kernel_rfl) rfl rfl (by kernel_rfl) (by kernel_rfl) (by kernel_rfl) (fun _ _ _ h => h) (by rfl) ?_ (by assumption) ?_; rotate_left; (focus (intro w hSw; (try dsimp only at hSw); go_simp; try with_reducible rfl)); (try simp only [Act.put, List.setIfInBounds_toArray, List.set_cons_zero, List.set_cons_succ]))
      (refine readyG (rs := [0, 6]) (by kernel_rfl) (by simp) ?_; refine AllReadyG.cons rfl (fun K hK => ?_) (AllReadyG.cons rfl (fun K hK => ?_) AllReadyG.nil))
      · (go_simp; skip; (try dsimp only); refine hK.out _ _ (hHeld) (fun hHeld => ?_); clear hK K; (try simp only [Act.put, List.setIfInBounds_toArray, List.set_cons_zero, List.set_cons_succ]))
        (refine readyG (rs := [6]) (by kernel_rfl) (by simp) ?_; refine AllReadyG.cons rfl (fun K hK => ?_) AllReadyG.nil; go_simp; skip; (try dsimp only); refine hK.out _ _ (cX2) (fun hHeld => ?_); clear hK K; (try simp only [Act.put, List.setIfInBounds_toArray, List.set_cons_zero, List.set_cons_succ]))
        (refine readyG (rs := [7]) (by kernel_rfl) (by simp) ?_; refine AllReadyG.cons rfl (fun K hK => ?_) AllReadyG.nil; (refine stepG_append_here rfl (.tmp 18) (.tmp 24) 31 51 rfl Try.underlying31 hi hz0 hz1 hz2 rfl (by decide) (by decide) w.heap.size (v := .slice av pre.length cv) ⟨w2j.heap.size, 0, none⟩ 1 [.string ⟨(joinB xns).toArray⟩, .int .i64 xi] rfl rfl ((own_keep hrow b2).alloc _) rfl (cell_two_new _ _ _ _) (by simp [Value.oneCell']) (by omega) (by have := b2.size; simp; omega) ?_; intro v9 w9 hown9 hgr9 hnew9; have hRX := ((bX2.alloc (.cells #[.string ⟨(joinB xns).toArray⟩, .int .i64 xi] 51)).kept hgr9 (bX2.not_row (by decide) (own_keep hrow b2))); have cX9 := (hRX.cell 0).trans (rfl : _ = some (Value.int .i64 xi)); obtain ⟨g9, c9, rfl⟩ := ownsRow_succ hown9); (try dsimp only); refine hK.out _ _ (cX9) (fun hHeld => ?_); clear hK K; (try simp only [Act.put, List.setIfInBounds_toArray, List.set_cons_zero, List.set_cons_succ]))
        obtain ⟨k1, k2, k3⟩ := boxrow_next (m := m) (by decide) hvv hrow hmB hmv hms hnw (by omega) b2 hown9 hgr9 hnew9
        have hA9 := ((hvv.next b2).alloc (.cells #[.string ⟨(joinB xns).toArray⟩, .int .i64 xi] 51)).kept hgr9 ((hvv.next b2).not_row (by decide) (own_keep hrow b2))
        have cA9 := (hA9.cell 0).trans (rfl : _ = some (Value.slice av pre.length cv))
        have fA9 := hA9.frozen 0
        have hXe := hRX.other (B2 := w.heap.size + 1) (i := 0) (fun e => by subst e; have := hA9.symm.trans hRX; simp at this) (.slice (some ⟨g9, 0, none⟩) (pre.length + 1) c9)
        have cXe := (hXe.cell 0).trans (rfl : _ = some (Value.int .i64 xi))
        (refine readyG (rs := [8]) (by kernel_rfl) (by simp) ?_; refine AllReadyG.cons rfl (fun K hK => ?_) AllReadyG.nil; go_simp; skip; (try dsimp only); refine hK.out _ _ (cXe) (fun hHeld => ?_); clear hK K; (try simp only [Act.put, List.setIfInBounds_toArray, List.set_cons_zero, List.set_cons_succ]))
        refine doneG (by kernel_rfl) ?_ _
        clear hHeld
        refine ⟨⟨(k1.same _ _ hD rfl).trans hD.symm, (k1.same _ _ hrl rfl).trans hrl.symm⟩, k2, ?_, hBW.trans k2.below, hmn⟩
        simpa [seenS, entsV_append, entsV] using k3
      · (go_simp; skip; (try dsimp only); refine hK.out _ _ (cX2) (fun hHeld => ?_); clear hK K; (try simp only [Act.put, List.setIfInBounds_toArray, List.set_cons_zero, List.set_cons_succ]))
        (refine readyG (rs := [0]) (by kernel_rfl) (by simp) ?_; refine AllReadyG.cons rfl (fun K hK => ?_) AllReadyG.nil; go_simp; skip; (try dsimp only); refine hK.out _ _ (cX2) (fun hHeld => ?_); clear hK K; (try simp only [Act.put, List.setIfInBounds_toArray, List.set_cons_zero, List.set_cons_succ]))
        (refine readyG (rs := [7]) (by kernel_rfl) (by simp) ?_; refine AllReadyG.cons rfl (fun K hK => ?_) AllReadyG.nil; (refine stepG_append_here rfl (.tmp 18) (.tmp 24) 31 51 rfl Try.underlying31 hi hz0 hz1 hz2 rfl (by decide) (by decide) w.heap.size (v := .slice av pre.length cv) ⟨w2j.heap.size, 0, none⟩ 1 [.string ⟨(joinB xns).toArray⟩, .int .i64 xi] rfl rfl ((own_keep hrow b2).alloc _) rfl (cell_two_new _ _ _ _) (by simp [Value.oneCell']) (by omega) (by have := b2.size; simp; omega) ?_; intro v9 w9 hown9 hgr9 hnew9; have hRX := ((bX2.alloc (.cells #[.string ⟨(joinB xns).toArray⟩, .int .i64 xi] 51)).kept hgr9 (bX2.not_row (by decide) (own_keep hrow b2))); have cX9 := (hRX.cell 0).trans (rfl : _ = some (Value.int .i64 xi)); obtain ⟨g9, c9, rfl⟩ := ownsRow_succ hown9); (try dsimp only); refine hK.out _ _ (cX9) (fun hHeld => ?_); clear hK K; (try simp only [Act.put, List.setIfInBounds_toArray, List.set_cons_zero, List.set_cons_succ]))
        obtain ⟨k1, k2, k3⟩ := boxrow_next (m := m) (by decide) hvv hrow hmB hmv hms hnw (by omega) b2 hown9 hgr9 hnew9
        have hA9 := ((hvv.next b2).alloc (.cells #[.string ⟨(joinB xns).toArray⟩, .int .i64 xi] 51)).kept hgr9 ((hvv.next b2).not_row (by decide) (own_keep hrow b2))
        have cA9 := (hA9.cell 0).trans (rfl : _ = some (Value.slice av pre.length cv))
        have fA9 := hA9.frozen 0
        have hXe := hRX.other (B2 := w.heap.size + 1) (i := 0) (fun e => by subst e; have := hA9.symm.trans hRX; simp at this) (.slice (some ⟨g9, 0, none⟩) (pre.length + 1) c9)
        have cXe := (hXe.cell 0).trans (rfl : _ = some (Value.int .i64 xi))
        (refine readyG (rs := [8]) (by kernel_rfl) (by simp) ?_; refine AllReadyG.cons rfl (fun K hK => ?_) AllReadyG.nil; go_simp; skip; (try dsimp only); refine hK.out _ _ (cXe) (fun hHeld => ?_); clear hK K; (try simp only [Act.put, List.setIfInBounds_toArray, List.set_cons_zero, List.set_cons_succ]))
        refine doneG (by kernel_rfl) ?_ _
        clear hHeld
        refine ⟨⟨(k1.same _ _ hD rfl).trans hD.symm, (k1.same _ _ hrl rfl).trans hrl.symm⟩, k2, ?_, hBW.trans k2.below, hmn⟩
        simpa [seenS, entsV_append, entsV] using k3
  case done =>
    rintro m xs W hxs ⟨⟨vv, hvv, hrow, hmB, hmv⟩, hBW, hmn⟩ hmD hml hD
    have e1 : xs.length = (walkS l ino (namesB p)).length := by rw [← hxs, List.length_map]
    have e2 : xs.map seenS = (walkS l ino (namesB p)).map (fun q => (joinB q.1, q.2)) := by rw [← hxs, List.map_map]; rfl
    dsimp only at hrow ⊢
    rw [e1, e2] at hrow
    clear e1 e2 hxs
    obtain ⟨av, cv, rfl⟩ := own_slice hrow
    have cA := (hvv.cell 0).trans (rfl : _ = some (Value.slice av (walkS l ino (namesB p)).length cv))
    gi_wp2
    refine ⟨by simp, .inl ⟨_, _, rfl, run_takeDeferred hD, ?_⟩⟩
    refine ⟨_, results_tmp rfl _ _ _, _, rfl, ownsRow_putObj hrow _ hD rfl, hBW.trans (belowK_b (w := w) (Nat.le_refl _) W w5.heap.size _ _ hB5.size hD rfl rfl)⟩
  case stop => intro c m pre W _ h; exact h.elim

/-- As the document has it. -/
theorem walk_below {l : List Nd} (t : Tree l) (ino : Int) {p : List UInt8} (hp : joinB (namesB p) = p) : (walkS l ino (namesB p)).map (fun q => (joinB q.1, q.2)) = belowN l (l.length + 1) ino p := by
  have := below_tree t (l.length + 1) ino (namesB p) (namesB_good p)
  rw [hp] at this
  exact this.symm

set_option maxHeartbeats 1000000 in
theorem ListW_any (mi mb nx : Int) (l : List Nd) (t : Tree l) (hsh : ∀ x ∈ l, shortP 300 x.ents) (hl : l.length ≤ 100) (v : Value) (w : World) (hv : Nds w v l) (hlen : (listN l).length ≤ 1000000) :
    Calls Try.prog 11 #[.agg (fsC mi mb nx v)] w fun e w' => ∃ y, e = .returned y ∧ w'.ownsRow w.heap.size 51 2 y (listN l).length (entsV (listN l)) ∧ Below w.heap.size w w' := by
  obtain ⟨af, cf, rfl⟩ := nds_slice hv
  have hE : (walkS l 1 (namesB [47])).map (fun q => (joinB q.1, q.2)) = listN l := walk_below t 1 rfl
  have hE2 : (walkS l 1 (namesB [47])).length = (listN l).length := by rw [← hE, List.length_map]
  have bF := Blk.new w 24 (fsC mi mb nx (.slice af l.length cf))
  have hB := alloc_below w (.cells (fsC mi mb nx (.slice af l.length cf)) 24)
  have HC := fun W (h : Below w.heap.size w W) => BelowW_any mi mb nx l t hsh hl _ W (hv.below h) 1 [47] (by simp) (by rw [hE2]; exact hlen)
  rw [hE, hE2] at HC
  clear hE hE2
  have HCC := Lib.hid HC
  clear HC t hsh hv hlen
  have HMK : ∀ W, Below (w.heap.size + 1) (w.alloc (.cells (fsC mi mb nx (.slice af l.length cf)) 24)) W → (W.cell? ⟨w.heap.size, 0, none⟩ = some (.int .i64 mi) ∧ W.cell? ⟨w.heap.size, 1, none⟩ = some (.int .i64 mb) ∧ W.cell? ⟨w.heap.size, 2, none⟩ = some (.int .i64 nx) ∧ W.cell? ⟨w.heap.size, 3, none⟩ = some (.slice af l.length cf)) := fun W h => (bF.below h (Nat.lt_succ_self _)).four.1
  have hq := (Below.refl (w.heap.size + 1) (w.alloc (.cells (fsC mi mb nx (.slice af l.length cf)) 24))).drew
  have hj := Join_any [] (.slice none 0 0) ((w.alloc (.cells (fsC mi mb nx (.slice af l.length cf)) 24)).drew) (Strs.nil_ _) (by simp) (by simp [interB])
  go_enter Try.func11, Try.ntmps11
  go_upto_region 1 with fail
  go_region_held3 (fun W => W.cell? ⟨w.heap.size, 0, none⟩ = some (.int .i64 mi) ∧ W.cell? ⟨w.heap.size, 1, none⟩ = some (.int .i64 mb) ∧ W.cell? ⟨w.heap.size, 2, none⟩ = some (.int .i64 nx) ∧ W.cell? ⟨w.heap.size, 3, none⟩ = some (.slice af l.length cf))
    (first | with_reducible exact HMK _ hq | with_reducible exact HMK _ hq5)
    (first
      | (go_at_call 28; refine hj.mono ?_; rintro e w3 ⟨rfl, b3⟩; have hq := hq.trans (b3.mono (by simp)))
      | (go_at_call 13; refine (HCC.out _ ((hB.trans (hq.mono (by simp))))).mono ?_; rintro e w5 ⟨y, rfl, hown, b5⟩; have hq5 := hq.trans (b5.mono (by have := hq.size; simp at this; omega))))
  go_wp2
  go_ret
  exact ⟨y, rfl, own_base hown (by have := hq.size; simp at this; omega), hB.trans (hq5.mono (by simp))⟩
end Go.Proofs.Ytneklkjlcpgdgaa
