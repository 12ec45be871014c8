/- Texts put together: WalkE08, WalkP16, Small16, Side16, WalkQ16. -/
import Derived.Test.YtpeghnhaekebdaaQWalkD08
import Derived.Test.YtpeghnhaekebdaaQMLawBase05
import Derived.Test.YtpeghnhaekebdaaQMWalkF07
import Derived.Test.YtpeghnhaekebdaaQMSeq08
import Derived.Carry
import Derived.Test.YtpeghnhaekebdaaQMWalkK05
import Derived.Laws.OwnMore
import Derived.Deep.Cut
import Derived.Deep.RegionHeld3
import Derived.BigQuiet
set_option linter.unusedVariables false
set_option linter.unusedSimpArgs false
/- Walks: steps, Below, List. -/
set_option linter.unusedVariables false
set_option linter.unusedSimpArgs false
namespace Go.Proofs.Ytpeghnhaekebdaa
open Go.RowKit Go.Shelf
attribute [local go_sem] Oper.semAt_some

theorem steps_any (mi mb nx ino : Int) (fv : Value) (na : Option Addr) (nk nc : Nat) (w : World) :
    Calls Try.prog 44 #[.agg (fsC mi mb nx fv), .int .i64 ino, .slice na nk nc] w fun e w' => e = .returned (.func (.func 53) #[] #[.pointer (some ⟨w.heap.size, 0, none⟩), .pointer (some ⟨w.heap.size + 1, 0, none⟩), .pointer (some ⟨w.heap.size + 2, 0, none⟩)]) ∧
      w' = ((w.alloc (.cells (fsC mi mb nx fv) 24)).alloc (.cells #[.int .i64 ino] 3)).alloc (.cells #[.slice na nk nc] 75) := by
  go_enter Try.func44, Try.ntmps44
  go_wp2
  go_ret
  exact ⟨rfl, rfl⟩

theorem steps_blocks {w w' : World} {mi mb nx ino : Int} {fv nv : Value} (h : w' = ((w.alloc (.cells (fsC mi mb nx fv) 24)).alloc (.cells #[.int .i64 ino] 3)).alloc (.cells #[nv] 75)) :
    Below w.heap.size w w' ∧ Blk w' w.heap.size 24 (fsC mi mb nx fv) ∧ Blk w' (w.heap.size + 1) 3 #[.int .i64 ino] ∧ Blk w' (w.heap.size + 2) 75 #[nv] := by
  subst h
  refine ⟨(((Below.refl _ w).alloc (Nat.le_refl _) _).alloc (by simp) _).alloc (by simp; omega) _, ((Blk.new w _ _).alloc _).alloc _, ?_, ?_⟩
  · have := (Blk.new (w.alloc (.cells (fsC mi mb nx fv) 24)) 3 #[.int .i64 ino]).alloc (.cells #[nv] 75)
    rwa [World.size_alloc] at this
  · have := Blk.new ((w.alloc (.cells (fsC mi mb nx fv) 24)).alloc (.cells #[.int .i64 ino] 3)) 75 #[nv]
    rwa [World.size_alloc, World.size_alloc] at this

theorem names_tail (p : List UInt8) : (tailB (namesB p)).length ≤ p.length + 1 := by
  have := namesA_total p []
  simpa [namesB] using this

/-- The iterator's own blocks at the beginning. -/
def mine8 (B : Nat) (nv : Value) : Nat → Prop := fun k => (B ≤ k ∧ k < B + 3) ∨ nv.ownBlock = some k
theorem steps_stops (n : Nat) (hn : 2 ≤ n) (mi mb nx : Int) (l : List Nd) (t : Tree l) (hsh : ∀ x ∈ l, shortP 300 x.ents) (hl : l.length ≤ 100) (fv : Value) (w0 : World) (hv : Nds w0 fv l)
    (ino : Int) (ns : List (List UInt8)) (na : Option Addr) (nk nc B : Nat) (hns : ns.length ≤ 10000) (hnt : (tailB ns).length ≤ 10000) (hnc : nk ≤ nc) (hncm : nc ≤ maxLen) (hna : na = none → nk = 0 ∧ nc = 0)
    (w : World) (hB : Below w0.heap.size w0 w) (bf : Blk w B 24 (fsC mi mb nx fv)) (bi : Blk w (B + 1) 3 #[.int .i64 ino]) (bn : Blk w (B + 2) 75 #[.slice na nk nc]) (hst : Strs w (.slice na nk nc) ns) (hsl : ∀ g, Value.ownBlock (.slice na nk nc) = some g → g < w.heap.size) :
    SeqM Fence.wide n Try.prog 53 #[.pointer (some ⟨B, 0, none⟩), .pointer (some ⟨B + 1, 0, none⟩), .pointer (some ⟨B + 2, 0, none⟩)] stV w0.heap.size (mine8 B (.slice na nk nc)) (RdS l)
      (fun xs => xs.map keyS = walkS l ino ns) (fun pre => pre.map keyS <+: walkS l ino ns) (walkS l ino ns).length w := by
  intro lr J Jx W hW hJ hJx hY h0
  exact steps1_in n hn mi mb nx l t hsh hl fv w0 hv ino ns na nk nc B (B + 1) (B + 2) (mine8 B (.slice na nk nc)) hns hnt hnc hncm hna (.inl ⟨by omega, by omega⟩) (.inl ⟨by omega, by omega⟩) lr J Jx hJ hY W
    (hB.trans (hW.mono hB.size)) (bf.next hW) (bi.next hW) (bn.next hW) (hst.below hW) (fun g hg => .inl (.inr hg)) (fun k hk => hk.elim (fun h => by have := bn.lt; have := hW.size; omega) (fun h => Nat.lt_of_lt_of_le (hsl k h) hW.size)) h0

theorem strs_own (v : Value) (l : List (List UInt8)) : Own (fun (_ : Unit) W => Strs W v l) := by
  rintro _ A B row ⟨a, c, rfl, h1, h2⟩ hg hr
  refine ⟨a, c, rfl, h1, fun hl => ?_⟩
  obtain ⟨b, off, rfl, hlt, hc⟩ := h2 hl
  exact ⟨b, off, rfl, Nat.lt_of_lt_of_le hlt hg.size, fun i hi => cell_kept (hc i hi) hg hr⟩
theorem field1r (a : Bool) (v : Value) (s : Bool) (w : World) : (Instr.field 77 (.agg (pathV a v s)) 1).run Try.prog w = .ok v w := by kernel_rfl
def seenS (e : St8) : Ent := (joinB e.ns, e.x.ino)
theorem infoSeen : (Try.prog.info? 44).map (fun i => (i.zero, i.size, i.bytes)) = some (some (.agg #[.string ⟨#[]⟩, .int .i64 0]), 2, 24) := by kernel_rfl

set_option maxRecDepth 100000 in
set_option maxHeartbeats 4000000 in
theorem BelowW_any (mi mb nx : Int) (l : List Nd) (t : Tree l) (hsh : ∀ x ∈ l, shortP 300 x.ents) (hl : l.length ≤ 100) (v : Value) (w : World) (hv : Nds w v l) (ino : Int) (p : List UInt8) (hp : p.length ≤ 2000) (hlen : (walkS l ino (namesB p)).length ≤ 1000000) :
    Calls Try.prog 33 #[.agg (fsC mi mb nx v), .int .i64 ino, .string ⟨p.toArray⟩] w fun e w' => ∃ y, e = .returned y ∧ w'.ownsRow w.heap.size 44 2 y (walkS l ino (namesB p)).length (entsV ((walkS l ino (namesB p)).map (fun q => (joinB q.1, q.2)))) ∧ Below w.heap.size w w' := by
  obtain ⟨i0, hi, hz0, hz1, hz2⟩ := info_parts infoSeen
  obtain ⟨af, cf, rfl⟩ := nds_slice hv
  have hmx : Try.prog.follows .mixedOrders = true := by kernel_rfl
  refine (callsIn_wide (n := 6)).1 ?_
  (refine callsIn_of_wp_marks Try.func33 rfl trivial ?_ rfl; simp only [Try.ntmps33, List.size_toArray, List.length_cons, List.length_nil, Nat.reduceAdd, Nat.reduceSub, Array.replicate_succ, Array.replicate_zero, List.push_toArray, List.append_toArray, List.nil_append, List.cons_append])
  gi_upto_region 2 with fail
  have bF := (Blk.new w 24 (fsC mi mb nx (.slice af l.length cf))).alloc (.cells #[.slice none 0 0] 41)
  have bA := Blk.new (w.alloc (.cells (fsC mi mb nx (.slice af l.length cf)) 24)) 41 #[.slice none 0 0]
  rw [World.size_alloc] at bA
  have hB0 : Below w.heap.size w ((w.alloc (.cells (fsC mi mb nx (.slice af l.length cf)) 24)).alloc (.cells #[.slice none 0 0] 41)) := ((Below.refl _ w).alloc (Nat.le_refl _) _).alloc (by simp) _
  have hs2 : ((w.alloc (.cells (fsC mi mb nx (.slice af l.length cf)) 24)).alloc (.cells #[.slice none 0 0] 41)).heap.size = w.heap.size + 2 := by simp
  generalize (w.alloc (.cells (fsC mi mb nx (.slice af l.length cf)) 24)).alloc (.cells #[.slice none 0 0] 41) = w2 at *
  have HMK : ∀ W, Below w2.heap.size w2 W → (W.cell? ⟨w.heap.size, 0, none⟩ = some (.int .i64 mi) ∧ W.cell? ⟨w.heap.size, 1, none⟩ = some (.int .i64 mb) ∧ W.cell? ⟨w.heap.size, 2, none⟩ = some (.int .i64 nx) ∧ W.cell? ⟨w.heap.size, 3, none⟩ = some (.slice af l.length cf)) := fun W h => (bF.next h).four.1
  have hq := (Below.refl w2.heap.size w2).drew
  have HT := Lib.hid t
  have HHS := Lib.hid hsh
  have HLN := Lib.hid hlen
  clear t hsh hlen
  refine wpIn_wide.2 ?_
  go_region_held3 (fun W => W.cell? ⟨w.heap.size, 0, none⟩ = some (.int .i64 mi) ∧ W.cell? ⟨w.heap.size, 1, none⟩ = some (.int .i64 mb) ∧ W.cell? ⟨w.heap.size, 2, none⟩ = some (.int .i64 nx) ∧ W.cell? ⟨w.heap.size, 3, none⟩ = some (.slice af l.length cf))
    (first | with_reducible exact HMK _ hq | with_reducible exact HMK _ hq5)
    (first
      | (go_at_call 45; refine (Read_any p (by omega) _).mono ?_; rintro e w3 ⟨y, rfl, hown, b3⟩; obtain ⟨na, nc, rfl⟩ := own_slice hown; have hq := hq.trans (b3.mono hq.size); have hfi := field1r (absB p) (.slice na (namesB p).length nc) (slashB p))
      | (go_at_call 44; refine (steps_any mi mb nx ino _ na (namesB p).length nc _).mono ?_; rintro e w5 ⟨rfl, hw5⟩; obtain ⟨b5, bf5, bi5, bn5⟩ := steps_blocks hw5; clear hw5; have hq5 := hq.trans (b5.mono hq.size)))
  have hst5 := (own_strs hown).below b5
  have hnl := (own_strs hown)
  have hsl5 : ∀ g, Value.ownBlock (.slice na (namesB p).length nc) = some g → w2.heap.size ≤ g ∧ g < w3.heap.size := fun g hg => hown.lt g hg
  obtain ⟨hnc, hncm, hna⟩ : (namesB p).length ≤ nc ∧ nc ≤ maxLen ∧ (na = none → (namesB p).length = 0 ∧ nc = 0) := by
    rcases own_cases hown with ⟨h, h0, _⟩ | ⟨g, c, h, _, _, h1, h2⟩
    · simp only [Value.slice.injEq] at h; obtain ⟨rfl, h3, rfl⟩ := h; exact ⟨by omega, Nat.zero_le _, fun _ => ⟨h3, rfl⟩⟩
    · simp only [Value.slice.injEq] at h; obtain ⟨rfl, _, rfl⟩ := h; exact ⟨h1, h2, fun h => by cases h⟩
  have bA5 := bA.next hq5
  have hB5 := hB0.trans (hq5.mono hB0.size)
  have h35 : w3.heap.size + 2 < w5.heap.size := bn5.lt
  have h23 := hq.size
  have hnm := namesB_count p
  have hnt := namesB_total p
  clear bA bF hB0 HMK hq hq5 b5 hown hnl hfi b3
  gi_wp2
  have hwAll : w.heap.size + 1 < w3.heap.size := by have : w2.drew.heap.size = w2.heap.size := rfl; omega
  refine wpIn_rangeFunc_mine rfl (by omega) (gf := 53) (lb := #[.pointer (some ⟨w3.heap.size, 0, none⟩), .pointer (some ⟨w3.heap.size + 1, 0, none⟩), .pointer (some ⟨w3.heap.size + 2, 0, none⟩)]) rfl trivial (enters_of Try.func53 (by kernel_rfl) rfl)
    (steps_stops (6 - 1) (by omega) mi mb nx l HT.out HHS.out hl _ w hv ino (namesB p) na _ nc w3.heap.size (by omega) (by have := names_tail p; omega) hnc hncm hna w5 hB5 bf5 bi5 bn5 hst5 (fun g hg => by have := (hsl5 g hg).2; omega))
    hB5.size (fun k hk => hk.elim (fun h => by omega) (fun h => by have := (hsl5 k h).2; omega)) (Below.refl _ _) (fun _ => rfl)
    (RowI w w.heap.size (w.heap.size + 1) 41 44 2 (fun pre => pre.length) (fun pre => entsV (pre.map seenS))) (fun _ _ _ _ => False)
    (RowI.abides (Nat.le_refl _)) (fun _ _ _ _ _ _ h _ _ => h) (RowI.book (Nat.le_refl _) hB5.size) (fun _ _ _ _ _ _ h _ _ => h)
    ⟨⟨_, bA5, World.ownsRow_nil _ _ _ _, fun h => h.elim (fun h => by omega) (fun h => by have := (hsl5 _ h).1; omega), fun g hg => by simp [Value.ownBlock] at hg⟩, hB5, fun r h => h.elim (fun h => by omega) (fun h => by have := (hsl5 _ h).1; omega)⟩
    (fun x a' W => RdS l x W ∧ ∃ Bx, w.heap.size ≤ Bx ∧ Blk W Bx 33 (ndC x.x) ∧ a' = { tmps := #[.agg (fsC mi mb nx (.slice af l.length cf)), .int .i64 ino, .string ⟨p.toArray⟩, .pointer (some ⟨w.heap.size, 0, none⟩), undef, undef, .slice none 0 0, .pointer (some ⟨w.heap.size + 1, 0, none⟩), x.v, .pointer (some ⟨Bx, 0, none⟩),
      .agg #[.int .i64 mi, .int .i64 mb, .int .i64 nx, .slice af l.length cf], .int .i64 ino, .string ⟨p.toArray⟩, .agg (pathV (absB p) (.slice na (namesB p).length nc) (slashB p)), .slice na (namesB p).length nc,
      .func (.func 53) #[] #[.pointer (some ⟨w3.heap.size, 0, none⟩), .pointer (some ⟨w3.heap.size + 1, 0, none⟩), .pointer (some ⟨w3.heap.size + 2, 0, none⟩)], x.v, .agg (ndC x.x), undef, undef, undef, undef, undef, undef, undef, undef, undef], defers := [] })
    (fun x a' => (Own.from (fun s A B row hs hg hr => ⟨⟨strs_own x.v x.ns () A B row hs.1.1 hg hr, hs.1.2⟩, by obtain ⟨Bx, h1, h2, h3⟩ := hs.2; exact ⟨Bx, h1, blk_own (β := Unit) Bx _ (fun _ => ndC x.x) () A B row h2 hg hr, h3⟩⟩) _)) ?assign ?body ?done ?stop
  case assign =>
    intro l' m pre x W K hl' hI hRd hms hsz hK
    obtain ⟨xns, xv, xi, xk, xl, xd, xp, xe, xn⟩ := x
    obtain ⟨ae, ce, hxe, _⟩ := hv.all _ hRd.2.1
    dsimp only at hxe
    subst hxe
    gi_wp2
    exact hK _ _ ((KeepsOthers.alloc W _).from _) (KeptM.of_below (alloc_below W _) (by have := hI.2.1.size; omega) hms) (RowI.abides (Nat.le_refl _) m m pre W _ hI (Turned.of_below (alloc_below W _)) (fun r h => .inl h)) ⟨⟨hRd.1.below (alloc_below W _), hRd.2⟩, W.heap.size, hI.2.1.size, Blk.new W _ _, rfl⟩
  case body =>
    rintro l' m pre x a' W rfl ⟨rl, hrl⟩ hD hmD hml hms ⟨⟨vv, hvv, hrow, hmB, hmv⟩, hBW, hmn⟩ ⟨hRd, Bx, hBx, bX, rfl⟩ hpre
    obtain ⟨xns, xv, xi, xk, xl, xd, xp, xe, xn⟩ := x
    obtain ⟨hst, hxl, hxn, hxt⟩ := hRd
    dsimp only at hst hxl hxn hxt bX
    obtain ⟨av, cv, rfl⟩ := own_slice hrow
    have hnw : w.heap.size ≤ W.heap.size := hBW.size
    have cA := (hvv.cell 0).trans (rfl : _ = some (Value.slice av pre.length cv))
    have cX := (bX.cell 0).trans (rfl : _ = some (Value.int .i64 xi))
    gi_wp2
    have hlnn := HLN.out
    have hjn := Join_any xns xv W.drew hst (by omega) (by have := interB_len_tail xns; omega)
    have hlnn := HLN.out
    (refine wpIn_region_heldG (fun W' => W'.cell? ⟨Bx, 0, none⟩ = some (.int .i64 xi)) (by kernel_rfl) (cX) (fun hHeld => ?_))
    (refine takeG 1 (some 19) (v := ?_) (fun _ => trivial) (by kernel_rfl) rfl rfl (by kernel_rfl) (by kernel_rfl) (by kernel_rfl) (fun _ _ _ h => h) (by rfl) ?_ (by assumption) ?_; rotate_left; (focus (intro w hSw; (try dsimp only at hSw); go_simp; try with_reducible rfl)); (try simp only [Act.put, List.setIfInBounds_toArray, List.set_cons_zero, List.set_cons_succ]))
    (refine takeG 3 (some 21) (v := ?_) (fun _ => trivial) (by kernel_rfl) rfl rfl (by kernel_rfl) (by kernel_rfl) (by kernel_rfl) (fun _ _ _ h => h) (by rfl) ?_ (by assumption) ?_; rotate_left; (focus (intro w hSw; (try dsimp only at hSw); go_simp; try with_reducible rfl)); (try simp only [Act.put, List.setIfInBounds_toArray, List.set_cons_zero, List.set_cons_succ]))
    (refine takeG 4 (some 22) (v := ?_) (fun _ => trivial) (by kernel_rfl) rfl rfl (by kernel_rfl) (by kernel_rfl) (by kernel_rfl) (fun _ _ _ h => h) (by rfl) ?_ (by assumption) ?_; rotate_left; (focus (intro w hSw; (try dsimp only at hSw); go_simp; try with_reducible rfl)); (try simp only [Act.put, List.setIfInBounds_toArray, List.set_cons_zero, List.set_cons_succ]))
    (refine readyG (rs := [0, 2]) (by kernel_rfl) (by simp) ?_; refine AllReadyG.cons rfl (fun K hK => ?_) (AllReadyG.cons rfl (fun K hK => ?_) AllReadyG.nil))
    · (go_simp; skip; (try dsimp only); refine hK.out _ _ (cX) (fun hHeld => ?_); clear hK K; (try simp only [Act.put, List.setIfInBounds_toArray, List.set_cons_zero, List.set_cons_succ]))
      (refine readyG (rs := [2]) (by kernel_rfl) (by simp) ?_; refine AllReadyG.cons rfl (fun K hK => ?_) AllReadyG.nil; go_simp; (refine ⟨trivial, ?_⟩; refine (CallsIn.inRound _ (callsIn_wide.2 hjn)).mono ?_; rintro e w2j ⟨rfl, b2⟩; replace b2 := ((Below.refl W.heap.size W).drew).trans b2); (try dsimp only); refine hK.out _ _ ((b2.cell (p := ⟨Bx, 0, none⟩) bX.lt).trans cX) (fun hHeld => ?_); clear hK K; (try simp only [Act.put, List.setIfInBounds_toArray, List.set_cons_zero, List.set_cons_succ]))
      have bX2 := bX.next b2
      have cX2 := ((bX2.alloc (.cells #[.string ⟨(joinB xns).toArray⟩, .int .i64 xi] 44)).cell 0).trans (rfl : _ = some (Value.int .i64 xi))
      (refine takeG 5 (some 23) (v := ?_) (fun _ => trivial) (by kernel_rfl) rfl rfl (by kernel_rfl) (by kernel_rfl) (by kernel_rfl) (fun _ _ _ h => h) (by rfl) ?_ (by assumption) ?_; rotate_left; (focus (intro w hSw; (try dsimp only at hSw); go_simp; try with_reducible rfl)); (try simp only [Act.put, List.setIfInBounds_toArray, List.set_cons_zero, List.set_cons_succ]))
      (refine readyG (rs := [6]) (by kernel_rfl) (by simp) ?_; refine AllReadyG.cons rfl (fun K hK => ?_) AllReadyG.nil; go_simp; skip; (try dsimp only); refine hK.out _ _ (cX2) (fun hHeld => ?_); clear hK K; (try simp only [Act.put, List.setIfInBounds_toArray, List.set_cons_zero, List.set_cons_succ]))
      (refine readyG (rs := [7]) (by kernel_rfl) (by simp) ?_; refine AllReadyG.cons rfl (fun K hK => ?_) AllReadyG.nil; (refine stepG_append_here rfl (.tmp 18) (.tmp 24) 41 44 rfl Try.underlying41 hi hz0 hz1 hz2 rfl (by decide) (by decide) w.heap.size (v := .slice av pre.length cv) ⟨w2j.heap.size, 0, none⟩ 1 [.string ⟨(joinB xns).toArray⟩, .int .i64 xi] rfl rfl ((own_keep hrow b2).alloc _) rfl (cell_two_new _ _ _ _) (by simp [Value.oneCell']) (by omega) (by have := b2.size; simp; omega) ?_; intro v9 w9 hown9 hgr9 hnew9; have hRX := ((bX2.alloc (.cells #[.string ⟨(joinB xns).toArray⟩, .int .i64 xi] 44)).kept hgr9 (bX2.not_row (by decide) (own_keep hrow b2))); have cX9 := (hRX.cell 0).trans (rfl : _ = some (Value.int .i64 xi)); obtain ⟨g9, c9, rfl⟩ := ownsRow_succ hown9); (try dsimp only); refine hK.out _ _ (cX9) (fun hHeld => ?_); clear hK K; (try simp only [Act.put, List.setIfInBounds_toArray, List.set_cons_zero, List.set_cons_succ]))
      obtain ⟨k1, k2, k3⟩ := boxrow_next (m := m) (by decide) hvv hrow hmB hmv hms hnw (by omega) b2 hown9 hgr9 hnew9
      have hA9 := ((hvv.next b2).alloc (.cells #[.string ⟨(joinB xns).toArray⟩, .int .i64 xi] 44)).kept hgr9 ((hvv.next b2).not_row (by decide) (own_keep hrow b2))
      have cA9 := (hA9.cell 0).trans (rfl : _ = some (Value.slice av pre.length cv))
      have fA9 := hA9.frozen 0
      have hXe := hRX.other (B2 := w.heap.size + 1) (i := 0) (fun e => by subst e; have := hA9.symm.trans hRX; simp at this) (.slice (some ⟨g9, 0, none⟩) (pre.length + 1) c9)
      have cXe := (hXe.cell 0).trans (rfl : _ = some (Value.int .i64 xi))
      (refine readyG (rs := [8]) (by kernel_rfl) (by simp) ?_; refine AllReadyG.cons rfl (fun K hK => ?_) AllReadyG.nil; go_simp; skip; (try dsimp only); refine hK.out _ _ (cXe) (fun hHeld => ?_); clear hK K; (try simp only [Act.put, List.setIfInBounds_toArray, List.set_cons_zero, List.set_cons_succ]))
      refine doneG (by kernel_rfl) ?_ _
      clear hHeld
      refine ⟨⟨(k1.same _ _ hD rfl).trans hD.symm, (k1.same _ _ hrl rfl).trans hrl.symm⟩, k2, ?_, hBW.trans k2.below, hmn⟩
      simpa [seenS, entsV_append, entsV] using k3
    · (go_simp; (refine ⟨trivial, ?_⟩; refine (CallsIn.inRound _ (callsIn_wide.2 hjn)).mono ?_; rintro e w2j ⟨rfl, b2⟩; replace b2 := ((Below.refl W.heap.size W).drew).trans b2; have cA := ((hvv.next b2).cell 0).trans (rfl : _ = some (Value.slice av pre.length cv))); (try dsimp only); refine hK.out _ _ ((b2.cell (p := ⟨Bx, 0, none⟩) bX.lt).trans cX) (fun hHeld => ?_); clear hK K; (try simp only [Act.put, List.setIfInBounds_toArray, List.set_cons_zero, List.set_cons_succ]))
      have bX2 := bX.next b2
      have cX2 := ((bX2.alloc (.cells #[.string ⟨(joinB xns).toArray⟩, .int .i64 xi] 44)).cell 0).trans (rfl : _ = some (Value.int .i64 xi))
      have cA2 := (((hvv.next b2).alloc (.cells #[.string ⟨(joinB xns).toArray⟩, .int .i64 xi] 44)).cell 0).trans (rfl : _ = some (Value.slice av pre.length cv))
      (refine takeG 5 (some 23) (v := ?_) (fun _ => trivial) (by kernel_rfl) rfl rfl (by kernel_rfl) (by kernel_rfl) (by kernel_rfl) (fun _ _ _ h => h) (by rfl) ?_ (by assumption) ?_; rotate_left; (focus (intro w hSw; (try dsimp only at hSw); go_simp; try with_reducible rfl)); (try simp only [Act.put, List.setIfInBounds_toArray, List.set_cons_zero, List.set_cons_succ]))
      (refine readyG (rs := [0, 6]) (by kernel_rfl) (by simp) ?_; refine AllReadyG.cons rfl (fun K hK => ?_) (AllReadyG.cons rfl (fun K hK => ?_) AllReadyG.nil))
      · (go_simp; skip; (try dsimp only); refine hK.out _ _ (hHeld) (fun hHeld => ?_); clear hK K; (try simp only [Act.put, List.setIfInBounds_toArray, List.set_cons_zero, List.set_cons_succ]))
        (refine readyG (rs := [6]) (by kernel_rfl) (by simp) ?_; refine AllReadyG.cons rfl (fun K hK => ?_) AllReadyG.nil; go_simp; skip; (try dsimp only); refine hK.out _ _ (cX2) (fun hHeld => ?_); clear hK K; (try simp only [Act.put, List.setIfInBounds_toArray, List.set_cons_zero, List.set_cons_succ]))
        (refine readyG (rs := [7]) (by kernel_rfl) (by simp) ?_; refine AllReadyG.cons rfl (fun K hK => ?_) AllReadyG.nil; (refine stepG_append_here rfl (.tmp 18) (.tmp 24) 41 44 rfl Try.underlying41 hi hz0 hz1 hz2 rfl (by decide) (by decide) w.heap.size (v := .slice av pre.length cv) ⟨w2j.heap.size, 0, none⟩ 1 [.string ⟨(joinB xns).toArray⟩, .int .i64 xi] rfl rfl ((own_keep hrow b2).alloc _) rfl (cell_two_new _ _ _ _) (by simp [Value.oneCell']) (by omega) (by have := b2.size; simp; omega) ?_; intro v9 w9 hown9 hgr9 hnew9; have hRX := ((bX2.alloc (.cells #[.string ⟨(joinB xns).toArray⟩, .int .i64 xi] 44)).kept hgr9 (bX2.not_row (by decide) (own_keep hrow b2))); have cX9 := (hRX.cell 0).trans (rfl : _ = some (Value.int .i64 xi)); obtain ⟨g9, c9, rfl⟩ := ownsRow_succ hown9); (try dsimp only); refine hK.out _ _ (cX9) (fun hHeld => ?_); clear hK K; (try simp only [Act.put, List.setIfInBounds_toArray, List.set_cons_zero, List.set_cons_succ]))
        obtain ⟨k1, k2, k3⟩ := boxrow_next (m := m) (by decide) hvv hrow hmB hmv hms hnw (by omega) b2 hown9 hgr9 hnew9
        have hA9 := ((hvv.next b2).alloc (.cells #[.string ⟨(joinB xns).toArray⟩, .int .i64 xi] 44)).kept hgr9 ((hvv.next b2).not_row (by decide) (own_keep hrow b2))
        have cA9 := (hA9.cell 0).trans (rfl : _ = some (Value.slice av pre.length cv))
        have fA9 := hA9.frozen 0
        have hXe := hRX.other (B2 := w.heap.size + 1) (i := 0) (fun e => by subst e; have := hA9.symm.trans hRX; simp at this) (.slice (some ⟨g9, 0, none⟩) (pre.length + 1) c9)
        have cXe := (hXe.cell 0).trans (rfl : _ = some (Value.int .i64 xi))
        (refine readyG (rs := [8]) (by kernel_rfl) (by simp) ?_; refine AllReadyG.cons rfl (fun K hK => ?_) AllReadyG.nil; go_simp; skip; (try dsimp only); refine hK.out _ _ (cXe) (fun hHeld => ?_); clear hK K; (try simp only [Act.put, List.setIfInBounds_toArray, List.set_cons_zero, List.set_cons_succ]))
        refine doneG (by kernel_rfl) ?_ _
        clear hHeld
        refine ⟨⟨(k1.same _ _ hD rfl).trans hD.symm, (k1.same _ _ hrl rfl).trans hrl.symm⟩, k2, ?_, hBW.trans k2.below, hmn⟩
        simpa [seenS, entsV_append, entsV] using k3
      · (go_simp; skip; (try dsimp only); refine hK.out _ _ (cX2) (fun hHeld => ?_); clear hK K; (try simp only [Act.put, List.setIfInBounds_toArray, List.set_cons_zero, List.set_cons_succ]))
        (refine readyG (rs := [0]) (by kernel_rfl) (by simp) ?_; refine AllReadyG.cons rfl (fun K hK => ?_) AllReadyG.nil; go_simp; skip; (try dsimp only); refine hK.out _ _ (cX2) (fun hHeld => ?_); clear hK K; (try simp only [Act.put, List.setIfInBounds_toArray, List.set_cons_zero, List.set_cons_succ]))
        (refine readyG (rs := [7]) (by kernel_rfl) (by simp) ?_; refine AllReadyG.cons rfl (fun K hK => ?_) AllReadyG.nil; (refine stepG_append_here rfl (.tmp 18) (.tmp 24) 41 44 rfl Try.underlying41 hi hz0 hz1 hz2 rfl (by decide) (by decide) w.heap.size (v := .slice av pre.length cv) ⟨w2j.heap.size, 0, none⟩ 1 [.string ⟨(joinB xns).toArray⟩, .int .i64 xi] rfl rfl ((own_keep hrow b2).alloc _) rfl (cell_two_new _ _ _ _) (by simp [Value.oneCell']) (by omega) (by have := b2.size; simp; omega) ?_; intro v9 w9 hown9 hgr9 hnew9; have hRX := ((bX2.alloc (.cells #[.string ⟨(joinB xns).toArray⟩, .int .i64 xi] 44)).kept hgr9 (bX2.not_row (by decide) (own_keep hrow b2))); have cX9 := (hRX.cell 0).trans (rfl : _ = some (Value.int .i64 xi)); obtain ⟨g9, c9, rfl⟩ := ownsRow_succ hown9); (try dsimp only); refine hK.out _ _ (cX9) (fun hHeld => ?_); clear hK K; (try simp only [Act.put, List.setIfInBounds_toArray, List.set_cons_zero, List.set_cons_succ]))
        obtain ⟨k1, k2, k3⟩ := boxrow_next (m := m) (by decide) hvv hrow hmB hmv hms hnw (by omega) b2 hown9 hgr9 hnew9
        have hA9 := ((hvv.next b2).alloc (.cells #[.string ⟨(joinB xns).toArray⟩, .int .i64 xi] 44)).kept hgr9 ((hvv.next b2).not_row (by decide) (own_keep hrow b2))
        have cA9 := (hA9.cell 0).trans (rfl : _ = some (Value.slice av pre.length cv))
        have fA9 := hA9.frozen 0
        have hXe := hRX.other (B2 := w.heap.size + 1) (i := 0) (fun e => by subst e; have := hA9.symm.trans hRX; simp at this) (.slice (some ⟨g9, 0, none⟩) (pre.length + 1) c9)
        have cXe := (hXe.cell 0).trans (rfl : _ = some (Value.int .i64 xi))
        (refine readyG (rs := [8]) (by kernel_rfl) (by simp) ?_; refine AllReadyG.cons rfl (fun K hK => ?_) AllReadyG.nil; go_simp; skip; (try dsimp only); refine hK.out _ _ (cXe) (fun hHeld => ?_); clear hK K; (try simp only [Act.put, List.setIfInBounds_toArray, List.set_cons_zero, List.set_cons_succ]))
        refine doneG (by kernel_rfl) ?_ _
        clear hHeld
        refine ⟨⟨(k1.same _ _ hD rfl).trans hD.symm, (k1.same _ _ hrl rfl).trans hrl.symm⟩, k2, ?_, hBW.trans k2.below, hmn⟩
        simpa [seenS, entsV_append, entsV] using k3
  case done =>
    rintro m xs W hxs ⟨⟨vv, hvv, hrow, hmB, hmv⟩, hBW, hmn⟩ hmD hml hD
    have e1 : xs.length = (walkS l ino (namesB p)).length := by rw [← hxs, List.length_map]
    have e2 : xs.map seenS = (walkS l ino (namesB p)).map (fun q => (joinB q.1, q.2)) := by rw [← hxs, List.map_map]; rfl
    dsimp only at hrow ⊢
    rw [e1, e2] at hrow
    clear e1 e2 hxs
    obtain ⟨av, cv, rfl⟩ := own_slice hrow
    have cA := (hvv.cell 0).trans (rfl : _ = some (Value.slice av (walkS l ino (namesB p)).length cv))
    gi_wp2
    refine ⟨by simp, .inl ⟨_, _, rfl, run_takeDeferred hD, ?_⟩⟩
    refine ⟨_, results_tmp rfl _ _ _, _, rfl, ownsRow_putObj hrow _ hD rfl, hBW.trans (belowK_b (w := w) (Nat.le_refl _) W w5.heap.size _ _ hB5.size hD rfl rfl)⟩
  case stop => intro c m pre W _ h; exact h.elim

/-- As the document has it. -/
theorem walk_below {l : List Nd} (t : Tree l) (ino : Int) {p : List UInt8} (hp : joinB (namesB p) = p) : (walkS l ino (namesB p)).map (fun q => (joinB q.1, q.2)) = belowN l (l.length + 1) ino p := by
  have := below_tree t (l.length + 1) ino (namesB p) (namesB_good p)
  rw [hp] at this
  exact this.symm

set_option maxHeartbeats 1000000 in
theorem ListW_any (mi mb nx : Int) (l : List Nd) (t : Tree l) (hsh : ∀ x ∈ l, shortP 300 x.ents) (hl : l.length ≤ 100) (v : Value) (w : World) (hv : Nds w v l) (hlen : (listN l).length ≤ 1000000) :
    Calls Try.prog 18 #[.agg (fsC mi mb nx v)] w fun e w' => ∃ y, e = .returned y ∧ w'.ownsRow w.heap.size 44 2 y (listN l).length (entsV (listN l)) ∧ Below w.heap.size w w' := by
  obtain ⟨af, cf, rfl⟩ := nds_slice hv
  have hE : (walkS l 1 (namesB [47])).map (fun q => (joinB q.1, q.2)) = listN l := walk_below t 1 rfl
  have hE2 : (walkS l 1 (namesB [47])).length = (listN l).length := by rw [← hE, List.length_map]
  have bF := Blk.new w 24 (fsC mi mb nx (.slice af l.length cf))
  have hB := alloc_below w (.cells (fsC mi mb nx (.slice af l.length cf)) 24)
  have HC := fun W (h : Below w.heap.size w W) => BelowW_any mi mb nx l t hsh hl _ W (hv.below h) 1 [47] (by simp) (by rw [hE2]; exact hlen)
  rw [hE, hE2] at HC
  clear hE hE2
  have HCC := Lib.hid HC
  clear HC t hsh hv hlen
  have HMK : ∀ W, Below (w.heap.size + 1) (w.alloc (.cells (fsC mi mb nx (.slice af l.length cf)) 24)) W → (W.cell? ⟨w.heap.size, 0, none⟩ = some (.int .i64 mi) ∧ W.cell? ⟨w.heap.size, 1, none⟩ = some (.int .i64 mb) ∧ W.cell? ⟨w.heap.size, 2, none⟩ = some (.int .i64 nx) ∧ W.cell? ⟨w.heap.size, 3, none⟩ = some (.slice af l.length cf)) := fun W h => (bF.below h (Nat.lt_succ_self _)).four.1
  have hq := (Below.refl (w.heap.size + 1) (w.alloc (.cells (fsC mi mb nx (.slice af l.length cf)) 24))).drew
  have hj := Join_any [] (.slice none 0 0) ((w.alloc (.cells (fsC mi mb nx (.slice af l.length cf)) 24)).drew) (Strs.nil_ _) (by simp) (by simp [interB])
  go_enter Try.func18, Try.ntmps18
  go_upto_region 1 with fail
  go_region_held3 (fun W => W.cell? ⟨w.heap.size, 0, none⟩ = some (.int .i64 mi) ∧ W.cell? ⟨w.heap.size, 1, none⟩ = some (.int .i64 mb) ∧ W.cell? ⟨w.heap.size, 2, none⟩ = some (.int .i64 nx) ∧ W.cell? ⟨w.heap.size, 3, none⟩ = some (.slice af l.length cf))
    (first | with_reducible exact HMK _ hq | with_reducible exact HMK _ hq5)
    (first
      | (go_at_call 34; refine hj.mono ?_; rintro e w3 ⟨rfl, b3⟩; have hq := hq.trans (b3.mono (by simp)))
      | (go_at_call 33; refine (HCC.out _ ((hB.trans (hq.mono (by simp))))).mono ?_; rintro e w5 ⟨y, rfl, hown, b5⟩; have hq5 := hq.trans (b5.mono (by have := hq.size; simp at this; omega))))
  go_wp2
  go_ret
  exact ⟨y, rfl, own_base hown (by have := hq.size; simp at this; omega), hB.trans (hq5.mono (by simp))⟩
end Go.Proofs.Ytpeghnhaekebdaa

/- Walks: the program's Of. -/
set_option linter.unusedVariables false
set_option linter.unusedSimpArgs false
namespace Go.Proofs.Ytpeghnhaekebdaa
open Go.RowKit

theorem int_ino {mi mb nx : Int} {l : List Nd} (h : OkS mi mb nx l) {i : Int} (hi : hasN l i = true) : IntB i := by
  obtain ⟨h1, h2⟩ := get_mem hi
  have hf := (check_parts h.check).1
  unfold firstB limB at hf
  simp only [Bool.and_eq_true, List.all_eq_true, decide_eq_true_eq] at hf
  have h3 := hf.1.2 _ h1
  unfold inoB at h3
  simp only [Bool.and_eq_true, decide_eq_true_eq] at h3
  rw [h2] at h3
  exact int_b (by omega) (by omega)
theorem list_has {l : List Nd} (t : Tree l) {k : Nat} (h : k < (listN l).length) : hasN l (listN l)[k].2 = true := by
  obtain ⟨ns, s, _, _, he, _⟩ := list_at t h
  exact he.has
theorem Blk.put1 {W : World} {B : Nat} {t : TypeId} {a b c d : Value} (h : Blk W B t #[a, b, c, d]) (p : Value) : ∃ W', W.setCell ⟨B, 0, none⟩ p = W' ∧ Blk W' B t #[p, b, c, d] ∧ W.grownBy W' (some B) :=
  ⟨_, rfl, h.set 0 p, grownBy_set W B 0 p⟩
set_option maxHeartbeats 8000000 in
set_option maxRecDepth 100000 in
theorem Of16_any (mi mb nx : Int) (l : List Nd) (v : Value) (w : World) (hv : Nds w v l) (hok : OkS mi mb nx l) (ht : Trim l) :
    Calls Try.prog 9 #[.agg (fsC mi mb nx v)] w fun e w' => ∃ y, e = .returned y ∧ Shps w' y (shapeN l) ∧ Below w.heap.size w w' := by
  obtain ⟨i0, hi, hz0, hz1, hz2⟩ := info_parts infoSh
  have hmm := @run_makeMap Try.prog
  have tr := tree_c hok.check
  obtain ⟨a, ca, rfl⟩ := nds_slice hv
  have bF := (Blk.new w 24 (fsC mi mb nx (.slice a l.length ca))).alloc (.map #[] 0)
  have hB0 := alloc_below w (.cells (fsC mi mb nx (.slice a l.length ca)) 24)
  have hF0 := Firsts.made (w.alloc (.cells (fsC mi mb nx (.slice a l.length ca)) 24))
  have hB := hB0.alloc (by simp) (.map #[] 0)
  simp only [World.size_alloc] at hF0
  have nV := hv.below hB
  have hC := ListW_any mi mb nx l tr ht.short ht.len _ _ nV ht.walk
  have HP : Hid (shapeN l = shpT l (listN l) (listN l).length) := shpT_end l
  have hhas : ∀ k (h : k < (listN l).length), IntB (listN l)[k].2 := fun k h => int_ino hok (list_has tr h)
  have htw := ht.walk
  have hrise := tr.rise
  have hl100 := ht.len
  have hdat : ∀ x ∈ l, x.data.length ≤ 281474976710656 := fun x hx => by have := (hok.calm.size x hx).2.1; omega
  generalize listN l = L at *
  have HH := Lib.hid hhas
  have HV := Lib.hid hv
  have HR := Lib.hid hrise
  have HD := Lib.hid hdat
  have hsz0 : w.heap.size + 2 = ((w.alloc (.cells (fsC mi mb nx (.slice a l.length ca)) 24)).alloc (.map #[] 0)).heap.size := by simp
  obtain ⟨⟨p0, p1, p2, p3⟩, _⟩ := bF.four
  clear hhas hv hrise hdat nV hB0 ht tr hok
  generalize hW0 : (w.alloc (.cells (fsC mi mb nx (.slice a l.length ca)) 24)).alloc (.map #[] 0) = w0 at *
  go_enter Try.func9, Try.ntmps9
  go_wp2_with fail
  clear hW0
  refine hC.mono ?_
  rintro e w2 ⟨y, rfl, hown, b2⟩
  have hE := own_ents hown
  have hFl := bF.lt
  have bF2 := bF.next b2
  have hF2 := hF0.next b2
  have hB2 := hB.trans (b2.mono hB.size)
  have hs2 := b2.size
  obtain ⟨ay, cy, rfl, hE1, hE2, hE3⟩ := id hE
  unfold maxLen at hE2
  have HE := Lib.hid hE3
  have HBF := Lib.hid bF2
  have HOY := Lib.hid hown
  have HF2 := Lib.hid hF2
  clear hC p0 p1 p2 p3 hE3 hown hE b2 bF bF2 hF0 hF2 hB hmm
  go_wp2
  go_loopw [3, 16] (fun s3 s16 wr => ∃ k : Nat, k ≤ L.length ∧ s16 = .int .i64 k ∧ Below w.heap.size w wr ∧ But16 (w.heap.size + 1) w2.heap.size w2 wr ∧ Aside (Firsts wr (w.heap.size + 1) (inosT L k)) ∧ Aside (wr.ownsRow w2.heap.size 37 4 s3 (shpT l L k).length (shpsV (shpT l L k)))) (fun _ s16 _ => L.length - (intOf s16).toNat)
  case atStart => exact ⟨0, Nat.zero_le _, rfl, hB2, But16.refl _ _ _, HF2.out, World.ownsRow_nil _ _ _ _⟩
  case round =>
    obtain ⟨k, hk, rfl, hbw, hbu, HM, HO⟩ := hrel
    obtain ⟨a4, c4, rfl⟩ := own_slice HO.out
    have hbu1 := hbu.1
    by_cases hlt : k < L.length
    · obtain ⟨b, o, rfl, hb, hcl⟩ := HE.out (by omega)
      have hbM : w0.heap.size ≤ b := (HOY.out.lt b rfl).1
      have hnx := shpT_next (l := l) hlt
      have hix := inosT_next hlt
      have hil := inosT_len hk
      have hzb := HH.out k hlt
      have hfn := first_new hlt
      have hfk := first_known (L := L) (k := k) (i := L[k].2)
      unfold shpOf at hnx
      have hlen := Nat.le_trans (shpT_len l L k) htw
      have hck := hcl k hlt
      clear hcl
      have hFl2 : ∀ f (hf : f < k), ∃ h : f < (shpT l L k).length, (shpT l L k)[f] = shpOf l L (L[f]'(by omega)) := fun f hf => ⟨by unfold shpT; rw [List.length_map, List.length_take]; omega, by unfold shpT; rw [List.getElem_map, List.getElem_take]⟩
      have hfat : ∀ h : firstE L L[k].2 < L.length, (L[firstE L L[k].2]'h).2 = L[k].2 := fun h => first_at h
      have hfle := first_le hlt
      generalize hen : L[k] = en at *
      obtain ⟨pa, z⟩ := en
      dsimp only at hck hnx hix hzb hfn hfk hfat hfle
      have c0 := (hbu.cell (p := ⟨b, o + k * 2, none⟩) hb (by show b ≠ _; omega)).trans hck.1
      have c1 := (hbu.cell (p := ⟨b, o + k * 2 + 1, none⟩) hb (by show b ≠ _; omega)).trans hck.2
      have k0 : (0 : Int) ≤ (k : Int) := by omega
      have k1 : (k : Int) < (L.length : Int) := by omega
      have hsA := alloc_below wr (.cells #[.string ⟨pa.toArray⟩, .int .i64 z] 44)
      have bS := Blk.new wr 44 #[.string ⟨pa.toArray⟩, .int .i64 z]
      have s0 := bS.cell 0
      have s1 := bS.cell 1
      simp only [List.getElem?_toArray, List.getElem?_cons_zero, List.getElem?_cons_succ] at s0 s1
      have hM1 := HM.out.next hsA
      have hO1 := HO.out.alloc (.cells #[.string ⟨pa.toArray⟩, .int .i64 z] 44)
      have hbwA := hbw.trans (hsA.mono hbw.size)
      have hbuA := hbu.down hsA hbu.1
      have hlk := hM1.look hzb
      obtain ⟨ag, ng, cg, hgs⟩ := get_slice HV.out z
      have HNX := Lib.hid hnx
      have HIX := Lib.hid hix
      clear hnx hix
      generalize shpT l L k = F at *
      by_cases hS : z ∈ inosT L k
      · rw [if_pos hS, decide_eq_true hS, hfk hS] at hlk
        have hfl : firstE L z < k := by rw [← hfk hS]; have := idx_lt hS; omega
        obtain ⟨g1, g2⟩ := hFl2 _ hfl
        have hzf := hfat (by omega)
        have hM2 := HM.out.again hS
        have hq0 := own_shps hO1
        obtain ⟨a', c', he, q1, q2, q3⟩ := hq0
        simp only [Value.slice.injEq] at he
        obtain ⟨he1, _, he2⟩ := he
        subst he1
        subst he2
        obtain ⟨br, ob, rfl, hbr, hq⟩ := q3 (by omega)
        have hl0 := hq _ g1
        rw [g2] at hl0
        unfold shpOf at hl0
        rw [hzf] at hl0
        clear hq q3 g2 hzf hFl2 hfk hfn hfat
        generalize (L[firstE L z]'(by omega)).1 = pf at *
        generalize getN l z = X at *
        obtain ⟨xi, xk, xl, xd, xp, xe, xn⟩ := X
        generalize firstE L z = f at *
        dsimp only at hl0
        obtain ⟨l0, l1, l2, l3⟩ := hl0
        have f0 : (0 : Int) ≤ (f : Int) := by omega
        have f1 : (f : Int) < (F.length : Int) := by omega
        clear hgs hfle
        generalize hWA : wr.alloc (.cells #[.string ⟨pa.toArray⟩, .int .i64 z] 44) = wa at *
        have hZ := alloc_below wa (.cells #[.string ⟨pf.toArray⟩, .int .i64 xk, .string ⟨xd.toArray⟩, .int .i64 (f : Int)] 37)
        have bZ := Blk.new wa 37 #[.string ⟨pf.toArray⟩, .int .i64 xk, .string ⟨xd.toArray⟩, .int .i64 (f : Int)]
        have bS6 := bS.next hZ
        obtain ⟨⟨z0, z1, z2, z3⟩, e0, e1, e2, e3⟩ := bZ.four
        obtain ⟨W', hW', bZ', hgZ⟩ := bZ.put1 (.string ⟨pa.toArray⟩)
        have s60 := bS6.cell 0
        simp only [List.getElem?_toArray, List.getElem?_cons_zero] at s60
        obtain ⟨⟨y0, y1, y2, y3⟩, _⟩ := bZ'.four
        have hszA := hsA.size
        have hszZ := hZ.size
        have hb5 := hbwA.trans (hZ.mono hbwA.size)
        have hb6 := below_grown hb5 hgZ (Nat.le_refl _) (by omega)
        have hu6 := (hbuA.down hZ (by omega)).grown hgZ (by omega) (fun g hg => by cases hg; right; omega)
        have hu6s := hu6.1
        have hsz6 := hu6.1
        have hO6 := (hO1.alloc (.cells #[.string ⟨pf.toArray⟩, .int .i64 xk, .string ⟨xd.toArray⟩, .int .i64 (f : Int)] 37)).kept hgZ (.inr (fun e => by have := (hO1.lt _ e).2; omega))
        have hM6 := ((hM2.next hsA).next hZ).kept hgZ (by simp; omega)
        rw [← HIX.out] at hM6
        go_wp2_with (at_builtin; refine wpList_append_here rfl (.tmp 59) (.tmp 61) 28 37 rfl Try.underlying28 hi hz0 hz1 hz2 rfl (by decide) (by decide) w2.heap.size (v := .slice (some ⟨br, ob, none⟩) F.length c4) #[.string ⟨pa.toArray⟩, .int .i64 xk, .string ⟨xd.toArray⟩, .int .i64 (f : Int)] 1 rfl rfl hO6 rfl (by simp [Value.oneCell']) (by omega) hsz6 ?_; intro v7 w7 hown7 hgr7 hnew7)
        have hA7 := alloc_below W' (.cells #[.string ⟨pa.toArray⟩, .int .i64 xk, .string ⟨xd.toArray⟩, .int .i64 (f : Int)] 37)
        have hg7 : ∀ g, Value.ownBlock (.slice (some ⟨br, ob, none⟩) F.length c4) = some g → w2.heap.size ≤ g := fun g hg => (HO.out.lt g hg).1
        have hb7 := (hb6.trans (hA7.mono hb6.size)).grown hgr7 (by have := hb6.size; have := hA7.size; omega) (fun g hg => by have := hg7 g hg; omega)
        have hu7 := (hu6.down hA7 hu6s).grown hgr7 (by have := hA7.size; omega) (fun g hg => .inr (hg7 g hg))
        have hM7 := (hM6.next hA7).kept hgr7 (fun e => by have := hg7 _ e.symm; omega)
        go_wp2
        go_roundw
        case rel => exact ⟨k + 1, by omega, by go_num, hb7, hu7, hM7, by (show World.ownsRow _ _ _ _ _ _ _); rw [HNX.out, List.length_append, shpsV_append]; exact hown7⟩
        case measure => simp [intOf]; omega
      · rw [if_neg hS, decide_eq_false hS] at hlk
        obtain ⟨w5, hrun, hM5, hg5⟩ := hM1.put hzb hS (by omega)
        rw [hil] at hrun
        rw [← HIX.out] at hM5
        have hfe := hfn hS
        have bS5 := bS.kept hg5 (by simp; omega)
        have hb5 : Below w.heap.size w w5 := below_grown hbwA hg5 (Nat.le_refl _) (by omega)
        have hO5 := hO1.kept hg5 (.inr (fun e => by have := (HO.out.lt _ e).1; omega))
        have hu5 := hbuA.grown hg5 (by have := hbu.1; have := hsA.size; omega) (fun g hg => by cases hg; exact .inl rfl)
        have bF5 := hu5.blk HBF.out (by omega) (by omega)
        have hG := GetN_any mi mb nx z l (.slice a l.length ca) w5 (HV.out.below hb5) HR.out (by omega) HD.out
        generalize getN l z = X at *
        obtain ⟨xi, xk, xl, xd, xp, xe, xn⟩ := X
        dsimp only at hgs
        subst hgs
        generalize hasN l z = r at *
        obtain ⟨⟨p0, p1, p2, p3⟩, _⟩ := bF5.four
        have s50 := bS5.cell 0
        have s51 := bS5.cell 1
        simp only [List.getElem?_toArray, List.getElem?_cons_zero, List.getElem?_cons_succ] at s50 s51
        clear hfk hfn hFl2 hfat hfle
        go_wp2_with fail
        refine hG.mono ?_
        rintro e w6 ⟨rfl, b6⟩
        have hX := alloc_below w6 (.cells (ndC ⟨xi, xk, xl, xd, xp, .slice ag ng cg, xn⟩) 33)
        have bX6 := Blk.new w6 33 (ndC ⟨xi, xk, xl, xd, xp, .slice ag ng cg, xn⟩)
        have bS6 := (bS5.next b6).next hX
        have hO6 := (own_keep hO5 b6).alloc (.cells (ndC ⟨xi, xk, xl, xd, xp, .slice ag ng cg, xn⟩) 33)
        have hb56 := hb5.trans (b6.mono hb5.size)
        have hb6 := hb56.trans (hX.mono hb56.size)
        have hu6 := (hu5.down b6 hu5.1).down hX (Nat.le_trans hu5.1 b6.size)
        have hu6s := hu6.1
        have hM6 := (hM5.next b6).next hX
        have hsz6 := hu6.1
        obtain ⟨⟨x0, x1, x2, x3, x4, x5⟩, _⟩ := bX6.six
        dsimp only at x0 x1 x2 x3 x4 x5
        have s60 := bS6.cell 0
        have s61 := bS6.cell 1
        simp only [List.getElem?_toArray, List.getElem?_cons_zero, List.getElem?_cons_succ] at s60 s61
        clear s50 s51 p0 p1 p2 p3 hG hrun hlk s0 s1 c0 c1
        generalize hWX : w6.alloc (.cells (ndC ⟨xi, xk, xl, xd, xp, .slice ag ng cg, xn⟩) 33) = wx at *
        go_wp2_with (at_builtin; refine wpList_append_here rfl (.tmp 41) (.tmp 50) 28 37 rfl Try.underlying28 hi hz0 hz1 hz2 rfl (by decide) (by decide) w2.heap.size (v := .slice a4 F.length c4) #[.string ⟨pa.toArray⟩, .int .i64 xk, .string ⟨xd.toArray⟩, .int .i64 (k : Int)] 1 rfl rfl hO6 rfl (by simp [Value.oneCell']) (by omega) hsz6 ?_; intro v7 w7 hown7 hgr7 hnew7)
        have hA7 := alloc_below wx (.cells #[.string ⟨pa.toArray⟩, .int .i64 xk, .string ⟨xd.toArray⟩, .int .i64 (k : Int)] 37)
        have hg7 : ∀ g, Value.ownBlock (.slice a4 F.length c4) = some g → w2.heap.size ≤ g := fun g hg => (HO.out.lt g hg).1
        have hb7 := (hb6.trans (hA7.mono hb6.size)).grown hgr7 (by have := hb6.size; have := hA7.size; omega) (fun g hg => by have := hg7 g hg; omega)
        have hu7 := (hu6.down hA7 hu6s).grown hgr7 (by have := hA7.size; omega) (fun g hg => .inr (hg7 g hg))
        have hM7 := (hM6.next hA7).kept hgr7 (fun e => by have := hg7 _ e.symm; omega)
        go_wp2
        go_roundw
        case rel => exact ⟨k + 1, by omega, by go_num, hb7, hu7, hM7, by (show World.ownsRow _ _ _ _ _ _ _); rw [HNX.out, hfe, List.length_append, shpsV_append]; exact hown7⟩
        case measure => simp [intOf]; omega
    · obtain rfl : k = L.length := by omega
      go_wp2
      go_ret
      exact ⟨_, rfl, by rw [HP.out]; exact own_shps HO.out, hbw⟩
end Go.Proofs.Ytpeghnhaekebdaa

/- Walks: the statements' small file system. -/
set_option linter.unusedVariables false
set_option linter.unusedSimpArgs false
namespace Go.Proofs.Ytpeghnhaekebdaa
open Go.RowKit
set_option linter.unusedVariables false

def sxR (ev : Value) : Nd := ⟨1, 2, 0, [], 1, ev, [([100], 3), ([103], 4)]⟩
def sxD (ev : Value) : Nd := ⟨3, 2, 1, [], 1, ev, [([102], 4)]⟩
def sxF : Nd := ⟨4, 1, 2, [122], 0, .slice none 0 0, []⟩
def sxL (e1 e2 : Value) : List Nd := [sxR e1, sxD e2, sxF]
theorem sx_1 (e1 : Value) : finN (sxR e1) ([rootN].filter (fun e => e.ino != (sxR e1).ino)) = [sxR e1] := rfl
theorem sx_2 (e1 e2 : Value) : finN (sxD e2) ([sxR e1].filter (fun e => e.ino != (sxD e2).ino)) = [sxR e1, sxD e2] := rfl
theorem sx_3 (e1 e2 : Value) : finN sxF ([sxR e1, sxD e2].filter (fun e => e.ino != sxF.ino)) = [sxR e1, sxD e2, sxF] := rfl
theorem sx_ok (e1 e2 : Value) : okB 9 9 9 (sxL e1 e2) = true := by kernel_rfl

set_option maxRecDepth 100000 in
set_option maxHeartbeats 8000000 in
theorem small16_any (w : World) : Calls Try.prog 14 #[] w fun e w' => ∃ y e1 e2, e = .returned (.agg (fsC 9 9 9 y)) ∧ Nds w' y (sxL e1 e2) ∧ Below w.heap.size w w' := by
  have bR := Blk.new w 24 (fsC 0 0 0 (.slice none 0 0))
  have hB0 := alloc_below w (.cells (fsC 0 0 0 (.slice none 0 0)) 24)
  go_enter Try.func14, Try.ntmps14
  go_wp2_with fail
  refine (refNewT_any 9 9 _).mono ?_
  rintro e w1 ⟨v1, rfl, n1, b1⟩
  obtain ⟨a1, c1, rfl⟩ := nds_slice n1
  replace bR := bR.next b1
  have hB := hB0.trans (b1.mono hB0.size)
  have hR1 := bR.lt
  have bF := (Blk.new w1 24 (fsC 9 9 9 (.slice a1 1 c1))).alloc (.cells (entsV [([100], 3), ([103], 4)]).toArray 59)
  have bE := Blk.new (w1.alloc (.cells (fsC 9 9 9 (.slice a1 1 c1)) 24)) 59 (entsV [([100], 3), ([103], 4)]).toArray
  have hS : Below w1.heap.size w1 ((w1.alloc (.cells (fsC 9 9 9 (.slice a1 1 c1)) 24)).alloc (.cells (entsV [([100], 3), ([103], 4)]).toArray 59)) := (alloc_below w1 _).alloc (by simp) _
  simp only [World.size_alloc] at bE
  have hEn := blk_ents (L := [([100], 3), ([103], 4)]) bE (by decide)
  replace n1 := n1.below hS
  replace bR := bR.next hS
  replace hB := hB.trans (hS.mono hB.size)
  clear b1 hS hB0
  go_wp2_with fail
  refine (refSetP_any 9 9 9 [rootN] (sxR (.slice (some ⟨w1.heap.size + 1, 0, none⟩) 2 2)) _ _ n1 hEn (by decide)).mono ?_
  rintro e w2 ⟨v2, rfl, hnew⟩
  rw [sx_1] at hnew
  have b2 := hnew.2
  obtain ⟨a2, c2, rfl⟩ := own_slice hnew.1
  replace bF := bF.next b2
  replace bE := bE.next b2
  replace bR := bR.next b2
  replace hB := hB.trans (b2.mono hB.size)
  have hfl : w1.heap.size < ((w1.alloc (.cells (fsC 9 9 9 (.slice a1 1 c1)) 24)).alloc (.cells (entsV [([100], 3), ([103], 4)]).toArray 59)).heap.size := by simp; omega
  obtain ⟨⟨p0, p1, p2, p3⟩, f0, f1, f2, f3⟩ := bF.four
  obtain ⟨W2, hW2, bF4, hg4⟩ := bF.put4 (.int .i64 9) (.int .i64 9) (.int .i64 9) (.slice a2 1 c2)
  replace bE := bE.kept hg4 (by simp)
  replace bR := bR.kept hg4 (by simp; omega)
  have hEn4 := blk_ents (L := [([100], 3), ([103], 4)]) bE (by decide)
  replace hB := below_grown hB hg4 (Nat.le_refl _) (by omega)
  have n2 : Nds W2 (.slice a2 1 c2) [sxR (.slice (some ⟨w1.heap.size + 1, 0, none⟩) 2 2)] := own_nds (hnew.1.kept hg4 (own_not hnew.1 hfl)) fun x hx => by rw [List.mem_singleton.1 hx]; exact hEn4
  clear hnew b2 bF hEn hfl n1 hEn4
  generalize w1.heap.size = BF at *
  obtain ⟨⟨q0, q1, q2, q3⟩, _⟩ := bF4.four
  have bE2 := Blk.new W2 59 (entsV [([102], 4)]).toArray
  have hS := alloc_below W2 (.cells (entsV [([102], 4)]).toArray 59)
  have hEn2 := blk_ents (L := [([102], 4)]) bE2 (by decide)
  have hBF2 := bF4.lt
  replace bF4 := bF4.next hS
  replace bE := bE.next hS
  replace bR := bR.next hS
  replace n2 := n2.below hS
  replace hB := hB.trans (hS.mono hB.size)
  have hfl := bF4.lt
  go_wp2_with fail
  clear p0 p1 p2 p3 q0 q1 q2 q3 f0 f1 f2 f3 hW2
  refine (refSetP_any 9 9 9 [sxR (.slice (some ⟨BF + 1, 0, none⟩) 2 2)] (sxD (.slice (some ⟨W2.heap.size, 0, none⟩) 1 1)) _ _ n2 hEn2 (by simp)).mono ?_
  rintro e w3 ⟨v3, rfl, hnew⟩
  rw [sx_2] at hnew
  have b3 := hnew.2
  obtain ⟨a3, c3, rfl⟩ := own_slice hnew.1
  have hBE2 : BF ≠ W2.heap.size := by omega
  generalize W2.heap.size = BE at *
  replace bF4 := bF4.next b3
  replace bE := bE.next b3
  replace bE2 := bE2.next b3
  replace bR := bR.next b3
  replace hB := hB.trans (b3.mono hB.size)
  obtain ⟨⟨p0, p1, p2, p3⟩, f0, f1, f2, f3⟩ := bF4.four
  obtain ⟨W3, hW3, bF5, hg5⟩ := bF4.put4 (.int .i64 9) (.int .i64 9) (.int .i64 9) (.slice a3 2 c3)
  replace bE := bE.kept hg5 (by simp)
  replace bE2 := bE2.kept hg5 (by simpa using fun h => hBE2 h.symm)
  replace bR := bR.kept hg5 (by simp; omega)
  have hEn1 := blk_ents (L := [([100], 3), ([103], 4)]) bE (by decide)
  have hEn3 := blk_ents (L := [([102], 4)]) bE2 (by decide)
  replace hB := below_grown hB hg5 (Nat.le_refl _) (by omega)
  have n3 : Nds W3 (.slice a3 2 c3) [sxR (.slice (some ⟨BF + 1, 0, none⟩) 2 2), sxD (.slice (some ⟨BE, 0, none⟩) 1 1)] := own_nds (hnew.1.kept hg5 (own_not hnew.1 hfl)) fun x hx => by
    simp at hx
    rcases hx with rfl | rfl
    · exact hEn1
    · exact hEn3
  clear hnew b3 bF4 hEn2 hfl n2 hS hEn1 hEn3
  obtain ⟨⟨q0, q1, q2, q3⟩, _⟩ := bF5.four
  have hfl := bR.lt
  go_wp2_with fail
  clear p0 p1 p2 p3 q0 q1 q2 q3 f0 f1 f2 f3 hW3
  refine (refSetP_any 9 9 9 [sxR (.slice (some ⟨BF + 1, 0, none⟩) 2 2), sxD (.slice (some ⟨BE, 0, none⟩) 1 1)] sxF _ _ n3 (Ents.nil_ _) (by simp)).mono ?_
  rintro e w5 ⟨v5, rfl, hnew⟩
  rw [sx_3] at hnew
  have b5 := hnew.2
  obtain ⟨a5, c5, rfl⟩ := own_slice hnew.1
  replace bE := bE.next b5
  replace bE2 := bE2.next b5
  replace bR := bR.next b5
  replace hB := hB.trans (b5.mono hB.size)
  obtain ⟨⟨p0, p1, p2, p3⟩, f0, f1, f2, f3⟩ := bR.four
  obtain ⟨W5, hW5, bR2, hg7⟩ := bR.put4 (.int .i64 9) (.int .i64 9) (.int .i64 9) (.slice a5 3 c5)
  replace bE := bE.kept hg7 (by simp; omega)
  replace bE2 := bE2.kept hg7 (by simp; omega)
  have hEn1 := blk_ents (L := [([100], 3), ([103], 4)]) bE (by decide)
  have hEn3 := blk_ents (L := [([102], 4)]) bE2 (by decide)
  replace hB := below_grown hB hg7 (Nat.le_refl _) (Nat.le_refl _)
  have n5 : Nds W5 (.slice a5 3 c5) (sxL (.slice (some ⟨BF + 1, 0, none⟩) 2 2) (.slice (some ⟨BE, 0, none⟩) 1 1)) := own_nds (hnew.1.kept hg7 (own_not hnew.1 hfl)) fun x hx => by
    simp [sxL] at hx
    rcases hx with rfl | rfl | rfl
    · exact hEn1
    · exact hEn3
    · exact Ents.nil_ _
  clear hnew b5 bF5 n3 hEn1 hEn3
  obtain ⟨⟨q0, q1, q2, q3⟩, _⟩ := bR2.four
  go_wp2
  refine bodyPost_ret (v := .agg (fsC 9 9 9 (.slice a5 3 c5))) (by simp [results, Try.f14, go_sem, q0, q1, q2, q3]) rfl ?_
  exact ⟨_, _, _, rfl, n5, hB⟩
end Go.Proofs.Ytpeghnhaekebdaa

/- One of two file systems that are gone through side by side: what it is made of, and what a step leaves alone. -/
set_option linter.unusedVariables false
set_option linter.unusedSimpArgs false
namespace Go.Proofs.Ytpeghnhaekebdaa
open Go.RowKit

abbrev linC (L : Lin) : Array Value := #[.string ⟨L.name.toArray⟩, .int .i64 L.first, .int .i64 L.kind, .string ⟨L.data.toArray⟩, .int .i64 L.ents]
theorem Blk.five {W : World} {B : Nat} {t : TypeId} {a b c d f : Value} (h : Blk W B t #[a, b, c, d, f]) :
    (W.cell? ⟨B, 0, none⟩ = some a ∧ W.cell? ⟨B, 1, none⟩ = some b ∧ W.cell? ⟨B, 2, none⟩ = some c ∧ W.cell? ⟨B, 3, none⟩ = some d ∧ W.cell? ⟨B, 4, none⟩ = some f) ∧
      (W.frozen? ⟨B, 0, none⟩ = false ∧ W.frozen? ⟨B, 1, none⟩ = false ∧ W.frozen? ⟨B, 2, none⟩ = false ∧ W.frozen? ⟨B, 3, none⟩ = false ∧ W.frozen? ⟨B, 4, none⟩ = false) :=
  ⟨⟨(h.cell 0).trans rfl, (h.cell 1).trans rfl, (h.cell 2).trans rfl, (h.cell 3).trans rfl, (h.cell 4).trans rfl⟩, h.frozen 0, h.frozen 1, h.frozen 2, h.frozen 3, h.frozen 4⟩
theorem Blk.put5 {W : World} {B : Nat} {t : TypeId} {a b c d f : Value} (h : Blk W B t #[a, b, c, d, f]) (p q r s u : Value) :
    ∃ W', ((((W.setCell ⟨B, 0, none⟩ p).setCell ⟨B, 1, none⟩ q).setCell ⟨B, 2, none⟩ r).setCell ⟨B, 3, none⟩ s).setCell ⟨B, 4, none⟩ u = W' ∧ Blk W' B t #[p, q, r, s, u] ∧ W.grownBy W' (some B) := by
  refine ⟨_, rfl, ?_, ?_⟩
  · exact ((((h.set 0 p).set 1 q).set 2 r).set 3 s).set 4 u
  · exact ((((grownBy_set W B 0 p).trans (grownBy_set _ B 1 q)).trans (grownBy_set _ B 2 r)).trans (grownBy_set _ B 3 s)).trans (grownBy_set _ B 4 u)
theorem Blk.sides {W : World} {B : Nat} {t : TypeId} {a b c d f g : Value} (h : Blk W B t #[a, b, c, d, f, g]) :
    W.cell? ⟨B, 0, none⟩ = some a ∧ W.cell? ⟨B, 1, none⟩ = some b ∧ W.cell? ⟨B, 2, none⟩ = some c ∧ W.cell? ⟨B, 3, none⟩ = some d ∧ W.cell? ⟨B, 4, none⟩ = some f ∧ W.cell? ⟨B, 5, none⟩ = some g :=
  ⟨(h.cell 0).trans rfl, (h.cell 1).trans rfl, (h.cell 2).trans rfl, (h.cell 3).trans rfl, (h.cell 4).trans rfl, (h.cell 5).trans rfl⟩
theorem Blk.last6 {W : World} {B : Nat} {t : TypeId} {a b c d f g : Value} (h : Blk W B t #[a, b, c, d, f, g]) (p : Value) : ∃ W', W.setCell ⟨B, 5, none⟩ p = W' ∧ Blk W' B t #[a, b, c, d, f, p] ∧ W.grownBy W' (some B) :=
  ⟨_, rfl, h.set 5 p, grownBy_set W B 5 p⟩
/-- An own row that holds something lies in a block. -/
theorem own_some {w : World} {base : Nat} {e : TypeId} {size : Nat} {v : Value} {n : Nat} {xs : List Value} (h : w.ownsRow base e size v n xs) (hn : 0 < n) : ∃ g cap, v = .slice (some ⟨g, 0, none⟩) n cap ∧ n ≤ cap ∧ cap ≤ maxLen := by
  rcases h.2 with ⟨_, h0⟩ | ⟨g, cap, cur, rfl, _, _, h1, h2, _⟩
  · omega
  · exact ⟨g, cap, rfl, h1, h2⟩
/-- All but two blocks and a row's is as it was. -/
structure Gone3 (B M : Nat) (row : Option Nat) (w w' : World) : Prop where
  os : w'.os = w.os
  tape : w'.tape = w.tape
  output : w'.output = w.output
  size : w.heap.size ≤ w'.heap.size
  block : ∀ k, k < w.heap.size → k ≠ B → k ≠ M → row ≠ some k → w'.heap[k]? = w.heap[k]?
theorem Gone3.refl (B M : Nat) (row : Option Nat) (w : World) : Gone3 B M row w w := ⟨rfl, rfl, rfl, Nat.le_refl _, fun _ _ _ _ _ => rfl⟩
theorem Gone3.down {B M : Nat} {row : Option Nat} {w a b : World} {n : Nat} (h : Gone3 B M row w a) (hb : Below n a b) (hn : w.heap.size ≤ n) : Gone3 B M row w b :=
  ⟨hb.os.trans h.os, hb.tape.trans h.tape, hb.output.trans h.output, Nat.le_trans h.size hb.size, fun k h1 h2 h3 h4 => (hb.block k (by omega)).trans (h.block k h1 h2 h3 h4)⟩
theorem Gone3.grown {B M : Nat} {row r : Option Nat} {w a b : World} (h : Gone3 B M row w a) (hg : a.grownBy b r) (hr : ∀ g, r = some g → g = B ∨ g = M ∨ row = some g ∨ w.heap.size ≤ g) : Gone3 B M row w b :=
  ⟨hg.os.trans h.os, hg.tape.trans h.tape, hg.output.trans h.output, Nat.le_trans h.size hg.size, fun k h1 h2 h3 h4 => (hg.block k (Nat.lt_of_lt_of_le h1 h.size) (fun e => by
    rcases hr k e.symm with c | c | c | c
    · exact h2 c
    · exact h3 c
    · exact h4 c
    · omega)).trans (h.block k h1 h2 h3 h4)⟩
theorem Gone3.low {B M n : Nat} {row : Option Nat} {wi w a : World} (hI : Below n wi w) (h : Gone3 B M row w a) (hn : n ≤ w.heap.size) (hB : n ≤ B) (hM : n ≤ M) (hr : ∀ g, row = some g → n ≤ g) : Below n wi a :=
  hI.trans ⟨h.os, h.tape, h.output, h.size, fun k hk => h.block k (by omega) (by omega) (by omega) (fun c => by have := hr k c; omega)⟩
/-- What a side is made of: its box, its first places, its entries to go (the next one first here, last there). -/
structure SideS (wi w : World) (B M : Nat) (mi mb nx : Int) (v vr : Value) (S : List Int) (K : List Ent) : Prop where
  box : Blk w B 51 #[.int .i64 mi, .int .i64 mb, .int .i64 nx, v, .map (some M), vr]
  firsts : Firsts w M S
  row : w.ownsRow wi.heap.size 59 2 vr K.length (entsV K.reverse)
  b0 : wi.heap.size ≤ B
  m0 : wi.heap.size ≤ M
  bm : B ≠ M
  rb : ∀ g, vr.ownBlock = some g → g ≠ B ∧ g ≠ M
  nums : ∀ e ∈ K, IntB e.2
theorem SideS.away {wi w w' : World} {B M B' M' : Nat} {row' : Option Nat} {mi mb nx : Int} {v vr : Value} {S : List Int} {K : List Ent} (h : SideS wi w B M mi mb nx v vr S K) (hg : Gone3 B' M' row' w w')
    (hd : ∀ k, k = B ∨ k = M ∨ vr.ownBlock = some k → k ≠ B' ∧ k ≠ M' ∧ row' ≠ some k) : SideS wi w' B M mi mb nx v vr S K := by
  have hk : ∀ k, k < w.heap.size → (k = B ∨ k = M ∨ vr.ownBlock = some k) → w'.heap[k]? = w.heap[k]? := fun k h1 h2 => hg.block k h1 (hd k h2).1 (hd k h2).2.1 (hd k h2).2.2
  refine ⟨(hk B h.box.lt (.inl rfl)).trans h.box, h.firsts.block (hk M h.firsts.lt (.inr (.inl rfl))), ?_, h.b0, h.m0, h.bm, h.rb, h.nums⟩
  obtain ⟨h1, h2⟩ := h.row
  refine ⟨h1, h2.imp id ?_⟩
  rintro ⟨g, cap, cur, rfl, q1, q2, q3, q4, q5, q6⟩
  exact ⟨g, cap, cur, rfl, q1, (hk g (h.row.lt g rfl).2 (.inr (.inr rfl))).trans q2, q3, q4, q5, q6⟩
theorem run_append_nil {P : Program} {w : World} (base : Nat) (t ty e : TypeId) (i : TypeInfo) (size : Nat) (ht : P.underlying t = some (.slice e)) (hi : P.info? e = some i)
    (v : Value) (n : Nat) (xs : List Value) (hown : w.ownsRow base e size v n xs) (c : Nat) :
    (Builtin.append_ #[t, t] ty #[v, .slice none 0 c]).run P w = .ok v w := by
  rcases hown.2 with ⟨rfl, rfl⟩ | ⟨g, cap, cur, rfl, _, _, hnc, _⟩
  · simp [Builtin.append_, run_underlying ht, sizeOf, typeInfo, hi, Builtin.lenOf, Builtin.firstCells]
  · simp [Builtin.append_, run_underlying ht, sizeOf, typeInfo, hi, Builtin.lenOf, Builtin.firstCells, hnc, storeCells]
/-- append onto an own row of whatever slice, nil or not, as one step of a region that draws its order: what else there is stays. -/
theorem step_append_more {P : Program} {w : World} {ops : Array Oper} {o : Oper} {a : Act} {K : Act → World → Prop} {Q : Exit → Act → World → Prop} {E : Prop} (hgd : o.guard = none) (s x : Operand) (t e : TypeId)
    (ho : o.op = .call { callee := .builtin .append, args := #[s, x], argTypes := #[t, t] })
    {i : TypeInfo} {z : Value} {size bytes : Nat} (ht : P.underlying t = some (.slice e)) (hi : P.info? e = some i) (hz : i.zero = some z)
    (hsize : i.size = size) (hby : i.bytes = bytes) (hzs : z.cells.size = size) (hsz : 0 < size) (hbs : bytes ≤ 128)
    (base : Nat) {v : Value} {n : Nat} {xs : List Value} (ao : Option Addr) (m c : Nat) (news : List Value) (hs : a.eval s = v) (hx : a.eval x = .slice ao m c) (hown : w.ownsRow base e size v n xs) (hnone : ao = none → m = 0)
    (hm : news.length = m * size) (hc : ∀ ad, ao = some ad → ∀ j u, news[j]? = some u → w.cell? (ad.add j) = some u) (h1 : ∀ u ∈ news, u.oneCell' = true) (hb : n + m ≤ 1099511627776) (hbase : base ≤ w.heap.size)
    (hK : ∀ v' w', w'.ownsRow base e size v' (n + m) (xs ++ news) → w.grownBy w' v.ownBlock → (∀ g, v'.ownBlock = some g → v.ownBlock = some g ∨ w.heap.size ≤ g) → K (a.put o.dst v') w') :
    if Region.wanted o (yielded ops a.tmps) = true then Oper.wp P o a w K Q else E := by
  rw [if_pos (by simp [Region.wanted, hgd])]
  cases ao with
  | some ad =>
    refine wp_append_here s x t ho base e i z size bytes ht hi hz hsize hby hzs hsz v n xs hs hown ad m c news hx hm (hc ad rfl) h1 (by unfold maxLen; omega) ?_ hbase hK
    calc (n + m) * bytes ≤ 1099511627776 * 128 := Nat.mul_le_mul hb hbs
      _ ≤ 140737488355328 := by decide
  | none =>
    obtain rfl := hnone rfl
    have hnews : news = [] := List.eq_nil_of_length_eq_zero (by simpa using hm)
    subst hnews
    have hrun := run_append_nil (P := P) base t o.type e i size ht hi _ n xs hown c
    unfold Oper.wp
    simp [execOp, ho, resolve, invoke, builtin, hs, hx, hrun, Result.andThen]
    exact hK _ _ (by simpa using hown) ⟨rfl, rfl, rfl, Nat.le_refl _, fun _ _ _ => rfl⟩ (fun g hg => .inl hg)
end Go.Proofs.Ytpeghnhaekebdaa

/- Walks: a step of a side. -/
set_option linter.unusedVariables false
set_option linter.unusedSimpArgs false
namespace Go.Proofs.Ytpeghnhaekebdaa
open Go.RowKit

theorem infoEn16 : (Try.prog.info? 59).map (fun i => (i.zero, i.size, i.bytes)) = some (some (.agg #[.string ⟨#[]⟩, .int .i64 0]), 2, 24) := by kernel_rfl
set_option maxHeartbeats 8000000 in
set_option maxRecDepth 100000 in
theorem next16_any (mi mb nx : Int) (l : List Nd) (v vr : Value) (wi w : World) (B M : Nat) (S : List Int) (e : Ent) (r : List Ent) (hv : Nds wi v l) (hI : Below wi.heap.size wi w) (hok : OkS mi mb nx l) (ht : Trim l)
    (hs : SideS wi w B M mi mb nx v vr S (e :: r)) (hSl : S.length ≤ 1000000) (hrl : r.length ≤ 1000000) :
    Calls Try.prog 23 #[.pointer (some ⟨B, 0, none⟩), .int .i64 (S.length : Nat)] w fun e' w' => ∃ vr', e' = .returned (.agg (linC (linN l S e))) ∧ SideS wi w' B M mi mb nx v vr' (S ++ [e.2]) ((moreN l S e).reverse ++ r) ∧ Gone3 B M vr.ownBlock w w' ∧ (∀ g, vr'.ownBlock = some g → vr.ownBlock = some g ∨ w.heap.size ≤ g) := by
  obtain ⟨i0, hi, hz0, hz1, hz2⟩ := info_parts infoEn16
  obtain ⟨hbx, hfi, hrow, hB0, hM0, hBM, hrb, hnum⟩ := hs
  obtain ⟨va, vc, rfl⟩ := nds_slice hv
  obtain ⟨g, cap, rfl, hcap, hcm⟩ := own_some hrow (by simp)
  have hgl := hrow.lt g rfl
  have hgB := hrb g rfl
  have hrev : (e :: r).reverse = r.reverse ++ [e] := by simp
  have hel : (entsV r.reverse).length = r.length * 2 := by rw [entsV_len, List.length_reverse]
  have ce0 : w.cell? ⟨g, r.length * 2, none⟩ = some (.string ⟨e.1.toArray⟩) := by
    rw [hrow.cellAt (r.length * 2) (by rw [List.length_cons]; omega), hrev, entsV_append, List.getElem?_append_right (by omega), hel, Nat.sub_self]; rfl
  have ce1 : w.cell? ⟨g, r.length * 2 + 1, none⟩ = some (.int .i64 e.2) := by
    rw [hrow.cellAt (r.length * 2 + 1) (by rw [List.length_cons]; omega), hrev, entsV_append, List.getElem?_append_right (by omega), hel, show r.length * 2 + 1 - r.length * 2 = 1 from by omega]; rfl
  have hrow2 := own_take hrow r.length (by simp)
  rw [entsV_take, show (e :: r).reverse.take r.length = r.reverse from by rw [hrev, List.take_append_of_le_length (by simp), List.take_of_length_le (by simp)]] at hrow2
  have hzb := hnum e (by simp)
  unfold maxLen at hcm
  have hnm : (e :: r).length = r.length + 1 := rfl
  obtain ⟨en, z⟩ := e
  dsimp only at ce0 ce1 hzb
  have hBl := hbx.lt
  have hMl := hfi.lt
  have hIs := hI.size
  generalize hN : (((en, z) :: r).length : Nat) = n at *
  generalize hMm : r.length = m at *
  have hlast : IntKind.i64.wrap ((n : Int) - 1) = (m : Int) := by rw [IntKind.wrap_i64]; omega
  have hmw : IntKind.i64.wrap (m : Int) = (m : Int) := by rw [IntKind.wrap_i64]; omega
  have m0 : (0 : Int) ≤ (m : Int) := by omega
  have m1 : (m : Int) < (n : Int) := by omega
  have m2 : (m : Int) ≤ (cap : Int) := by omega
  have m3 : ¬ cap = 0 := by omega
  have HN := Lib.hid hN
  have HMm := Lib.hid hMm
  have HNM := Lib.hid hnm
  clear hN hMm hnm hrev hel
  -- the worlds
  have hA := alloc_below w (.cells #[.string ⟨#[]⟩, .int .i64 0, .int .i64 0, .string ⟨#[]⟩, .int .i64 0] 53)
  have bR := Blk.new w 53 #[.string ⟨#[]⟩, .int .i64 0, .int .i64 0, .string ⟨#[]⟩, .int .i64 0]
  have bB := hbx.next hA
  have ce0' := (hA.cell (p := ⟨g, m * 2, none⟩) hgl.2).trans ce0
  have ce1' := (hA.cell (p := ⟨g, m * 2 + 1, none⟩) hgl.2).trans ce1
  obtain ⟨p0, p1, p2, p3, p4, p5⟩ := bB.sides
  go_enter Try.func23, Try.ntmps23
  go_upto_region 3 with fail
  have hE := alloc_below (w.alloc (.cells #[.string ⟨#[]⟩, .int .i64 0, .int .i64 0, .string ⟨#[]⟩, .int .i64 0] 53)) (.cells #[.string ⟨en.toArray⟩, .int .i64 z] 59)
  have bE1 := Blk.new (w.alloc (.cells #[.string ⟨#[]⟩, .int .i64 0, .int .i64 0, .string ⟨#[]⟩, .int .i64 0] 53)) 59 #[.string ⟨en.toArray⟩, .int .i64 z]
  have bB1 := bB.next hE
  have bR1 := bR.next hE
  have hf1 := (hfi.next hA).next hE
  have hr1 := (hrow2.alloc (.cells #[.string ⟨#[]⟩, .int .i64 0, .int .i64 0, .string ⟨#[]⟩, .int .i64 0] 53)).alloc (.cells #[.string ⟨en.toArray⟩, .int .i64 z] 59)
  have hA2 := hA.trans (hE.mono hA.size)
  simp only [World.size_alloc] at bE1
  have hsz1 : ((w.alloc (.cells #[.string ⟨#[]⟩, .int .i64 0, .int .i64 0, .string ⟨#[]⟩, .int .i64 0] 53)).alloc (.cells #[.string ⟨en.toArray⟩, .int .i64 z] 59)).heap.size = w.heap.size + 2 := by simp
  clear p0 p1 p2 p3 p4 p5 ce0 ce1 ce0' ce1' bB bR hA hE hbx hfi hrow2
  generalize hW1 : (w.alloc (.cells #[.string ⟨#[]⟩, .int .i64 0, .int .i64 0, .string ⟨#[]⟩, .int .i64 0] 53)).alloc (.cells #[.string ⟨en.toArray⟩, .int .i64 z] 59) = w1 at *
  obtain ⟨p0, p1, p2, p3, p4, p5⟩ := bB1.sides
  have f5 := bB1.frozen 5
  obtain ⟨W2, hW2, bB2, hg2⟩ := bB1.last6 (.slice (some ⟨g, 0, none⟩) m cap)
  have bR2 := bR1.kept hg2 (by simp; omega)
  have bE2 := bE1.kept hg2 (by simp; omega)
  have hf2 := hf1.kept hg2 (by simp; omega)
  have hr2 := hr1.kept hg2 (.inr (by simp [Value.ownBlock]; omega))
  have hG2 := ((Gone3.refl B M (some g) w).down hA2 (Nat.le_refl _)).grown hg2 (fun k hk => by cases hk; exact .inl rfl)
  clear hW1
  go_upto_region 4 with fail
  clear p0 p1 p2 p3 p4 p5 f5 hW2 bB1 bR1 bE1 hf1 hr1 hg2
  obtain ⟨p0, p1, p2, p3, p4, p5⟩ := bB2.sides
  have q0 := bE2.cell 0
  have q1 := bE2.cell 1
  simp only [List.getElem?_toArray, List.getElem?_cons_zero, List.getElem?_cons_succ] at q0 q1
  have hlk := fun k => (show Firsts (w := W2.drewN k) (b := M) (S := S) from hf2).look hzb
  by_cases hS : z ∈ S
  · simp only [if_pos hS, decide_eq_true hS] at hlk
    go_quiet (fail)
    have hd := below_drewN (Below.refl W2.heap.size W2) nq
    generalize W2.drewN nq = w3 at *
    have bR3 := bR2.next hd
    have bB3 := bB2.next hd
    have bE3 := bE2.next hd
    have hf3 := hf2.next hd
    have hr3 := own_keep hr2 hd
    have hG3 := hG2.down hd hG2.size
    have q30 := bE3.cell 0
    simp only [List.getElem?_toArray, List.getElem?_cons_zero] at q30
    have HL : Hid (linN l S (en, z) = ⟨en, (idxN S z : Nat), 0, [], 0⟩) := by (show _ = _); unfold linN; rw [if_pos hS]
    have HK : Hid ((moreN l S (en, z)).reverse ++ r = r) := by (show _ = _); unfold moreN; rw [if_pos hS]; rfl
    obtain ⟨⟨r0, r1, r2, r3, r4⟩, e0, e1, e2, e3, e4⟩ := bR3.five
    obtain ⟨W', hW', hb5, hg5⟩ := bR3.put5 (.string ⟨en.toArray⟩) (.int .i64 (idxN S z : Nat)) (.int .i64 0) (.string ⟨#[]⟩) (.int .i64 0)
    clear hlk hd p0 p1 p2 p3 p4 p5 q0 q1
    go_wp2
    obtain ⟨⟨y0, y1, y2, y3, y4⟩, _⟩ := hb5.five
    refine bodyPost_ret (v := .agg #[.string ⟨en.toArray⟩, .int .i64 (idxN S z : Nat), .int .i64 0, .string ⟨#[]⟩, .int .i64 0]) (by simp [results, Try.f23, go_sem, y0, y1, y2, y3, y4]) rfl ?_
    refine ⟨.slice (some ⟨g, 0, none⟩) m cap, by rw [HL.out], ⟨bB3.kept hg5 (by simp; omega), (hf3.kept hg5 (by simp; omega)).again hS, ?_, hB0, hM0, hBM, fun k hk => by cases hk; exact hgB, ?_⟩, hG3.grown hg5 (fun k hk => by cases hk; right; right; right; exact Nat.le_refl _), fun k hk => .inl hk⟩
    · rw [HK.out, HMm.out]
      exact hr3.kept hg5 (.inr (by simp [Value.ownBlock]; omega))
    · rw [HK.out]
      exact fun x hx => hnum x (List.mem_cons_of_mem _ hx)
  · simp only [if_neg hS, decide_eq_false hS] at hlk
    go_quiet (fail)
    have hd := below_drewN (Below.refl W2.heap.size W2) nq
    generalize W2.drewN nq = w3 at *
    have bR3 := bR2.next hd
    have bB3 := bB2.next hd
    have bE3 := bE2.next hd
    have hf3 := hf2.next hd
    have hr3 := own_keep hr2 hd
    have hG3 := hG2.down hd hG2.size
    have hs3 := hd.size
    have hs2 := hG2.size
    clear hlk hd p0 p1 p2 p3 p4 p5 q0 q1 bR2 bB2 bE2 hf2 hr2 hG2
    go_upto_region 7 with fail
    have hdr : Below w3.heap.size w3 w3.drew := (Below.refl _ _).drew
    obtain ⟨w5, hrun, hf5, hg5⟩ := (show Firsts w3.drew M S from hf3).put hzb hS hSl
    have HS0 : w3.drew.cell? ⟨B, 4, none⟩ = some (.map (some M)) ∧ w3.drew.cell? ⟨w.heap.size + 1, 1, none⟩ = some (.int .i64 z) := ⟨bB3.sides.2.2.2.2.1, (bE3.cell 1).trans rfl⟩
    have HS5 : w5.cell? ⟨B, 4, none⟩ = some (.map (some M)) ∧ w5.cell? ⟨w.heap.size + 1, 1, none⟩ = some (.int .i64 z) := ⟨(bB3.next hdr |>.kept hg5 (by simp; omega)).sides.2.2.2.2.1, ((bE3.next hdr |>.kept hg5 (by simp; omega)).cell 1).trans rfl⟩
    go_region_held3 (fun W => W.cell? ⟨B, 4, none⟩ = some (.map (some M)) ∧ W.cell? ⟨w.heap.size + 1, 1, none⟩ = some (.int .i64 z)) (first | exact HS0 | exact HS5) (first | fail)
    have bR5 := (bR3.next hdr).kept hg5 (by simp; omega)
    have bB5 := (bB3.next hdr).kept hg5 (by simp; omega)
    have bE5 := (bE3.next hdr).kept hg5 (by simp; omega)
    have hr5 := (own_keep hr3 hdr).kept hg5 (.inr (by simp [Value.ownBlock]; omega))
    have hG5 := (hG3.down hdr hG3.size).grown hg5 (fun k hk => by cases hk; exact .inr (.inl rfl))
    have hI5 : Below wi.heap.size wi w5 := hG5.low hI hIs hB0 hM0 (fun k hk => by cases hk; exact hgl.1)
    have hs5 := hG5.size
    have tr := tree_c hok.check
    have hX := get_ents hv.all z
    have hthere : ∀ x ∈ (getN l z).ents, IntB x.2 := fun x hx => int_ino hok (by
      cases hh : hasN l z
      · rw [getN_none hh] at hx; cases hx
      · exact tr.there _ (get_mem hh).1 x hx)
    have hxl : (getN l z).ents.length ≤ 1000 := (calm_get hok.calm z).2.1
    have hGc := fun W (h : Below w5.heap.size w5 W) => GetN_any mi mb nx z l (.slice va l.length vc) W ((hv.below hI5).below h) tr.rise (by have := ht.len; omega) (fun x hx => by have := (hok.calm.size x hx).2.1; omega)
    have HL : Hid (linN l S (en, z) = ⟨en, (S.length : Nat), (getN l z).kind, (getN l z).data, ((getN l z).ents.length : Nat)⟩) := by (show _ = _); unfold linN; rw [if_neg hS]
    have HK : Hid ((moreN l S (en, z)).reverse ++ r = (getN l z).ents.reverse ++ r) := by (show _ = _); unfold moreN; rw [if_neg hS]
    generalize getN l z = X at *
    obtain ⟨xi, xk, xl, xd, xp, xe, xn⟩ := X
    dsimp only at hX hthere hxl HL HK
    have hX5 := hX.below hI5
    obtain ⟨ax, cx, rfl, hxc, hxm, hxs⟩ := id hX5
    generalize hasN l z = rr at *
    clear HS0 HS5 bR3 bB3 bE3 hf3 hr3 hG3 hg5 hrun hdr
    go_upto_region 8 with fail
    have hdr : Below w5.heap.size w5 w5.drew := (Below.refl _ _).drew
    have hdr2 : Below w5.heap.size w5 (w5.alloc (.cells #[.int .i64 0, .int .i64 0, .int .i64 0, .string ⟨#[]⟩, .int .i64 0, .slice none 0 0] 33)).drew := ((Below.refl _ w5).alloc (Nat.le_refl _) _).drew
    have hbz : Blk (w5.alloc (.cells #[.int .i64 0, .int .i64 0, .int .i64 0, .string ⟨#[]⟩, .int .i64 0, .slice none 0 0] 33)).drew w5.heap.size 33 (ndC zeroN) := Blk.new w5 33 (ndC zeroN)
    have hG1 := hGc _ hdr
    have hG2' := hGc _ hdr2
    have HMK : ∀ W, Below w5.heap.size w5 W → (fun W => W.cell? ⟨B, 0, none⟩ = some (.int .i64 mi) ∧ W.cell? ⟨B, 1, none⟩ = some (.int .i64 mb) ∧ W.cell? ⟨B, 2, none⟩ = some (.int .i64 nx) ∧ W.cell? ⟨B, 3, none⟩ = some (.slice va l.length vc) ∧ W.cell? ⟨w.heap.size + 1, 1, none⟩ = some (.int .i64 z)) W := by
      intro W h0
      obtain ⟨x0, x1, x2, x3, _, _⟩ := (bB5.next h0).sides
      exact ⟨x0, x1, x2, x3, ((bE5.next h0).cell 1).trans rfl⟩
    have hq := hdr
    go_cut [9, 10] from 55 (fun s9 s10 wc => ∃ X : Nat, s9 = .pointer (some ⟨X, 0, none⟩) ∧ s10 = .bool rr ∧ Below w5.heap.size w5 wc ∧ Aside (w5.heap.size ≤ X) ∧ Aside (Blk wc X 33 (ndC ⟨xi, xk, xl, xd, xp, .slice ax xn.length cx, xn⟩)))
    case first =>
      go_region_held3 (fun W => W.cell? ⟨B, 0, none⟩ = some (.int .i64 mi) ∧ W.cell? ⟨B, 1, none⟩ = some (.int .i64 mb) ∧ W.cell? ⟨B, 2, none⟩ = some (.int .i64 nx) ∧ W.cell? ⟨B, 3, none⟩ = some (.slice va l.length vc) ∧ W.cell? ⟨w.heap.size + 1, 1, none⟩ = some (.int .i64 z))
        (first | with_reducible exact HMK _ hq | with_reducible exact HMK _ (hq.alloc hq.size _) | with_reducible exact HMK _ hdr2 | with_reducible exact HMK _ (below_grown hq hgW (Nat.le_refl _) (Nat.le_refl _)))
        (first
          | (go_at_call 19; (with_reducible refine hG1.mono ?_); rintro e w6 ⟨rfl, b6⟩; have hq := hq.trans (b6.mono hq.size))
          | (go_at_call 19; (with_reducible refine hG2'.mono ?_); rintro e w6 ⟨rfl, b6⟩; have hbx : Blk w6 w5.heap.size 33 (ndC zeroN) := hbz.next b6; have hq := hdr2.trans (b6.mono hdr2.size); obtain ⟨⟨x0, x1, x2, x3, x4, x5⟩, f0, f1, f2, f3, f4, f5⟩ := hbx.six; simp only [zeroN] at x0 x1 x2 x3 x4 x5; obtain ⟨W', hW', hbW, hgW⟩ := hbx.put6 ⟨xi, xk, xl, xd, xp, .slice ax xn.length cx, xn⟩; dsimp only at hW'))
      all_goals (go_wp2_with fail; go_meet)
      all_goals first
        | exact ⟨w6.heap.size, rfl, rfl, hq.alloc hq.size _, hq.size, Blk.new w6 33 (ndC ⟨xi, xk, xl, xd, xp, .slice ax xn.length cx, xn⟩)⟩
        | exact ⟨w5.heap.size, rfl, rfl, below_grown hq hgW (Nat.le_refl _) (Nat.le_refl _), Nat.le_refl _, hbW⟩
    case rest =>
      obtain ⟨X, rfl, rfl, hbc, hXl, HX⟩ := hcut
      have bR6 := bR5.next hbc
      have bB6 := bB5.next hbc
      have bE6 := bE5.next hbc
      have hf6 := hf5.next hbc
      have hr6 := own_keep hr5 hbc
      have hG6 := hG5.down hbc hG5.size
      have hX6 := hX5.below hbc
      have hs6 := hbc.size
      have hXo := hXl.out
      have bX6 := HX.out
      have hXlt := bX6.lt
      have hgl6 := (hr6.lt g rfl).2
      clear hbc bR5 bB5 bE5 hf5 hr5 hG5 hG1 hG2' hGc HMK hq hdr hdr2 hbz hX5 hI5 HX hXl
      go_upto_region 9 with fail
      have hdr : Below wc.heap.size wc wc.drew := (Below.refl _ _).drew
      obtain ⟨p0, p1, p2, p3, p4, p5⟩ := (bB6.next hdr).sides
      have HX5 : wc.drew.cell? ⟨X, 5, none⟩ = some (.slice ax xn.length cx) := ((bX6.next hdr).cell 5).trans rfl
      have hrd := own_keep hr6 hdr
      have hXd := hX6.below hdr
      have hwi : wi.heap.size ≤ wc.drew.heap.size := by have := hdr.size; omega
      have hnone : ax = none → xn.length = 0 := by
        intro h
        rcases Nat.eq_zero_or_pos xn.length with c | c
        · exact c
        · obtain ⟨ad, had, _⟩ := hXd.src c
          rw [h] at had; cases had
      have hsrc : ∀ ad, ax = some ad → ∀ j u, (entsV xn)[j]? = some u → wc.drew.cell? (ad.add j) = some u := by
        intro ad had j u hu
        rcases Nat.eq_zero_or_pos xn.length with c | c
        · rw [List.eq_nil_of_length_eq_zero c] at hu; cases hu
        · obtain ⟨ad2, had2, _, h⟩ := hXd.src c
          rw [had] at had2; cases had2
          exact h j u hu
      (refine wp_region_held_drew (S := (fun W => W.cell? ⟨X, 5, none⟩ = some (.slice ax xn.length cx))) (by kernel_rfl) (HX5) (fun hHeld => ?_))
      (refine heldTake 0 (some 65) (v := ?_) rfl rfl (by kernel_rfl) (by kernel_rfl) (by kernel_rfl) (fun _ _ _ h => h) (by rfl) ?_ (by assumption) ?_; rotate_left; (focus (intro w hSw; (try dsimp only at hSw); go_simp; try with_reducible rfl)); (try simp only [Act.put, List.setIfInBounds_toArray, List.set_cons_zero, List.set_cons_succ]))
      (refine heldTake 1 (some 66) (v := ?_) rfl rfl (by kernel_rfl) (by kernel_rfl) (by kernel_rfl) (fun _ _ _ h => h) (by rfl) ?_ (by assumption) ?_; rotate_left; (focus (intro w hSw; (try dsimp only at hSw); go_simp; try with_reducible rfl)); (try simp only [Act.put, List.setIfInBounds_toArray, List.set_cons_zero, List.set_cons_succ]))
      (refine heldTake 2 (some 67) (v := ?_) rfl rfl (by kernel_rfl) (by kernel_rfl) (by kernel_rfl) (fun _ _ _ h => h) (by rfl) ?_ (by assumption) ?_; rotate_left; (focus (intro w hSw; (try dsimp only at hSw); go_simp; try with_reducible rfl)); (try simp only [Act.put, List.setIfInBounds_toArray, List.set_cons_zero, List.set_cons_succ]))
      (refine heldTake 3 (some 68) (v := ?_) rfl rfl (by kernel_rfl) (by kernel_rfl) (by kernel_rfl) (fun _ _ _ h => h) (by rfl) ?_ (by assumption) ?_; rotate_left; (focus (intro w hSw; (try dsimp only at hSw); go_simp; try with_reducible rfl)); (try simp only [Act.put, List.setIfInBounds_toArray, List.set_cons_zero, List.set_cons_succ]))
      (refine heldTake 5 (some 70) (v := ?_) rfl rfl (by kernel_rfl) (by kernel_rfl) (by kernel_rfl) (fun _ _ _ h => h) (by rfl) ?_ (by assumption) ?_; rotate_left; (focus (intro w hSw; (try dsimp only at hSw); go_simp; try with_reducible rfl)); (try simp only [Act.put, List.setIfInBounds_toArray, List.set_cons_zero, List.set_cons_succ]))
      (refine heldTake 6 (some 71) (v := ?_) rfl rfl (by kernel_rfl) (by kernel_rfl) (by kernel_rfl) (fun _ _ _ h => h) (by rfl) ?_ (by assumption) ?_; rotate_left; (focus (intro w hSw; (try dsimp only at hSw); go_simp; try with_reducible rfl)); (try simp only [Act.put, List.setIfInBounds_toArray, List.set_cons_zero, List.set_cons_succ]))
      (refine wpAnyH_ready (rs := [4]) (by kernel_rfl) (by simp) ?_; refine AllReadyH.cons rfl (fun K hK => ?_) AllReadyH.nil; go_simp; skip; (try dsimp only); refine hK.out _ _ (HX5) (fun hHeld => ?_); clear hK K; (try simp only [Act.put, List.setIfInBounds_toArray, List.set_cons_zero, List.set_cons_succ]))
      (refine wpAnyH_ready (rs := [7]) (by kernel_rfl) (by simp) ?_; refine AllReadyH.cons rfl (fun K hK => ?_) AllReadyH.nil)
      refine step_append_more rfl (.tmp 69) (.tmp 71) 31 59 rfl Try.underlying31 hi hz0 hz1 hz2 rfl (by decide) (by decide) wi.heap.size (v := .slice (some ⟨g, 0, none⟩) m cap) (n := m) (xs := entsV r.reverse) ax xn.length cx (entsV xn) rfl rfl hrd hnone (entsV_len _) hsrc (entsV_one _) (by omega) hwi ?_
      intro v7 w7 own7 hgr7 hnew7
      have bB7 := (bB6.next hdr).kept hgr7 (by simp [Value.ownBlock]; omega)
      have bX7 := (bX6.next hdr).kept hgr7 (by simp [Value.ownBlock]; omega)
      have bR7 := (bR6.next hdr).kept hgr7 (by simp [Value.ownBlock]; omega)
      have bE7 := (bE6.next hdr).kept hgr7 (by simp [Value.ownBlock]; omega)
      have hf7 := (hf6.next hdr).kept hgr7 (by simp [Value.ownBlock]; omega)
      have hG7 := (hG6.down hdr (by omega)).grown hgr7 (fun k hk => .inr (.inr (.inl hk)))
      have HX7 : w7.cell? ⟨X, 5, none⟩ = some (.slice ax xn.length cx) := (bX7.cell 5).trans rfl
      obtain ⟨a7, c7, rfl⟩ := own_slice own7
      refine hK.out _ _ HX7 (fun hHeld => ?_)
      clear hK K
      (try simp only [Act.put, List.setIfInBounds_toArray, List.set_cons_zero, List.set_cons_succ])
      (refine heldTake 8 (some 73) (v := ?_) rfl rfl (by kernel_rfl) (by kernel_rfl) (by kernel_rfl) (fun _ _ _ h => h) (by rfl) ?_ (by assumption) ?_; rotate_left; (focus (intro w hSw; (try dsimp only at hSw); go_simp; try with_reducible rfl)); (try simp only [Act.put, List.setIfInBounds_toArray, List.set_cons_zero, List.set_cons_succ]))
      (refine heldTake 9 (some 74) (v := ?_) rfl rfl (by kernel_rfl) (by kernel_rfl) (by kernel_rfl) (fun _ _ _ h => h) (by rfl) ?_ (by assumption) ?_; rotate_left; (focus (intro w hSw; (try dsimp only at hSw); go_simp; try with_reducible rfl)); (try simp only [Act.put, List.setIfInBounds_toArray, List.set_cons_zero, List.set_cons_succ]))
      obtain ⟨p0, p1, p2, p3, p4, p5⟩ := bB7.sides
      have f5 := bB7.frozen 5
      obtain ⟨W8, hW8, bB8, hg8⟩ := bB7.last6 (.slice a7 (m + xn.length) c7)
      have bX8 := bX7.kept hg8 (by simp; omega)
      have HX8 : W8.cell? ⟨X, 5, none⟩ = some (.slice ax xn.length cx) := (bX8.cell 5).trans rfl
      (refine wpAnyH_ready (rs := [10]) (by kernel_rfl) (by simp) ?_; refine AllReadyH.cons rfl (fun K hK => ?_) AllReadyH.nil; go_simp; skip; (try dsimp only); refine hK.out _ _ (HX8) (fun hHeld => ?_); clear hK K; (try simp only [Act.put, List.setIfInBounds_toArray, List.set_cons_zero, List.set_cons_succ]))
      refine wpAnyH_done (by kernel_rfl) ?_ _
      have hBl6 := bB6.lt
      have hMl6 := hf6.lt
      have hRl6 := bR6.lt
      have hdsz := hdr.size
      have h7sz := hgr7.size
      have hn7 : ∀ k, Value.ownBlock (.slice a7 (m + xn.length) c7) = some k → k ≠ B ∧ k ≠ M ∧ k ≠ w.heap.size := by
        intro k hk
        rcases hnew7 k hk with h | h
        · have hgk : g = k := by simpa [Value.ownBlock] using h
          exact ⟨hgk ▸ hgB.1, hgk ▸ hgB.2, by have := hgl.2; omega⟩
        · exact ⟨by omega, by omega, by omega⟩
      have bR8 := bR7.kept hg8 (by simp; omega)
      have bE8 := bE7.kept hg8 (by simp; omega)
      have hf8 := hf7.kept hg8 (by simp; omega)
      have own8 := own7.kept hg8 (.inr (fun c => (hn7 B c).1 rfl))
      have hG8 := hG7.grown hg8 (fun k hk => by cases hk; exact .inl rfl)
      obtain ⟨⟨x0, x1, x2, x3, x4, x5⟩, _⟩ := bX8.six
      dsimp only at x0 x1 x2 x3 x4 x5
      have q0 := bE8.cell 0
      simp only [List.getElem?_toArray, List.getElem?_cons_zero] at q0
      obtain ⟨⟨r0, r1, r2, r3, r4⟩, e0, e1, e2, e3, e4⟩ := bR8.five
      obtain ⟨W9, hW9, hb9, hg9⟩ := bR8.put5 (.string ⟨en.toArray⟩) (.int .i64 (S.length : Nat)) (.int .i64 xk) (.string ⟨xd.toArray⟩) (.int .i64 (xn.length : Nat))
      clear p0 p1 p2 p3 p4 p5 f5 HX8 HX7 hHeld
      go_wp2
      obtain ⟨⟨y0, y1, y2, y3, y4⟩, _⟩ := hb9.five
      refine bodyPost_ret (v := .agg #[.string ⟨en.toArray⟩, .int .i64 (S.length : Nat), .int .i64 xk, .string ⟨xd.toArray⟩, .int .i64 (xn.length : Nat)]) (by simp [results, Try.f23, go_sem, y0, y1, y2, y3, y4]) rfl ?_
      refine ⟨.slice a7 (m + xn.length) c7, by rw [HL.out], ⟨bB8.kept hg9 (by simp; omega), hf8.kept hg9 (by simp; omega), ?_, hB0, hM0, hBM, fun k hk => ⟨(hn7 k hk).1, (hn7 k hk).2.1⟩, ?_⟩, hG8.grown hg9 (fun k hk => by cases hk; right; right; right; exact Nat.le_refl _), fun k hk => ?_⟩
      · rw [HK.out, List.reverse_append, List.reverse_reverse, entsV_append, show (xn.reverse ++ r).length = m + xn.length from by rw [List.length_append, List.length_reverse, HMm.out]; omega]
        exact own8.kept hg9 (.inr (fun c => (hn7 _ c).2.2 rfl))
      · rw [HK.out]
        intro x hx
        rcases List.mem_append.1 hx with h | h
        · exact hthere x (List.mem_reverse.1 h)
        · exact hnum x (List.mem_cons_of_mem _ h)
      · rcases hnew7 k hk with h | h
        · exact .inl h
        · exact .inr (by omega)
end Go.Proofs.Ytpeghnhaekebdaa
