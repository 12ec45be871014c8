/- Texts put together: WalkT20, WalkV20, Short20, Awake20, LawBase20. -/
import Derived.Test.YtolbhjjcabiabaaGreatDoorQWalkS20
import Derived.BigQuiet
import Derived.Test.YtolbhjjcabiabaaGreatDoorQMWalkU20
import Derived.Test.YtolbhjjcabiabaaGreatDoorQMWalkP19
import Derived.Test.YtolbhjjcabiabaaGreatDoorQWalkQ20
import Derived.Test.YtolbhjjcabiabaaGreatDoorQWalkR20
import Derived.Laws.StructEq
import Derived.Test.YtolbhjjcabiabaaGreatDoorQMOpIn19
import Derived.Test.YtolbhjjcabiabaaGreatDoorQMTab20
import Derived.Test.YtolbhjjcabiabaaGreatDoorTie
import Derived.Test.YtolbhjjcabiabaaGreatDoorCards
import Derived.ProofKit
import Derived.SevenTiedAt
set_option linter.unusedVariables false
set_option linter.unusedSimpArgs false
/- Walks: the program's (*reader).take. -/
set_option linter.unusedVariables false
set_option linter.unusedSimpArgs false
namespace Go.Proofs.YtolbhjjcabiabaaGreatDoor
open Go.RowKit

theorem cut_suffix20 (x : List UInt8) : Lib.hasSuffix x [10] = endedR x ∧ Lib.trimSuffix x [10] = textR x := by
  have h1 : Lib.hasSuffix x [10] = endedR x := by
    unfold Lib.hasSuffix endedR
    rw [Bool.eq_iff_iff, List.isSuffixOf_iff_suffix, beq_iff_eq]
    constructor
    · rintro ⟨r, rfl⟩; simp
    · intro h
      obtain ⟨ys, rfl⟩ := List.getLast?_eq_some_iff.1 h
      exact ⟨ys, rfl⟩
  refine ⟨h1, ?_⟩
  unfold Lib.trimSuffix textR
  rw [h1]
  unfold endedR
  by_cases h : x.getLast? = some 10
  · rw [if_pos h, if_pos (by simpa using h), List.dropLast_eq_take]; rfl
  · rw [if_neg h, if_neg (by simpa using h)]
theorem CutSuffix20_any (x : List UInt8) (w : World) (hx : x.length ≤ 1000000000) :
    Calls Tryz.prog 68 #[.string ⟨x.toArray⟩, .string ⟨#[10]⟩] w fun e w' => e = .returned (.tuple #[.string ⟨(textR x).toArray⟩, .bool (endedR x)]) ∧ w' = w := by
  obtain ⟨h1, h2⟩ := cut_suffix20 x
  have := Tryz.strings_CutSuffix ⟨x.toArray⟩ ⟨#[10]⟩ w (by simp [ByteArray.size]; omega)
  rw [show Lib.trimSuffix (ByteArray.mk x.toArray).data.toList (ByteArray.mk #[10]).data.toList = textR x from h2, show Lib.hasSuffix (ByteArray.mk x.toArray).data.toList (ByteArray.mk #[10]).data.toList = endedR x from h1] at this
  exact this
theorem text_le20 (x : List UInt8) : (textR x).length ≤ x.length := by
  unfold textR
  split
  · simp
  · exact Nat.le_refl _
theorem take_small {st st' : RdS} {x : List UInt8} (h : takeR st x = some st') (hs : SmallR st) (hx : x.length ≤ 100000) : SmallR st' ∧ st'.ops.length ≤ st.ops.length + 1 := by
  unfold takeR at h
  split at h
  · split at h
    · cases h; exact ⟨hs, by omega⟩
    · cases h
  · split at h
    · cases h
    · split at h
      · cases hc : countP (textR x) with
        | none => rw [hc] at h; cases h
        | some n => rw [hc] at h; cases h; exact ⟨hs, by simp⟩
      · cases hr : readO (textR x) with
        | none => rw [hr] at h; cases h
        | some o =>
          rw [hr] at h
          obtain ⟨hm, hl⟩ := (read_iff _ _).1 hr
          have hp := line_parts hm
          rw [hl] at hp
          have ht := text_le20 x
          have ho : o.a.length ≤ 100000 ∧ o.b.length ≤ 100000 ∧ o.data.length ≤ 100000 := by omega
          dsimp only [Option.bind_some] at h
          unfold addR at h
          split at h
          · cases h
            refine ⟨⟨fun y hy => ?_, fun y hy => ?_, ?_⟩, by simp⟩
            · rcases List.mem_append.1 hy with hy | hy
              · exact hs.1 y hy
              · rw [List.mem_singleton.1 hy]; exact ho
            · dsimp only at hy
              split at hy
              · exact hs.2.1 y hy
              · rw [List.mem_singleton.1 hy]; exact ho
            · dsimp only
              split
              · exact hs.2.2
              · simp
          · cases h
set_option maxHeartbeats 8000000 in
set_option maxRecDepth 100000 in
theorem take_any (w0 : World) (Br Bm n1 : Nat) (hL : Laid20 w0) (h0 : w0.heap.size ≤ Br) (h1 : Br < n1) (hmne : Bm ≠ Br) (st : RdS) (vo vl : Value) (x : List UInt8) (w : World) (hR : RdAt w0 Br Bm n1 st vo vl w) (hs : SmallR st) (hop : st.ops.length ≤ 1000000000) (hx : x.length ≤ 90000) :
    Calls Tryz.prog 42 #[.pointer (some ⟨Br, 0, none⟩), .string ⟨x.toArray⟩] w fun e w' => e = .returned (.bool (takeR st x).isSome) ∧ (∀ st', takeR st x = some st' → ∃ vo' vl', RdAt w0 Br Bm n1 st' vo' vl' w') ∧ Turn20 Br n1 w w' := by
  have hcs := fun W => CutSuffix20_any x W (by omega)
  have htl := text_le20 x
  have hct := fun W hW => count_any (textR x) W hW (by omega)
  have hrd := fun bm W hW hM => read_any (textR x) bm W hW hM (by omega)
  have hlo := hR.lo
  obtain ⟨ao, co, rfl⟩ := own_slice20 hR.ops
  obtain ⟨r0, r1, r2, r3, r4, r5, r6⟩ := hR.blk.sevens
  have hLw := hL.next hR.base
  obtain ⟨bg, mn, L, la, pl, un⟩ := st
  dsimp only at r0 r1 r2 r3 r4 r5 r6 hop
  have f1 := hR.blk.frozen 1
  have f2 := hR.blk.frozen 2
  have hT0 := Turn20.refl Br n1 w
  cases bg
  · have HD : Hid (takeR ⟨false, mn, L, la, pl, un⟩ x = if endedR x = false then none else (countP (textR x)).map (fun (n : Nat) => ⟨true, (n : Int), L, la, pl, un⟩)) := Lib.hid rfl
    cases he : endedR x
    · have HN : Hid (takeR ⟨false, mn, L, la, pl, un⟩ x = none) := Lib.hid (by rw [HD.out, he]; rfl)
      rw [he] at hcs
      clear hct hrd
      go_enter Tryz.func42, Tryz.ntmps42
      go_wp2_with fail
      refine (hcs _).mono ?_
      rintro e w1 ⟨rfl, rfl⟩
      go_wp2
      go_quiet (fail)
      go_wp2
      go_ret
      exact ⟨by rw [HN.out]; rfl, (fun st' h => by (rw [HN.out] at h; cases h)), Turn20.of_below (Joins.below_draws _ _ _) hlo⟩
    · have HD2 : Hid (takeR ⟨false, mn, L, la, pl, un⟩ x = (countP (textR x)).map (fun (n : Nat) => ⟨true, (n : Int), L, la, pl, un⟩)) := Lib.hid (by rw [HD.out, he]; rfl)
      rw [he] at hcs
      clear hrd HD
      go_enter Tryz.func42, Tryz.ntmps42
      go_wp2_with fail
      refine (hcs _).mono ?_
      rintro e w1 ⟨rfl, rfl⟩
      go_wp2
      go_quiet (fail)
      have hbd := Joins.below_draws w1.heap.size w1 nq
      have hRd := hR.next hbd
      have hTd := Turn20.of_below (Br := Br) (n1 := n1) hbd hlo
      generalize w1.drewN nq = wd at *
      clear r0 r1 r2 r3 r4 r5 r6 f1 f2
      obtain ⟨r0, r1, r2, r3, r4, r5, r6⟩ := hRd.blk.sevens
      dsimp only at r0 r1 r2 r3 r4 r5 r6
      have hco := hct wd (hL.next hRd.base).2.2
      go_wp2_with fail
      refine hco.mono ?_
      rintro e w2 ⟨rfl, b2⟩
      have hR2 := hRd.next b2
      have hT2 := hTd.trans (Turn20.of_below b2 hRd.lo)
      clear r0 r1 r2 r3 r4 r5 r6 hco hct
      obtain ⟨r0, r1, r2, r3, r4, r5, r6⟩ := hR2.blk.sevens
      have f1 := hR2.blk.frozen 1
      have f2 := hR2.blk.frozen 2
      dsimp only at r0 r1 r2 r3 r4 r5 r6
      have hR3 := hR2.put h0 h1 hmne 2 (.int .i64 ((countP (textR x)).getD 0 : Nat)) ⟨false, ((countP (textR x)).getD 0 : Nat), L, la, pl, un⟩ rfl rfl rfl
      have hR4 := hR3.put h0 h1 hmne 1 (.bool (countP (textR x)).isSome) ⟨(countP (textR x)).isSome, ((countP (textR x)).getD 0 : Nat), L, la, pl, un⟩ rfl rfl rfl
      have hT4 := (hT2.trans (Turn20.set 2 (.int .i64 ((countP (textR x)).getD 0 : Nat)) hR2.blk hR2.lo)).trans (Turn20.set 1 (.bool (countP (textR x)).isSome) hR3.blk hR3.lo)
      have c1 := hR4.blk.sevens.2.1
      have f1' := hR3.blk.frozen 1
      dsimp only at c1
      have HS : Hid ((takeR ⟨false, mn, L, la, pl, un⟩ x).isSome = (countP (textR x)).isSome) := Lib.hid (by rw [HD2.out, Option.isSome_map])
      have HQ : Hid (∀ st', takeR ⟨false, mn, L, la, pl, un⟩ x = some st' → st' = ⟨(countP (textR x)).isSome, ((countP (textR x)).getD 0 : Nat), L, la, pl, un⟩) := Lib.hid (fun st' h => by
        rw [HD2.out] at h
        cases hc : countP (textR x) with
        | none => rw [hc] at h; cases h
        | some n => rw [hc] at h; cases h; rfl)
      have HR4 := Lib.hid hR4
      have HT4 := Lib.hid hT4
      clear hR hRd hR2 hR3 hR4 hT4 hT2 hTd HD2
      generalize (countP (textR x)).getD 0 = n at *
      generalize (countP (textR x)).isSome = bs at *
      go_wp2
      go_ret
      exact ⟨by rw [HS.out]; rfl, (fun st' h => by (rw [HQ.out st' h]; exact ⟨_, _, HR4.out⟩)), HT4.out⟩
  · cases hful : ((L.length : Int) == mn)
    · have HD : Hid (takeR ⟨true, mn, L, la, pl, un⟩ x = if endedR x = false then none else (readO (textR x)).bind (addR ⟨true, mn, L, la, pl, un⟩)) := Lib.hid (by unfold takeR; dsimp only; rw [hful]; rfl)
      cases he : endedR x
      · have HN : Hid (takeR ⟨true, mn, L, la, pl, un⟩ x = none) := Lib.hid (by rw [HD.out, he]; rfl)
        rw [he] at hcs
        clear hct hrd
        go_enter Tryz.func42, Tryz.ntmps42
        go_wp2_with fail
        refine (hcs _).mono ?_
        rintro e w1 ⟨rfl, rfl⟩
        go_wp2
        go_quiet (fail)
        go_wp2
        go_ret
        exact ⟨by rw [HN.out]; rfl, (fun st' h => by (rw [HN.out] at h; cases h)), Turn20.of_below (Joins.below_draws _ _ _) hlo⟩
      · have HD2 : Hid (takeR ⟨true, mn, L, la, pl, un⟩ x = (readO (textR x)).bind (addR ⟨true, mn, L, la, pl, un⟩)) := Lib.hid (by rw [HD.out, he]; rfl)
        rw [he] at hcs
        clear hct HD
        go_enter Tryz.func42, Tryz.ntmps42
        go_wp2_with fail
        refine (hcs _).mono ?_
        rintro e w1 ⟨rfl, rfl⟩
        go_wp2
        go_quiet (fail)
        have hbd := Joins.below_draws w1.heap.size w1 nq
        have hRd := hR.next hbd
        have hTd := Turn20.of_below (Br := Br) (n1 := n1) hbd hlo
        generalize w1.drewN nq = wd at *
        clear r0 r1 r2 r3 r4 r5 r6 f1 f2
        obtain ⟨r0, r1, r2, r3, r4, r5, r6⟩ := hRd.blk.sevens
        dsimp only at r0 r1 r2 r3 r4 r5 r6
        have hre := hrd Bm wd (hL.next hRd.base) hRd.kinds
        go_wp2_with fail
        refine hre.mono ?_
        rintro e w2 ⟨rfl, b2⟩
        have hR2 := hRd.next b2
        have hT2 := hTd.trans (Turn20.of_below b2 hRd.lo)
        clear r0 r1 r2 r3 r4 r5 r6 hre hrd
        cases hr : readO (textR x) with
        | none =>
          have HN : Hid (takeR ⟨true, mn, L, la, pl, un⟩ x = none) := Lib.hid (by rw [HD2.out, hr]; rfl)
          simp only [Option.getD_none, Option.isSome_none]
          have b3 := Joins.below_alloc1 w2 (.cells (opC zeroO) 23)
          have hT3 := hT2.trans (Turn20.of_below b3 hR2.lo)
          go_wp2
          go_ret
          exact ⟨by rw [HN.out]; rfl, (fun st' h => by (rw [HN.out] at h; cases h)), hT3⟩
        | some o =>
          have HQ : Hid (takeR ⟨true, mn, L, la, pl, un⟩ x = addR ⟨true, mn, L, la, pl, un⟩ o) := Lib.hid (by rw [HD2.out, hr]; rfl)
          obtain ⟨hm, hl⟩ := (read_iff _ _).1 hr
          have hp := line_parts hm
          rw [hl] at hp
          have ho : o.a.length ≤ 100000 ∧ o.b.length ≤ 100000 ∧ o.data.length ≤ 100000 := by omega
          have b3 := Joins.below_alloc1 w2 (.cells (opC o) 23)
          have hR3 := hR2.next b3
          have hT3 := hT2.trans (Turn20.of_below b3 hR2.lo)
          have hAd := add_any w0 Br Bm n1 hL h0 h1 ⟨true, mn, L, la, pl, un⟩ _ _ o _ hR3 hs ho hop
          have bO := Blk.new w2 23 (opC o)
          obtain ⟨o0, o1, o2, o3, o4⟩ := bO.five
          simp only [Option.getD_some, Option.isSome_some]
          clear hm hl hp ho hr HD2
          obtain ⟨ok, os, oa, ob, od⟩ := o
          dsimp only at o0 o1 o2 o3 o4
          go_wp2_with fail
          refine hAd.mono ?_
          rintro e w4 ⟨rfl, hst, hT5⟩
          have HST := Lib.hid hst
          clear hst hAd
          go_wp2
          go_ret
          exact ⟨by rw [HQ.out]; rfl, (fun st' h => by (rw [HQ.out] at h; exact HST.out st' h)), hT3.trans hT5⟩
    · have HD : Hid (takeR ⟨true, mn, L, la, pl, un⟩ x = if x = [] then some ⟨true, mn, L, la, pl, un⟩ else none) := Lib.hid (by unfold takeR; dsimp only; rw [hful]; rfl)
      have hxe : Hid (x.isEmpty = decide (x = [])) := Lib.hid (by cases x <;> rfl)
      clear hct hrd
      cases hx0 : x.isEmpty
      · have HN : Hid (takeR ⟨true, mn, L, la, pl, un⟩ x = none) := Lib.hid (by rw [HD.out, if_neg (by rintro rfl; cases hx0)])
        go_enter Tryz.func42, Tryz.ntmps42
        go_wp2_with fail
        refine (hcs _).mono ?_
        rintro e w1 ⟨rfl, rfl⟩
        go_wp2
        go_quiet (fail)
        go_wp2
        go_ret
        exact ⟨by rw [HN.out]; rfl, (fun st' h => by (rw [HN.out] at h; cases h)), Turn20.of_below (Joins.below_draws _ _ _) hlo⟩
      · have HN : Hid (takeR ⟨true, mn, L, la, pl, un⟩ x = some ⟨true, mn, L, la, pl, un⟩) := Lib.hid (by rw [HD.out, if_pos (by simpa using hx0)])
        go_enter Tryz.func42, Tryz.ntmps42
        go_wp2_with fail
        refine (hcs _).mono ?_
        rintro e w1 ⟨rfl, rfl⟩
        go_wp2
        go_quiet (fail)
        go_wp2
        go_ret
        exact ⟨by rw [HN.out]; rfl, (fun st' h => by (rw [HN.out] at h; cases h; exact ⟨_, _, hR.next (Joins.below_draws _ _ _)⟩)), Turn20.of_below (Joins.below_draws _ _ _) hlo⟩
end Go.Proofs.YtolbhjjcabiabaaGreatDoor

/- Walks: the program's Get. -/
set_option linter.unusedVariables false
set_option linter.unusedSimpArgs false
namespace Go.Proofs.YtolbhjjcabiabaaGreatDoor
open Go.RowKit Go.Shelf
attribute [local go_sem] Oper.semAt_some

theorem RdAt.outside {w0 : World} {Br Bm n1 : Nat} {st : RdS} {vo vl : Value} {W W' : World} {row : Option Nat} (h : RdAt w0 Br Bm n1 st vo vl W) (h0 : w0.heap.size ≤ n1) (h1 : Br < n1) (hm : Bm < n1) (hg : W.grownBy W' row) (hr : ∀ r, row = some r → n1 ≤ r ∧ ∃ o : Obj, W.heap[r]? = some o ∧ o.isCells = false) : RdAt w0 Br Bm n1 st vo vl W' := by
  have hrow : ∀ {v : Value} {n : Nat} {xs : List Value}, W.ownsRow n1 23 5 v n xs → v.ownBlock = none ∨ v.ownBlock ≠ row := fun {v n xs} hv => by
    cases hb : v.ownBlock with
    | none => exact .inl rfl
    | some k =>
      refine .inr fun e => ?_
      obtain ⟨o, ho, hc⟩ := (hr k e.symm).2
      have := own_cells20 hv k o hb ho
      rw [this] at hc; cases hc
  exact ⟨h.blk.kept hg (fun e => by have := (hr Br e.symm).1; omega), h.ops.kept hg (hrow h.ops), h.last.kept hg (hrow h.last), h.far, h.kinds.kept hg (fun e => by have := (hr Bm e.symm).1; omega), h.base.grown hg (Nat.le_trans h0 h.lo) (fun k e => Nat.le_trans h0 (hr k e).1), Nat.le_trans h.lo hg.size⟩
theorem Blk.putObj20 {W : World} {B D : Nat} {t : TypeId} {cs : Array Value} (h : Blk W B t cs) {o : Obj} (o' : Obj) (hD : W.heap[D]? = some o) (ho : o.isCells = false) : Blk (W.putObj D o') B t cs :=
  h.kept (grownBy_putObj' W D o') (fun e => by
    obtain rfl : B = D := by simpa using e
    rw [show W.heap[B]? = _ from h] at hD; cases hD; cases ho)
theorem ownsRow_putObj20 {W : World} {base : Nat} {e : TypeId} {size n D : Nat} {v : Value} {xs : List Value} (h : W.ownsRow base e size v n xs) {o : Obj} (o' : Obj) (hD : W.heap[D]? = some o) (ho : o.isCells = false) : (W.putObj D o').ownsRow base e size v n xs :=
  h.kept (grownBy_putObj' W D o') (by
    cases hb : v.ownBlock with
    | none => exact .inl rfl
    | some k =>
      refine .inr fun e => ?_
      have := own_cells20 h k o hb (by cases e; exact hD)
      rw [this] at ho; cases ho)
/-- The reader, between two lines. -/
def GetI (s : List UInt8) (w0 : World) (Br Bm n1 b0 : Nat) (pre : List Chk) (W : World) : Prop :=
  ∃ st vo vl, runR startR (pre.map (·.1)) = .inl st ∧ RdAt w0 Br Bm n1 st vo vl W ∧ SmallR st ∧ st.ops.length ≤ pre.length ∧ Blk W b0 26 #[.slice none 0 0] ∧ Blk W (b0 + 1) 38 #[.int .i64 0, .int .i64 0]
/-- .. and where it was left. -/
def GetX (s : List UInt8) (w0 : World) (b0 : Nat) (c : Code) (pre : List Chk) (W : World) : Prop :=
  c = .ret ∧ ∃ p : Nat, runR startR (pre.map (·.1)) = .inr p ∧ Blk W b0 26 #[.slice none 0 0] ∧ Blk W (b0 + 1) 38 #[.int .i64 (p : Int), .int .i64 12] ∧ Below w0.heap.size w0 W
theorem getI_own (s : List UInt8) {w0 : World} {Br Bm n1 b0 : Nat} (h0 : w0.heap.size ≤ n1) (h1 : Br < n1) (hm : Bm < n1) (hb : b0 + 1 < n1) : OwnFrom n1 (GetI s w0 Br Bm n1 b0) := by
  rintro pre W W' row ⟨st, vo, vl, q1, q2, q3, q4, q5, q6⟩ hg hr
  exact ⟨st, vo, vl, q1, q2.outside h0 h1 hm hg hr, q3, q4, q5.kept hg (fun e => by have := (hr _ e.symm).1; omega), q6.kept hg (fun e => by have := (hr _ e.symm).1; omega)⟩
theorem getX_own (s : List UInt8) {w0 : World} {n1 b0 : Nat} (h0 : w0.heap.size ≤ n1) (hb : b0 + 1 < n1) (c : Code) : OwnFrom n1 (GetX s w0 b0 c) := by
  rintro pre W W' row ⟨q0, p, q1, q5, q6, q7⟩ hg hr
  exact ⟨q0, p, q1, q5.kept hg (fun e => by have := (hr _ e.symm).1; omega), q6.kept hg (fun e => by have := (hr _ e.symm).1; omega), q7.grown hg (by have := q7.size; omega) (fun k e => Nat.le_trans h0 (hr k e).1)⟩
set_option maxRecDepth 100000 in
set_option maxHeartbeats 8000000 in
theorem Get20_any (s : List UInt8) (w : World) (hL : Laid20 w) (hs : s.length ≤ 4000000) (hln : ∀ c ∈ chunksO s, c.2.length ≤ 90000) :
    Calls Tryz.prog 17 #[.string ⟨s.toArray⟩] w fun e w' => ∃ vo, e = .returned (.tuple #[vo, .agg #[.int .i64 (getO s).2.1, .int .i64 (getO s).2.2]]) ∧ Ops w' vo (getO s).1 ∧ Below w.heap.size w w' := by
  have hB2 := Joins.below_alloc2 w (.cells #[.slice none 0 0] 26) (.cells #[.int .i64 0, .int .i64 0] 38)
  have hsz2 : ((w.alloc (.cells #[.slice none 0 0] 26)).alloc (.cells #[.int .i64 0, .int .i64 0] 38)).heap.size = w.heap.size + 2 := by simp
  have hk := kindsByWord_any _ (hL.next hB2).2.1
  have bA := (Blk.new w 26 #[.slice none 0 0]).alloc (.cells #[.int .i64 0, .int .i64 0] 38)
  have bB := Blk.new (w.alloc (.cells #[.slice none 0 0] 26)) 38 #[.int .i64 0, .int .i64 0]
  rw [World.size_alloc] at bB
  generalize hA0 : (w.alloc (.cells #[.slice none 0 0] 26)).alloc (.cells #[.int .i64 0, .int .i64 0] 38) = A0 at *
  refine (callsIn_wide (n := 3)).1 ?_
  (refine callsIn_of_wp_marks Tryz.func17 rfl trivial ?_ rfl; simp only [Tryz.ntmps17, List.size_toArray, List.length_cons, List.length_nil, Nat.reduceAdd, Nat.reduceSub, Array.replicate_succ, Array.replicate_zero, List.push_toArray, List.append_toArray, List.nil_append, List.cons_append])
  gi_wp2_with fail
  clear hA0
  refine ⟨trivial, ?_⟩
  gi_at_call 23
  refine (callsIn_wide.2 hk).mono ?_
  rintro e w1 ⟨rfl, hM, b1⟩
  rw [hsz2] at hM
  have hB1 := hB2.trans (b1.mono hB2.size)
  have bA1 := bA.next b1
  have bB1 := bB.next b1
  have hlm := hM.lt
  have bRd := Blk.new w1 70 #[.map (some (w.heap.size + 2)), .bool false, .int .i64 0, .slice none 0 0, .slice none 0 0, .bool true, .bool true]
  have b2 := Joins.below_alloc1 w1 (.cells #[.map (some (w.heap.size + 2)), .bool false, .int .i64 0, .slice none 0 0, .slice none 0 0, .bool true, .bool true] 70)
  gi_wp2_with fail
  refine ⟨trivial, ?_⟩
  gi_at_call 41
  refine (lines_in s _).mono ?_
  rintro e w3 ⟨rfl, rfl⟩
  have bA3 := (bA1.next b2).alloc (.cells #[.string ⟨s.toArray⟩] 9)
  have bB3 := (bB1.next b2).alloc (.cells #[.string ⟨s.toArray⟩] 9)
  have hM3 := (hM.next b2).next (Joins.below_alloc1 _ (.cells #[.string ⟨s.toArray⟩] 9))
  have bRd3 := bRd.alloc (.cells #[.string ⟨s.toArray⟩] 9)
  have bS3 := Blk.new (w1.alloc (.cells #[.map (some (w.heap.size + 2)), .bool false, .int .i64 0, .slice none 0 0, .slice none 0 0, .bool true, .bool true] 70)) 9 #[.string ⟨s.toArray⟩]
  rw [World.size_alloc] at bS3
  have hB3 := hB1.trans (((Joins.below_alloc2 w1 (.cells #[.map (some (w.heap.size + 2)), .bool false, .int .i64 0, .slice none 0 0, .slice none 0 0, .bool true, .bool true] 70) (.cells #[.string ⟨s.toArray⟩] 9)).mono hB1.size))
  have hsz3 : ((w1.alloc (.cells #[.map (some (w.heap.size + 2)), .bool false, .int .i64 0, .slice none 0 0, .slice none 0 0, .bool true, .bool true] 70)).alloc (.cells #[.string ⟨s.toArray⟩] 9)).heap.size = w1.heap.size + 2 := by simp
  have hw1 : w.heap.size + 2 < w1.heap.size := hlm
  gi_wp2
  have hR0 : RdAt w w1.heap.size (w.heap.size + 2) (w1.heap.size + 2) startR (.slice none 0 0) (.slice none 0 0) ((w1.alloc (.cells #[.map (some (w.heap.size + 2)), .bool false, .int .i64 0, .slice none 0 0, .slice none 0 0, .bool true, .bool true] 70)).alloc (.cells #[.string ⟨s.toArray⟩] 9)) :=
    ⟨bRd3, World.ownsRow_nil _ _ _ _, World.ownsRow_nil _ _ _ _, (fun g h => by cases h), hM3, hB3, (by rw [hsz3]; exact Nat.le_refl _)⟩
  have hS0 := bS3.cell 0
  generalize (w1.alloc (.cells #[.map (some (w.heap.size + 2)), .bool false, .int .i64 0, .slice none 0 0, .slice none 0 0, .bool true, .bool true] 70)).alloc (.cells #[.string ⟨s.toArray⟩] 9) = W3 at *
  have h0 : w.heap.size ≤ w1.heap.size := by omega
  have hpair : w.heap.size + 2 ≠ w1.heap.size := by omega
  have hLL := Lib.hid hL
  have HLN := Lib.hid hln
  have hfr := lines_stops (w1.heap.size + 1) s hs hln W3 (by omega) hS0
  clear hk hL hln bA bA1 bB bB1 bRd bRd3 hM hM3 b1 b2 hB1 hB2 hB3 hlm bS3 hS0
  refine wpIn_rangeFunc_ownG rfl (by omega) (gf := 66) (lb := #[.pointer (some ⟨w1.heap.size + 1, 0, none⟩)]) rfl trivial (enters_of Tryz.func66 (by kernel_rfl) rfl)
    hfr (fun h k => k.trans h) (fun W l o o' hl ho _ _ => World.putObj_heap_other (by omega)) (Below.refl _ _) (fun _ => rfl)
    (GetI s w w1.heap.size (w.heap.size + 2) (w1.heap.size + 2) w.heap.size)
    (GetX s w w.heap.size)
    (by rw [hsz3]; exact getI_own s (by omega) (by omega) (by omega) (by omega))
    (fun c => by rw [hsz3]; exact getX_own s (by omega) (by omega) c)
    ⟨startR, _, _, rfl, hR0, ⟨(fun o h => nomatch h), (fun o h => nomatch h), by decide⟩, Nat.le_refl _, bA3, bB3⟩
    (fun x => { tmps := #[.string ⟨s.toArray⟩, undef, .pointer (some ⟨w.heap.size, 0, none⟩), .pointer (some ⟨w.heap.size + 1, 0, none⟩), .pointer (some ⟨w1.heap.size, 0, none⟩), .int .i64 (x.1.1 : Int), .string ⟨x.1.2.toArray⟩, .map (some (w.heap.size + 2)),
      .agg (rdC (w.heap.size + 2) startR (.slice none 0 0) (.slice none 0 0)), .string ⟨s.toArray⟩, .func (.func 66) #[] #[.pointer (some ⟨w1.heap.size + 1, 0, none⟩)], .int .i64 (x.1.1 : Int), .string ⟨x.1.2.toArray⟩, undef, undef, undef, undef, undef, undef, undef, undef], defers := [] }) ?assign ?body ?done ?stop
  case assign =>
    intro l x W K hK
    gi_wp2
    exact hK
  case body =>
    rintro l pre x W ⟨st, vo, vl, hrun, hR, hsm, hol, bA4, bB4⟩ hlen
    obtain ⟨⟨p, y⟩, hy⟩ := x
    dsimp only at hy
    have htk := take_any w w1.heap.size (w.heap.size + 2) (w1.heap.size + 2) hLL.out h0 (by omega) hpair st vo vl y W hR hsm (by omega) hy
    have hsmall := fun st' (h : takeR st y = some st') => take_small h hsm (by omega)
    have hnext : runR startR ((pre ++ [(⟨(p, y), hy⟩ : Chk)]).map (·.1)) = match takeR st y with | none => .inr p | some st' => .inl st' := by
      rw [List.map_append, run_append, hrun]
      show runR st [(p, y)] = _
      rw [runR]
      cases takeR st y with
      | none => rfl
      | some st' => rfl
    have HNX := Lib.hid hnext
    clear hnext hrun
    gi_wp2_with fail
    refine ⟨trivial, ?_⟩
    gi_at_call 42
    refine (CallsIn.inRound l (callsIn_wide.2 htk)).mono ?_
    rintro e W2 ⟨rfl, hst, hT⟩
    have bA5 : Blk W2 w.heap.size 26 #[.slice none 0 0] := (hT.block _ (by omega) (by omega)).trans bA4
    have bB5 : Blk W2 (w.heap.size + 1) 38 #[.int .i64 0, .int .i64 0] := (hT.block _ (by omega) (by omega)).trans bB4
    have hKf := hT.others.from (W3.heap.size)
    have hKp := hT.block (w1.heap.size + 1) (by omega) (by omega)
    have hBe := hR.base.trans (hT.below (n := w.heap.size) (by omega) h0)
    clear htk hR bA4 bB4
    cases htt : takeR st y with
    | none =>
      have HN : Hid (runR startR ((pre ++ [(⟨(p, y), hy⟩ : Chk)]).map (·.1)) = .inr p) := Lib.hid (by rw [HNX.out, htt])
      simp only [Option.isSome_none]
      obtain ⟨c0, c1⟩ := bB5.pair
      have cA := (bA5.cell 0).trans (rfl : _ = some (Value.slice none 0 0))
      have fA := bA5.frozen 0
      have bA6 := bA5.set 0 (.slice none 0 0)
      have bB6 := bB5.other (i := 0) (show w.heap.size + 1 ≠ w.heap.size by omega) (.slice none 0 0)
      have hK6 := hKf.trans ((KeepsOthers.setCell W2 ⟨w.heap.size, 0, none⟩ (.slice none 0 0)).from W3.heap.size)
      have hB6 := hBe.setCell (p := ⟨w.heap.size, 0, none⟩) (Nat.le_refl _) (.slice none 0 0)
      obtain ⟨d0, d1⟩ := bB6.pair
      have e0 := bB6.frozen 0
      have e1 := bB6.frozen 1
      have hKa := (KeepsOthers.setCell (W2.setCell ⟨w.heap.size, 0, none⟩ (.slice none 0 0)) ⟨w.heap.size + 1, 0, none⟩ (.int .i64 (p : Int))).trans (KeepsOthers.setCell _ ⟨w.heap.size + 1, 1, none⟩ (.int .i64 12))
      have bA7 := (bA6.other (i := 0) (show w.heap.size ≠ w.heap.size + 1 by omega) (.int .i64 (p : Int))).other (i := 1) (show w.heap.size ≠ w.heap.size + 1 by omega) (.int .i64 12)
      have bB7 := (bB6.set 0 (.int .i64 (p : Int))).set 1 (.int .i64 12)
      have hB7 := (hB6.setCell (p := ⟨w.heap.size + 1, 0, none⟩) (by simp) (.int .i64 (p : Int))).setCell (p := ⟨w.heap.size + 1, 1, none⟩) (by simp) (.int .i64 12)
      have HFIN := Lib.hid (show _ ∧ _ ∧ _ ∧ _ from ⟨hK6.trans (hKa.from W3.heap.size), bA7, bB7, hB7⟩)
      clear hK6 hKa bA7 bB7 hB7 hB6 hst bA6 bB6 bA5 bB5 hKf hKp hBe
      gi_wp2
      exact ⟨HFIN.out.1, rfl, p, HN.out, HFIN.out.2.1, HFIN.out.2.2.1, HFIN.out.2.2.2⟩
    | some st' =>
      have HN : Hid (runR startR ((pre ++ [(⟨(p, y), hy⟩ : Chk)]).map (·.1)) = .inl st') := Lib.hid (by rw [HNX.out, htt])
      obtain ⟨vo', vl', hR'⟩ := hst st' htt
      obtain ⟨q1, q2⟩ := hsmall st' htt
      simp only [Option.isSome_some]
      clear hst
      gi_wp2
      exact ⟨hKf, hKp, st', vo', vl', HN.out, hR', q1, by simp; omega, bA5, bB5⟩
  case done =>
    rintro D ys W hD hys ⟨st, vo, vl, hrun, hR, hsm, hol, bA4, bB4⟩ hK
    rw [hys] at hrun
    have HG : Hid (getO s = (st.ops, 0, 0)) := Lib.hid (by rw [← run_all s, hrun]; rfl)
    obtain ⟨av, cv, rfl⟩ := own_slice20 hR.ops
    have c3 := hR.blk.sevens.2.2.2.1
    have hops := own_ops hR.ops (fun o ho => by have := hsm.1 o ho; unfold maxLen; omega)
    have hor := hR.ops
    obtain ⟨bg, mn, L, la, pl, un⟩ := st
    dsimp only at c3 hops HG hor hsm
    have cA := (bA4.cell 0).trans (rfl : _ = some (Value.slice none 0 0))
    have fA := bA4.frozen 0
    have bA6 := bA4.set 0 (.slice av L.length cv)
    have bB6 := bB4.other (i := 0) (show w.heap.size + 1 ≠ w.heap.size by omega) (.slice av L.length cv)
    have hB6 := hR.base.setCell (p := ⟨w.heap.size, 0, none⟩) (Nat.le_refl _) (.slice av L.length cv)
    have hr6 := hor.kept (grownBy_set W w.heap.size 0 (.slice av L.length cv)) (own_far20 hor (by omega))
    obtain ⟨d0, d1⟩ := bB6.pair
    have e0 := bB6.frozen 0
    have e1 := bB6.frozen 1
    have hKd := ((KeepsOthers.setCell W ⟨w.heap.size, 0, none⟩ (.slice av L.length cv)).trans (KeepsOthers.setCell _ ⟨w.heap.size + 1, 0, none⟩ (.int .i64 0))).trans (KeepsOthers.setCell _ ⟨w.heap.size + 1, 1, none⟩ (.int .i64 0))
    have hK' := hKd.same D _ hK rfl
    have bA7 := (bA6.other (i := 0) (show w.heap.size ≠ w.heap.size + 1 by omega) (.int .i64 0)).other (i := 1) (show w.heap.size ≠ w.heap.size + 1 by omega) (.int .i64 0)
    have bB7 := (bB6.set 0 (.int .i64 0)).set 1 (.int .i64 0)
    have hB7 := (hB6.setCell (p := ⟨w.heap.size + 1, 0, none⟩) (by simp) (.int .i64 0)).setCell (p := ⟨w.heap.size + 1, 1, none⟩) (by simp) (.int .i64 0)
    have hr7a := hr6.kept (grownBy_set _ (w.heap.size + 1) 0 (.int .i64 0)) (own_far20 hr6 (by omega))
    have hr7 := hr7a.kept (grownBy_set _ (w.heap.size + 1) 1 (.int .i64 0)) (own_far20 hr7a (by omega))
    have HK7 := Lib.hid hK'
    have HF := Lib.hid (show _ ∧ _ ∧ _ ∧ _ from ⟨bA7, bB7, hB7, hr7⟩)
    clear hKd hK' bA7 bB7 hB7 hr7 hr7a hr6 hor bA6 bB6 hB6 bA4 bB4 hops hrun hR
    gi_wp2
    obtain ⟨bA7, bB7, hB7, hr7⟩ := HF.out
    have hK7 := HK7.out
    refine ⟨by simp, .inl ⟨_, _, rfl, run_takeDeferred hK7, ?_⟩⟩
    have g0 := ((Blk.putObj20 bA7 (.deferred none) hK7 rfl).cell 0).trans (rfl : _ = some (Value.slice av L.length cv))
    obtain ⟨g1, g2⟩ := (Blk.putObj20 bB7 (.deferred none) hK7 rfl).pair
    refine ⟨.tuple #[.slice av L.length cv, .agg #[.int .i64 0, .int .i64 0]], ?_, .slice av L.length cv, by rw [HG.out], ?_, hB7.trans (belowK_b (w := w) (Nat.le_refl _) _ D _ _ (by omega) hK7 rfl rfl)⟩
    · simp [results, Tryz.f17, go_sem, g0, g1, g2]
    · rw [HG.out]
      exact own_ops (ownsRow_putObj20 hr7 (.deferred none) hK7 rfl) (fun o ho => by have := hsm.1 o ho; unfold maxLen; omega)
  case stop =>
    rintro D c pre W hD hpre ⟨rfl, p, hrun, bA4, bB4, hB⟩ hK
    obtain ⟨more, hmore⟩ := hpre
    have HG : Hid (getO s = ([], (p : Int), 12)) := Lib.hid (by rw [← run_all s, ← hmore, run_append, hrun]; rfl)
    clear hmore hrun
    gi_wp2
    refine ⟨by simp, .inl ⟨_, _, rfl, run_takeDeferred hK, ?_⟩⟩
    have g0 := ((Blk.putObj20 bA4 (.deferred none) hK rfl).cell 0).trans (rfl : _ = some (Value.slice none 0 0))
    obtain ⟨g1, g2⟩ := (Blk.putObj20 bB4 (.deferred none) hK rfl).pair
    refine ⟨.tuple #[.slice none 0 0, .agg #[.int .i64 (p : Int), .int .i64 12]], ?_, .slice none 0 0, by rw [HG.out], by rw [HG.out]; exact Ops.nil_ _, hB.trans (belowK_b (w := w) (Nat.le_refl _) W D _ _ (by omega) hK rfl rfl)⟩
    simp [results, Tryz.f17, go_sem, g0, g1, g2]
end Go.Proofs.YtolbhjjcabiabaaGreatDoor

/- Texts whose lines are short, read. -/
set_option linter.unusedVariables false
set_option linter.unusedSimpArgs false
namespace Go.Proofs.YtolbhjjcabiabaaGreatDoor
open Go.RowKit

/-- No stretch without an end is longer than that. -/
def ShortS (N : Nat) (s : List UInt8) : Prop := ∀ a b c, s = a ++ b ++ c → (10 : UInt8) ∉ b → b.length ≤ N
theorem short_of_len {N : Nat} {s : List UInt8} (h : s.length ≤ N) : ShortS N s := by
  rintro a b c rfl _
  simp only [List.length_append] at h
  omega
theorem ShortS.take {N : Nat} {s : List UInt8} (h : ShortS N s) (n : Nat) : ShortS N (s.take n) := by
  intro a b c e hn
  refine h a b (c ++ s.drop n) ?_ hn
  conv => lhs; rw [← List.take_append_drop n s, e]
  simp
theorem short_cons {N : Nat} {x r : List UInt8} (hx : (10 : UInt8) ∉ x) (hl : x.length ≤ N) (h : ShortS N r) : ShortS N (x ++ 10 :: r) := by
  intro a b c e hn
  by_cases ha : x.length < a.length
  · refine h (a.drop (x.length + 1)) b c ?_ hn
    have := congrArg (List.drop (x.length + 1)) e
    rw [List.drop_append, List.drop_of_length_le (show x.length ≤ x.length + 1 by omega), show x.length + 1 - x.length = 1 by omega, List.append_assoc, List.drop_append, show x.length + 1 - a.length = 0 by omega] at this
    simpa using this
  · by_cases hb : x.length < a.length + b.length
    · exfalso
      have h1 : (x ++ 10 :: r)[x.length]? = some 10 := by simp
      rw [e, List.append_assoc, List.getElem?_append_right (by omega), List.getElem?_append_left (by omega)] at h1
      exact hn (List.mem_of_getElem? h1)
    · omega
theorem short_nil (N : Nat) : ShortS N [] := short_of_len (Nat.zero_le _)
theorem ShortS.append {N M : Nat} {s m : List UInt8} (h : ShortS N s) (hm : m.length ≤ M) : ShortS (N + M) (s ++ m) := by
  intro a b c e hn
  have hlen := congrArg List.length e
  simp only [List.length_append] at hlen
  by_cases ha : s.length ≤ a.length
  · omega
  · have h1 := h a (b.take (s.length - a.length)) (c.take (s.length - a.length - b.length)) (by
      have := congrArg (List.take s.length) e
      rw [List.take_left, List.append_assoc, List.take_append, List.take_of_length_le (by omega), List.take_append] at this
      rw [List.append_assoc]
      exact this) (fun hm => hn (List.mem_of_mem_take hm))
    rw [List.length_take] at h1
    omega
theorem chunk_short {N : Nat} (f : Nat) : ∀ (r : List UInt8) (p : Nat), ShortS N r → ∀ c ∈ chunksF f r p, c.2.length ≤ N + 1 := by
  induction f with
  | zero => intro r p _ c hc; cases hc
  | succ f ih =>
    intro r p h c hc
    rw [chunksF] at hc
    cases hr : cutO r with
    | none =>
      rw [hr] at hc
      rw [List.mem_singleton.1 hc]
      have := h [] r [] (by simp) (cut_none_no hr)
      dsimp only
      omega
    | some q =>
      obtain ⟨a, b⟩ := q
      rw [hr] at hc
      obtain ⟨e1, hna⟩ := cut_some hr
      rcases List.mem_cons.1 hc with rfl | hc
      · have := h [] a (10 :: b) (by rw [e1]; simp) hna
        dsimp only
        rw [List.length_append, List.length_singleton]
        omega
      · refine ih b _ ?_ c hc
        intro x y z e hn
        exact h (a ++ 10 :: x) y z (by rw [e1, e]; simp) hn
theorem Get20_short {N : Nat} (s : List UInt8) (w : World) (hL : Laid20 w) (hs : s.length ≤ 4000000) (hN : N ≤ 80000) (h : ShortS N s) :
    Calls Tryz.prog 17 #[.string ⟨s.toArray⟩] w fun e w' => ∃ vo, e = .returned (.tuple #[vo, .agg #[.int .i64 (getO s).2.1, .int .i64 (getO s).2.2]]) ∧ Ops w' vo (getO s).1 ∧ Below w.heap.size w w' :=
  Get20_any s w hL hs (fun c hc => by have := chunk_short _ s 0 h c hc; omega)
theorem short_lines {l : List OpV} (h : ∀ o ∈ l, mayO o = true ∧ (lineO o).length ≤ 30000) : ShortS 30000 (linesO l) := by
  induction l with
  | nil => exact short_nil _
  | cons o t ih =>
    have e := lines_cons o t []
    rw [List.append_nil, List.append_nil] at e
    rw [e]
    exact short_cons (line_no10 (h o (by simp)).1) (h o (by simp)).2 (ih fun x hx => h x (List.mem_cons_of_mem _ hx))
/-- A plan's text has short lines. -/
theorem short_text {l : List OpV} (h1 : l.length ≤ 100) (h2 : ∀ o ∈ l, shortO o) (h3 : ∀ o ∈ l, mayO o = true) : ShortS 30000 (textO l) := by
  unfold textO
  refine short_cons (head_no10 _) ?_ (short_lines fun o ho => ⟨h3 o ho, line_size (h2 o ho) (by have := may_slot20 (h3 o ho); omega)⟩)
  have h5 : (decB l.length).length ≤ 13 := decF_len 13 20 _ (by omega) (by decide)
  unfold headO
  rw [List.length_append, show planW.length = 5 from rfl]
  omega
end Go.Proofs.YtolbhjjcabiabaaGreatDoor

/- Walks: awake, the answers that the document fixes for layer 20. -/
set_option linter.unusedVariables false
set_option linter.unusedSimpArgs false
namespace Go.Proofs.YtolbhjjcabiabaaGreatDoor
open Go.RowKit

theorem ops_at20 (w : World) (t : TypeId) (C : Array Value) (l : List OpV) (B n : Nat) (hB : B = w.heap.size) (hC : C = (opsV l).toArray) (hn : n = l.length) (hm : l.length ≤ maxLen) (hs : ∀ c ∈ l, c.a.length ≤ maxLen ∧ c.b.length ≤ maxLen ∧ c.data.length ≤ maxLen) : Ops (w.alloc (.cells C t)) (.slice (some ⟨B, 0, none⟩) n n) l := by
  subst hB hC hn
  have bN := Blk.new w t (opsV l).toArray
  refine ⟨_, _, rfl, Nat.le_refl _, hm, hs, (fun h => by cases h), fun _ => ⟨_, 0, rfl, bN.lt, fun i hi => ?_⟩⟩
  have hc : ∀ j, j < 5 → (w.alloc (.cells (opsV l).toArray t)).cell? ⟨w.heap.size, 0 + i * 5 + j, none⟩ = (opC l[i]).toList[j]? := fun j hj => by
    rw [bN.cell, Nat.zero_add, List.getElem?_toArray, opsV_at l i hi j hj]
  exact ⟨hc 0 (by omega), hc 1 (by omega), hc 2 (by omega), hc 3 (by omega), hc 4 (by omega)⟩
theorem aw_put20 (l : List OpV) (x : List UInt8) (z : Int) (h : putO l = (x, z)) (v : Value) (w : World) (hL : Laid20 w) (hv : Ops w v l) (hl : l.length ≤ 1000) (hsh : ∀ o ∈ l, o.a.length ≤ 10000 ∧ o.b.length ≤ 10000 ∧ o.data.length ≤ 10000) :
    Calls Tryz.prog 15 #[v] w fun e w' => e = .returned (.tuple #[.string ⟨x.toArray⟩, .int .i64 z]) ∧ Below w.heap.size w w' := by
  have := Put20_any l v w hL hv hl hsh
  rw [h] at this; exact this
theorem aw_get20 (s : List UInt8) (l : List OpV) (p z : Int) (h : getO s = (l, p, z)) (w : World) (hL : Laid20 w) (hs : s.length ≤ 5000) :
    Calls Tryz.prog 17 #[.string ⟨s.toArray⟩] w fun e w' => ∃ a c, e = .returned (.tuple #[.slice a l.length c, .agg #[.int .i64 p, .int .i64 z]]) ∧ Ops w' (.slice a l.length c) l ∧ Below w.heap.size w w' := by
  refine (Get20_short (N := 5000) s w hL (by omega) (by decide) (short_of_len hs)).mono ?_
  rintro e w' ⟨vo, rfl, ho, hb⟩
  rw [h] at ho ⊢
  obtain ⟨a, c, rfl⟩ := ops_slice ho
  exact ⟨a, c, rfl, ho, hb⟩
theorem aw_read20 (s : List UInt8) (o : OpV) (r : Bool) (h : (readO s).getD zeroO = o) (h2 : (readO s).isSome = r) (w : World) (hL : Laid20 w) (hs : s.length ≤ 5000) : Calls Tryz.prog 10 #[.string ⟨s.toArray⟩] w fun e w' => e = .returned (.tuple #[.agg (opC o), .bool r]) ∧ Below w.heap.size w w' := by
  have := Read20_any s w hL (by omega)
  rw [h, h2] at this; exact this
theorem aw_line20 (o : OpV) (x : List UInt8) (h : lineO o = x) (w : World) (hL : Laid20 w) (hm : mayO o = true) (ho : shortO o) : Calls Tryz.prog 13 #[.agg (opC o)] w fun e w' => e = .returned (.string ⟨x.toArray⟩) ∧ Below w.heap.size w w' := by
  have := Line20_any o w hL hm ho
  rw [h] at this; exact this
def oA20 : OpV := ⟨1, 0, [47, 97], [], []⟩
def oB20 : OpV := ⟨7, 3, [47, 97, 32, 98], [], []⟩
def tA20 : List UInt8 := [112, 108, 97, 110, 32, 49, 10, 109, 107, 100, 105, 114, 32, 34, 47, 97, 34, 10]

set_option maxHeartbeats 8000000 in
set_option maxRecDepth 100000 in
theorem awake20 (w : World) (hL : Laid20 w) : Calls Tryz.prog 8 #[] w fun e w' => e = .returned (.bool true) ∧ Below w.heap.size w w' := by
  have HL := Lib.hid hL
  clear hL
  have n1 := ops_at20 w 23 (opC oA20) [oA20] w.heap.size 1 rfl rfl rfl (by decide) (by decide)
  have hB : Below w.heap.size w (w.alloc (.cells (opC oA20) 23)) := (Below.refl _ w).alloc (Nat.le_refl _) _
  go_enter Tryz.func8, Tryz.ntmps8
  go_upto_region 2 with fail
  rw [show (#[.int .i64 1, .int .i64 0, .string ⟨#[47, 97]⟩, .string ⟨#[]⟩, .string ⟨#[]⟩] : Array Value) = opC oA20 from rfl]
  generalize hy0 : w.alloc (.cells (opC oA20) 23) = y0 at *
  go_wp2_with fail
  refine (aw_put20 [oA20] tA20 0 (by decide +kernel) _ _ (HL.out.next hB) n1 (by decide) (by decide)).mono ?_
  rintro e x1 ⟨rfl, g1⟩
  replace n1 := n1.below g1
  replace hB := hB.trans (g1.mono hB.size)
  clear g1 hy0
  unfold tA20
  go_wp2_with fail
  refine (aw_get20 tA20 [oA20] 0 0 (by decide +kernel) _ (HL.out.next hB) (by decide)).mono ?_
  rintro e x2 ⟨a2, c2, rfl, m2, g2⟩
  replace n1 := n1.below g2
  replace hB := hB.trans (g2.mono hB.size)
  clear g2
  have B2 := Blk.new x2 38 #[.int .i64 0, .int .i64 0]
  have g2 := (Below.refl x2.heap.size x2).alloc (Nat.le_refl _) (.cells #[.int .i64 0, .int .i64 0] 38)
  replace n1 := n1.below g2
  replace m2 := m2.below g2
  replace hB := hB.trans (g2.mono hB.size)
  clear g2
  go_upto_region 4 with fail
  generalize hy2 : x2.alloc (.cells #[.int .i64 0, .int .i64 0] 38) = y2 at *
  go_wp2_with fail
  refine (aw_get20 [112, 108, 97, 110, 32, 48, 10] [] 0 0 (by decide +kernel) _ (HL.out.next hB) (by decide)).mono ?_
  rintro e x3 ⟨a3, c3, rfl, _, g3⟩
  clear hy2
  have B3 := Blk.new x3 38 #[.int .i64 0, .int .i64 0]
  replace g3 := g3.trans (((Below.refl x3.heap.size x3).alloc (Nat.le_refl _) (.cells #[.int .i64 0, .int .i64 0] 38)).mono g3.size)
  replace n1 := n1.below g3
  replace m2 := m2.below g3
  replace B2 := B2.next g3
  replace hB := hB.trans (g3.mono hB.size)
  clear g3
  go_upto_region 5 with fail
  generalize hy3 : x3.alloc (.cells #[.int .i64 0, .int .i64 0] 38) = y3 at *
  go_wp2_with fail
  refine (aw_get20 [112, 108, 97, 110, 32, 49, 10] [] 7 12 (by decide +kernel) _ (HL.out.next hB) (by decide)).mono ?_
  rintro e x4 ⟨a4, c4, rfl, _, g4⟩
  clear hy3
  have B4 := Blk.new x4 38 #[.int .i64 7, .int .i64 12]
  replace g4 := g4.trans (((Below.refl x4.heap.size x4).alloc (Nat.le_refl _) (.cells #[.int .i64 7, .int .i64 12] 38)).mono g4.size)
  replace n1 := n1.below g4
  replace m2 := m2.below g4
  replace B2 := B2.next g4
  replace B3 := B3.next g4
  replace hB := hB.trans (g4.mono hB.size)
  clear g4
  go_upto_region 6 with fail
  generalize hy4 : x4.alloc (.cells #[.int .i64 7, .int .i64 12] 38) = y4 at *
  have n5 := ops_at20 y4 23 (opC zeroO) [zeroO] y4.heap.size 1 rfl rfl rfl (by decide) (by decide)
  have g5 := (Below.refl y4.heap.size y4).alloc (Nat.le_refl _) (.cells (opC zeroO) 23)
  replace n1 := n1.below g5
  replace m2 := m2.below g5
  replace B2 := B2.next g5
  replace B3 := B3.next g5
  replace B4 := B4.next g5
  replace hB := hB.trans (g5.mono hB.size)
  clear g5 hy4
  go_wp2_with fail
  refine (aw_put20 [zeroO] [] 12 (by decide +kernel) _ _ (HL.out.next hB) n5 (by decide) (by decide)).mono ?_
  rintro e x5 ⟨rfl, g5⟩
  replace n1 := n1.below g5
  replace m2 := m2.below g5
  replace B2 := B2.next g5
  replace B3 := B3.next g5
  replace B4 := B4.next g5
  replace hB := hB.trans (g5.mono hB.size)
  clear g5 n5
  go_wp2_with fail
  refine (aw_read20 [115, 116, 97, 115, 104, 32, 51, 32, 34, 47, 97, 32, 98, 34] oB20 true (by decide +kernel) (by decide +kernel) _ (HL.out.next hB) (by decide)).mono ?_
  rintro e x6 ⟨rfl, g6⟩
  have B6 := Blk.new x6 23 (opC oB20)
  replace g6 := g6.trans (((Below.refl x6.heap.size x6).alloc (Nat.le_refl _) (.cells (opC oB20) 23)).mono g6.size)
  replace n1 := n1.below g6
  replace m2 := m2.below g6
  replace B2 := B2.next g6
  replace B3 := B3.next g6
  replace B4 := B4.next g6
  replace hB := hB.trans (g6.mono hB.size)
  clear g6
  unfold oB20
  go_upto_region 8 with fail
  rw [show (#[.int .i64 7, .int .i64 3, .string ⟨#[47, 97, 32, 98]⟩, .string ⟨#[]⟩, .string ⟨#[]⟩] : Array Value) = opC oB20 from rfl]
  generalize hy6 : x6.alloc (.cells (opC oB20) 23) = y6 at *
  go_wp2_with fail
  refine (aw_read20 [115, 116, 97, 115, 104, 32, 48, 51, 32, 34, 47, 97, 34] zeroO false (by decide +kernel) (by decide +kernel) _ (HL.out.next hB) (by decide)).mono ?_
  rintro e x7 ⟨rfl, g7⟩
  clear hy6
  replace g7 := g7.trans (((Below.refl x7.heap.size x7).alloc (Nat.le_refl _) (.cells (opC zeroO) 23)).mono g7.size)
  replace n1 := n1.below g7
  replace m2 := m2.below g7
  replace B2 := B2.next g7
  replace B3 := B3.next g7
  replace B4 := B4.next g7
  replace B6 := B6.next g7
  replace hB := hB.trans (g7.mono hB.size)
  clear g7
  unfold zeroO
  go_upto_region 9 with fail
  rw [show (#[.int .i64 0, .int .i64 0, .string ⟨#[]⟩, .string ⟨#[]⟩, .string ⟨#[]⟩] : Array Value) = opC zeroO from rfl]
  generalize hy7 : x7.alloc (.cells (opC zeroO) 23) = y7 at *
  go_wp2_with fail
  refine (refSameO_any [oA20] [oA20] _ _ _ n1 m2).mono ?_
  rintro e x8 ⟨rfl, g8⟩
  rw [show sameO [oA20] [oA20] = true from decide_eq_true rfl]
  replace B2 := B2.next g8
  replace B3 := B3.next g8
  replace B4 := B4.next g8
  replace B6 := B6.next g8
  replace hB := hB.trans (g8.mono hB.size)
  clear g8 hy7
  obtain ⟨p0, p1⟩ := B2.pair
  obtain ⟨q0, q1⟩ := B3.pair
  obtain ⟨r0, r1⟩ := B4.pair
  obtain ⟨s0, s1, s2, s3, s4⟩ := B6.five
  dsimp only [oB20] at s0 s1 s2 s3 s4
  go_wp2_with fail
  refine (aw_line20 oB20 [115, 116, 97, 115, 104, 32, 51, 32, 34, 47, 97, 32, 98, 34] (by decide +kernel) _ (HL.out.next hB) (by decide +kernel) ⟨by decide, by decide, by decide⟩).mono ?_
  rintro e x9 ⟨rfl, g9⟩
  go_wp2
  go_ret
  exact ⟨rfl, hB.trans (g9.mono hB.size)⟩
end Go.Proofs.YtolbhjjcabiabaaGreatDoor

/- What stage 20's laws share. -/
set_option linter.unusedVariables false
set_option linter.unusedSimpArgs false
namespace Go.Proofs.YtolbhjjcabiabaaGreatDoor
open Go.ChangeShapes Go.WideShapes Go.ChangeAt Go.RowKit

theorem laidOut : laidOutB Tryz.prog = true := by kernel_rfl
theorem of_laid {W : World} (h : laidMetH Tryz.prog [("math/bits.deBruijn32tab", Rows.laid_math_bits_deBruijn32tab), ("math/bits.deBruijn64tab", Rows.laid_math_bits_deBruijn64tab), ("internal/strconv.uint64pow10", Rows.laid_internal_strconv_uint64pow10), ("strconv.ErrRange", Rows.laid_strconv_ErrRange), ("strconv.ErrSyntax", Rows.laid_strconv_ErrSyntax), ("drayman/op.kinds", Rows.laid_drayman_op_kinds), ("drayman/lang.patterns", Rows.laid_drayman_lang_patterns)] W) : Laid20 W := by
  rw [MakeChecks.laidMetH_plain _ _ _ (by kernel_rfl)] at h
  obtain ⟨ps, hv, _⟩ := h
  obtain ⟨_, hv⟩ := laid_rest20 hv
  obtain ⟨_, hv⟩ := laid_rest20 hv
  have hp := pow_of20 hv
  obtain ⟨_, hv⟩ := laid_rest20 hv
  have hr := err_of20 (g := 5) (by kernel_rfl) (by kernel_rfl) hv
  obtain ⟨_, hv⟩ := laid_rest20 hv
  have hs := err_of20 (g := 4) (by kernel_rfl) (by kernel_rfl) hv
  obtain ⟨_, hv⟩ := laid_rest20 hv
  obtain ⟨hk, _, hv⟩ := laid19_of hv
  exact ⟨hk, patterns_of20 hv, ⟨hp, hs, hr⟩⟩
theorem few_puts {l : List OpV} (h : fewOw l = true) : l.length ≤ 100 ∧ (∀ o ∈ l, shortO o) ∧ l.length ≤ 1000 ∧ ∀ o ∈ l, o.a.length ≤ 10000 ∧ o.b.length ≤ 10000 ∧ o.data.length ≤ 10000 := by
  obtain ⟨h1, h2⟩ := fewOw_small h
  exact ⟨h1, fun o ho => h2 o ho, by omega, fun o ho => by have := h2 o ho; omega⟩
theorem text_len {l : List OpV} (h1 : l.length ≤ 100) (h2 : ∀ o ∈ l, shortO o) (h3 : ∀ o ∈ l, mayO o = true) : (textO l).length ≤ 3001000 := by
  have h4 := lines_small (l := l) (fun o ho => line_size (h2 o ho) (by have := may_slot20 (h3 o ho); omega))
  have h5 : (decB l.length).length ≤ 13 := decF_len 13 20 _ (by omega) (by decide)
  have h6 : l.length * 30001 ≤ 100 * 30001 := Nat.mul_le_mul_right _ h1
  unfold textO headO
  rw [List.length_append, List.length_append, List.length_cons, show planW.length = 5 from rfl]
  omega
end Go.Proofs.YtolbhjjcabiabaaGreatDoor
