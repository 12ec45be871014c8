/- Texts put together: WalkN20, Rd20. -/
import Derived.Test.YtolbhjjcabiabaaGreatDoorQMTab20
import Derived.Test.YtolbhjjcabiabaaGreatDoorQMWalkB20
import Derived.Test.YtolbhjjcabiabaaGreatDoorQMOpIn19
import Derived.Test.YtolbhjjcabiabaaGreatDoorQWalkF20
import Derived.Sort.Grow
import Derived.Test.YtolbhjjcabiabaaGreatDoorQMWalkU20
import Derived.Test.YtolbhjjcabiabaaGreatDoorQMWalkB03
import Derived.Lib.SliceRun
set_option linter.unusedVariables false
set_option linter.unusedSimpArgs false
/- Walks: the program's number, count, textOf, wordOf. -/
set_option linter.unusedVariables false
set_option linter.unusedSimpArgs false
namespace Go.Proofs.YtolbhjjcabiabaaGreatDoor
open Go.RowKit

theorem below_growN (w : World) (k : Nat) (os : Array Obj) : Below w.heap.size w (Sort.grow (w.drewN k) os) := by
  refine ⟨rfl, rfl, rfl, ?_, fun j hj => ?_⟩
  · show w.heap.size ≤ (w.heap ++ os).size
    rw [Array.size_append]; omega
  · show (w.heap ++ os)[j]? = _
    rw [Array.getElem?_append_left hj]
theorem Itoa20_any (n : Nat) (w : World) (hL : LaidZ20 w) (hn : n < 9223372036854775808) :
    Calls Tryz.prog 39 #[.int .i64 n] w fun e w' => e = .returned (.string ⟨(decB n).toArray⟩) ∧ Below w.heap.size w w' := by
  refine (Tryz.strconv_Itoa n (by omega) (by omega) w hL.pow).mono ?_
  rintro e w' ⟨rfl, k, os, rfl⟩
  exact ⟨by rw [itoa_dec hn], below_growN w k os⟩
set_option maxRecDepth 100000 in
theorem number_any (x : List UInt8) (w : World) (hL : LaidZ20 w) (hx : x.length ≤ 1000000) :
    Calls Tryz.prog 73 #[.string ⟨x.toArray⟩] w fun e w' => e = .returned (.tuple #[.int .i64 ((numP x).getD 0 : Nat), .bool (numP x).isSome]) ∧ Below w.heap.size w w' := by
  cases ha : Lib.atoiAll x with
  | ok v =>
    have hA := Tryz.strconv_Atoi_ok ⟨x.toArray⟩ (by simp [ByteArray.size]; omega) v ha w
    obtain ⟨v0, v1⟩ := Lib.atoiAll_bounds ha
    by_cases hv : v < 0
    · have HN : Hid (numP x = none) := Lib.hid (by unfold numP; rw [ha]; dsimp only; rw [if_neg (fun c => by omega)])
      clear ha
      go_enter Tryz.func73, Tryz.ntmps73
      go_wp2_with fail
      refine hA.mono ?_
      rintro e w1 ⟨rfl, hw1⟩
      have b1 : Below w.heap.size w w1 := by
        rcases hw1 with rfl | ⟨t, rfl⟩
        · exact Below.refl _ _
        · exact Joins.below_bytesWorld _ _ _ _ (Nat.le_refl _)
      clear hw1 hA
      go_wp2
      go_ret2
      exact ⟨by rw [HN.out]; rfl, b1⟩
    · obtain ⟨n, rfl⟩ : ∃ n : Nat, v = n := ⟨v.toNat, by omega⟩
      have hn : n < 9223372036854775808 := by omega
      cases hd : (decB n != x)
      · have HN : Hid (numP x = some n) := Lib.hid ((numP_iff x n).2 ⟨hn, by simpa using hd⟩)
        have hd2 : (decB n == x) = true := by simpa using hd
        obtain rfl : decB n = x := by simpa using hd
        clear ha
        go_enter Tryz.func73, Tryz.ntmps73
        go_wp2_with fail
        refine hA.mono ?_
        rintro e w1 ⟨rfl, hw1⟩
        have b1 : Below w.heap.size w w1 := by
          rcases hw1 with rfl | ⟨t, rfl⟩
          · exact Below.refl _ _
          · exact Joins.below_bytesWorld _ _ _ _ (Nat.le_refl _)
        clear hw1 hA
        go_wp2_with fail
        refine (Itoa20_any n _ (hL.next b1) hn).mono ?_
        rintro e w2 ⟨rfl, b2⟩
        go_wp2
        go_ret2
        exact ⟨by rw [HN.out]; rfl, b1.trans (b2.mono b1.size)⟩
      · have HN : Hid (numP x = none) := Lib.hid (by unfold numP; rw [ha]; dsimp only; rw [if_neg (fun c => by rw [Int.toNat_natCast] at c; rw [c.2] at hd; simp at hd)])
        have hd2 : (decB n == x) = false := by simpa using hd
        clear ha
        go_enter Tryz.func73, Tryz.ntmps73
        go_wp2_with fail
        refine hA.mono ?_
        rintro e w1 ⟨rfl, hw1⟩
        have b1 : Below w.heap.size w w1 := by
          rcases hw1 with rfl | ⟨t, rfl⟩
          · exact Below.refl _ _
          · exact Joins.below_bytesWorld _ _ _ _ (Nat.le_refl _)
        clear hw1 hA
        go_wp2_with fail
        refine (Itoa20_any n _ (hL.next b1) hn).mono ?_
        rintro e w2 ⟨rfl, b2⟩
        go_wp2
        go_ret2
        exact ⟨by rw [HN.out]; rfl, b1.trans (b2.mono b1.size)⟩
  | «syntax» =>
    have HN : Hid (numP x = none) := Lib.hid (by unfold numP; rw [ha])
    obtain ⟨tp, p, hc⟩ := hL.stx
    have hA := Tryz.strconv_Atoi_syntax ⟨x.toArray⟩ (by simp [ByteArray.size]; omega) ha _ w hc (.inr ⟨tp, p, rfl⟩)
    clear ha
    go_enter Tryz.func73, Tryz.ntmps73
    go_wp2_with fail
    refine hA.mono ?_
    rintro e w1 ⟨M, rfl, hM, hh, b1⟩
    clear hA hh
    go_wp2
    go_ret2
    exact ⟨by rw [HN.out]; rfl, b1⟩
  | range =>
    have HN : Hid (numP x = none) := Lib.hid (by unfold numP; rw [ha])
    obtain ⟨tp, p, hc⟩ := hL.rng
    have hA := Tryz.strconv_Atoi_range ⟨x.toArray⟩ (by simp [ByteArray.size]; omega) ha _ w hc (.inr ⟨tp, p, rfl⟩)
    clear ha
    go_enter Tryz.func73, Tryz.ntmps73
    go_wp2_with fail
    refine hA.mono ?_
    rintro e w1 ⟨M, rfl, hM, hh, b1⟩
    clear hA hh
    go_wp2
    go_ret2
    exact ⟨by rw [HN.out]; rfl, b1⟩

theorem own_slice20 {w : World} {base : Nat} {e : TypeId} {size : Nat} {v : Value} {n : Nat} {xs : List Value} (h : w.ownsRow base e size v n xs) : ∃ a c, v = .slice a n c := by
  rcases h.2 with ⟨rfl, rfl⟩ | ⟨g, cap, cur, rfl, _⟩
  · exact ⟨_, _, rfl⟩
  · exact ⟨_, _, rfl⟩
theorem split_none20 {s : List UInt8} {w : World} (hs : s.length ≤ 1000000) (h : splitB s = none) :
    Calls Tryz.prog 43 #[.string ⟨s.toArray⟩] w fun e w' => ∃ a c, e = .returned (.tuple #[.slice a (([] : List (List UInt8)).length) c, .bool false]) ∧ Below w.heap.size w w' := by
  have hSp := Split_any s w hs
  rw [h] at hSp
  refine hSp.mono ?_
  rintro e w1 ⟨v, rfl, hown, b1⟩
  obtain ⟨a, c, rfl⟩ := own_slice20 hown
  exact ⟨a, c, rfl, b1⟩
theorem split_some20 {s : List UInt8} {ws : List (List UInt8)} {w : World} (hs : s.length ≤ 1000000) (h : splitB s = some ws) :
    Calls Tryz.prog 43 #[.string ⟨s.toArray⟩] w fun e w' => ∃ a c, e = .returned (.tuple #[.slice a ws.length c, .bool true]) ∧ w'.ownsRow w.heap.size 9 1 (.slice a ws.length c) ws.length (strsV ws) ∧ Below w.heap.size w w' := by
  have hSp := Split_any s w hs
  rw [h] at hSp
  refine hSp.mono ?_
  rintro e w1 ⟨v, rfl, hown, b1⟩
  obtain ⟨a, c, rfl⟩ := own_slice20 hown
  exact ⟨a, c, rfl, hown, b1⟩
theorem split_size {s : List UInt8} {ws : List (List UInt8)} (h : splitB s = some ws) : (∀ x ∈ ws, x.length ≤ s.length) ∧ ws.length ≤ s.length + 1 := by
  refine ⟨fun x hx => ?_, join_count h⟩
  rw [← join_split h]
  exact mem_join_len hx
set_option maxRecDepth 100000 in
theorem count_any (s : List UInt8) (w : World) (hL : LaidZ20 w) (hs : s.length ≤ 1000000) :
    Calls Tryz.prog 69 #[.string ⟨s.toArray⟩] w fun e w' => e = .returned (.tuple #[.int .i64 ((countP s).getD 0 : Nat), .bool (countP s).isSome]) ∧ Below w.heap.size w w' := by
  cases hw : splitB s with
  | none =>
    have HN : Hid (countP s = none) := Lib.hid (by unfold countP; rw [hw])
    have hSp := split_none20 (w := w) hs hw
    clear hw
    go_enter Tryz.func69, Tryz.ntmps69
    go_wp2_with fail
    refine hSp.mono ?_
    rintro e w1 ⟨a, c, rfl, b1⟩
    clear hSp
    go_wp2
    go_ret2
    exact ⟨by rw [HN.out]; rfl, b1⟩
  | some ws =>
    have hSp := split_some20 (w := w) hs hw
    by_cases h2 : ws.length = 2
    · obtain ⟨x, y, rfl⟩ : ∃ x y, ws = [x, y] := by
        match ws, h2 with
        | [x, y], _ => exact ⟨x, y, rfl⟩
      obtain ⟨hz, _⟩ := split_size hw
      have hxl := hz x (by simp)
      have hyl := hz y (by simp)
      clear hz
      cases hx : (x == [112, 108, 97, 110])
      · have HN : Hid (countP s = none) := Lib.hid (by unfold countP; rw [hw]; dsimp only; rw [if_neg (by simpa using hx)])
        go_enter Tryz.func69, Tryz.ntmps69
        go_wp2_with fail
        refine hSp.mono ?_
        rintro e w1 ⟨a, c, rfl, hown, b1⟩
        obtain ⟨g, c2, hgc⟩ := ownsRow_succ (k := 1) hown
        cases hgc
        have c0 : w1.cell? ⟨g, 0, none⟩ = some (.string ⟨x.toArray⟩) := hown.cellAt 0 (by simp)
        have c1 : w1.cell? ⟨g, 1, none⟩ = some (.string ⟨y.toArray⟩) := hown.cellAt 1 (by simp)
        clear hSp hown
        go_wp2
        go_ret2
        exact ⟨by rw [HN.out]; rfl, b1⟩
      · obtain rfl : x = [112, 108, 97, 110] := by simpa using hx
        have HC : Hid (countP s = (numP y).bind (fun n => if n ≤ 1073741824 then some n else none)) := Lib.hid (by unfold countP; rw [hw]; dsimp only; rw [if_pos rfl])
        have hnum := fun W hW => number_any y W hW (by omega)
        go_enter Tryz.func69, Tryz.ntmps69
        go_wp2_with fail
        refine hSp.mono ?_
        rintro e w1 ⟨a, c, rfl, hown, b1⟩
        obtain ⟨g, c2, hgc⟩ := ownsRow_succ (k := 1) hown
        cases hgc
        have c0 : w1.cell? ⟨g, 0, none⟩ = some (.string ⟨#[112, 108, 97, 110]⟩) := hown.cellAt 0 (by simp)
        have c1 : w1.cell? ⟨g, 1, none⟩ = some (.string ⟨y.toArray⟩) := hown.cellAt 1 (by simp)
        clear hSp hown hx
        go_wp2_with fail
        refine (hnum _ (hL.next b1)).mono ?_
        rintro e w2 ⟨rfl, b2⟩
        have hB := b1.trans (b2.mono b1.size)
        clear hnum c0 c1
        cases hn : numP y with
        | none =>
          have HN : Hid (countP s = none) := Lib.hid (by rw [HC.out, hn]; rfl)
          simp only [Option.getD_none, Option.isSome_none]
          go_wp2
          go_ret2
          exact ⟨by rw [HN.out]; rfl, hB⟩
        | some n =>
          simp only [Option.getD_some, Option.isSome_some]
          by_cases hle : n ≤ 1073741824
          · have HN : Hid (countP s = some n) := Lib.hid (by rw [HC.out, hn]; exact if_pos hle)
            go_wp2
            go_ret2
            exact ⟨by rw [HN.out]; rfl, hB⟩
          · have HN : Hid (countP s = none) := Lib.hid (by rw [HC.out, hn]; exact if_neg hle)
            go_wp2
            go_ret2
            exact ⟨by rw [HN.out]; rfl, hB⟩
    · have HN : Hid (countP s = none) := Lib.hid (by
        unfold countP
        rw [hw]
        match ws, h2 with
        | [], _ => rfl
        | [_], _ => rfl
        | _ :: _ :: _ :: _, _ => rfl
        | [_, _], h2 => exact absurd rfl h2)
      have h2' : ((ws.length : Int) != 2) = true := by rw [bne_iff_ne]; omega
      go_enter Tryz.func69, Tryz.ntmps69
      go_wp2_with fail
      refine hSp.mono ?_
      rintro e w1 ⟨a, c, rfl, hown, b1⟩
      clear hSp hown
      go_wp2
      go_ret2
      exact ⟨by rw [HN.out]; rfl, b1⟩

/-- Where the field lies that letter c tells. -/
def fieldC (c : UInt8) : Nat := if c = 68 then 4 else if c = 65 then 2 else 3
theorem textOf_any (c : UInt8) (B : Nat) (w : World) (hB : ∃ cs, Blk w B 23 cs) :
    Calls Tryz.prog 75 #[.pointer (some ⟨B, 0, none⟩), .int .u8 c.toNat] w fun e w' => e = .returned (.pointer (some ⟨B, fieldC c, none⟩)) ∧ w' = w := by
  by_cases h1 : c = 68
  · subst h1
    go_enter Tryz.func75, Tryz.ntmps75
    go_wp2
    go_ret
    exact ⟨rfl, rfl⟩
  · have n1 : ((c.toNat : Int) == 68) = false := by rw [beq_eq_false_iff_ne]; intro e; exact h1 (UInt8.toNat_inj.1 (by simp; omega))
    by_cases h2 : c = 65
    · subst h2
      go_enter Tryz.func75, Tryz.ntmps75
      go_wp2
      go_ret
      exact ⟨rfl, rfl⟩
    · have n2 : ((c.toNat : Int) == 65) = false := by rw [beq_eq_false_iff_ne]; intro e; exact h2 (UInt8.toNat_inj.1 (by simp; omega))
      have HN : Hid (fieldC c = 3) := Lib.hid (by unfold fieldC; rw [if_neg h1, if_neg h2])
      clear h1 h2
      go_enter Tryz.func75, Tryz.ntmps75
      go_wp2
      go_ret
      exact ⟨by rw [HN.out]; rfl, rfl⟩
end Go.Proofs.YtolbhjjcabiabaaGreatDoor

/- The reader of a text's lines, as it lies in memory; what a step of it turns; slices.Clone of operations. -/
set_option linter.unusedVariables false
set_option linter.unusedSimpArgs false
namespace Go.Proofs.YtolbhjjcabiabaaGreatDoor
open Go.RowKit

/-- What a step of the reader turns: its own block, and what lies from n1 on; nothing that is no cells. -/
structure Turn20 (Br n1 : Nat) (A B : World) : Prop where
  os : B.os = A.os
  tape : B.tape = A.tape
  output : B.output = A.output
  size : A.heap.size ≤ B.heap.size
  block : ∀ k, k < n1 → k ≠ Br → B.heap[k]? = A.heap[k]?
  others : KeepsOthers A B
theorem Turn20.refl (Br n1 : Nat) (A : World) : Turn20 Br n1 A A := ⟨rfl, rfl, rfl, Nat.le_refl _, fun _ _ _ => rfl, KeepsOthers.refl _⟩
theorem Turn20.trans {Br n1 : Nat} {A B C : World} (h : Turn20 Br n1 A B) (k : Turn20 Br n1 B C) : Turn20 Br n1 A C :=
  ⟨k.os.trans h.os, k.tape.trans h.tape, k.output.trans h.output, Nat.le_trans h.size k.size, fun i hi hn => (k.block i hi hn).trans (h.block i hi hn), h.others.trans k.others⟩
theorem Turn20.of_below {Br n1 : Nat} {A B : World} (h : Below A.heap.size A B) (hn : n1 ≤ A.heap.size) : Turn20 Br n1 A B :=
  ⟨h.os, h.tape, h.output, h.size, fun k hk _ => h.block k (by omega), ⟨h.size, fun k o hk _ => (h.block k (Array.getElem?_eq_some_iff.1 hk).1).trans hk⟩⟩
theorem Turn20.of_grown {Br n1 : Nat} {A B : World} {row : Option Nat} (h : A.grownBy B row) (hn : n1 ≤ A.heap.size) (hr : ∀ k, row = some k → k = Br ∨ n1 ≤ k) (hc : ∀ (k : Nat) (o : Obj), row = some k → A.heap[k]? = some o → o.isCells = true) : Turn20 Br n1 A B :=
  ⟨h.os, h.tape, h.output, h.size, fun k hk hb => h.block k (by omega) (fun e => by rcases hr k e.symm with h | h <;> omega), KeepsOthers.of_grownBy h hc⟩
theorem Turn20.below {Br n1 n : Nat} {A B : World} (h : Turn20 Br n1 A B) (hn : n ≤ n1) (hB : n ≤ Br) : Below n A B := ⟨h.os, h.tape, h.output, h.size, fun k hk => h.block k (by omega) (by omega)⟩
theorem Turn20.set {Br n1 : Nat} {A : World} (i : Nat) (v : Value) {t : TypeId} {cs : Array Value} (hb : Blk A Br t cs) (hn : n1 ≤ A.heap.size) : Turn20 Br n1 A (A.setCell ⟨Br, i, none⟩ v) :=
  Turn20.of_grown (grownBy_set A Br i v) hn (fun k e => .inl (by cases e; rfl)) (fun k o e ho => by
    cases e
    have := (show A.heap[Br]? = _ from hb).symm.trans ho
    cases this; rfl)
theorem own_cells20 {W : World} {base : Nat} {e : TypeId} {size n : Nat} {v : Value} {xs : List Value} (h : W.ownsRow base e size v n xs) (k : Nat) (o : Obj) (hk : v.ownBlock = some k) (ho : W.heap[k]? = some o) : o.isCells = true := by
  rcases h.2 with ⟨rfl, _⟩ | ⟨g, cap, cur, rfl, _, hg, _⟩
  · cases hk
  · obtain rfl : g = k := by simpa [Value.ownBlock] using hk
    rw [hg] at ho; cases ho; rfl
abbrev rdC (bm : Nat) (st : RdS) (vo vl : Value) : Array Value := #[.map (some bm), .bool st.begun, .int .i64 st.many, vo, vl, .bool st.plan, .bool st.undo]
/-- The reader in block Br holds this. -/
structure RdAt (w0 : World) (Br Bm n1 : Nat) (st : RdS) (vo vl : Value) (W : World) : Prop where
  blk : Blk W Br 70 (rdC Bm st vo vl)
  ops : W.ownsRow n1 23 5 vo st.ops.length (opsV st.ops)
  last : W.ownsRow n1 23 5 vl st.last.length (opsV st.last)
  far : ∀ g, vo.ownBlock = some g → vl.ownBlock ≠ some g
  kinds : KindsM W Bm 10
  base : Below w0.heap.size w0 W
  lo : n1 ≤ W.heap.size
/-- The texts of what was read are no longer than that. -/
def SmallR (st : RdS) : Prop := (∀ o ∈ st.ops, o.a.length ≤ 100000 ∧ o.b.length ≤ 100000 ∧ o.data.length ≤ 100000) ∧ (∀ o ∈ st.last, o.a.length ≤ 100000 ∧ o.b.length ≤ 100000 ∧ o.data.length ≤ 100000) ∧ st.last.length ≤ 1
theorem RdAt.next {w0 : World} {Br Bm n1 : Nat} {st : RdS} {vo vl : Value} {W W' : World} (h : RdAt w0 Br Bm n1 st vo vl W) (hb : Below W.heap.size W W') : RdAt w0 Br Bm n1 st vo vl W' :=
  ⟨h.blk.next hb, own_keep h.ops hb, own_keep h.last hb, h.far, h.kinds.next hb, h.base.trans (hb.mono h.base.size), Nat.le_trans h.lo hb.size⟩
theorem Blk.putCell {W : World} {B : Nat} {t : TypeId} {cs : Array Value} (h : Blk W B t cs) (i : Nat) (v : Value) : ∃ W', W.setCell ⟨B, i, none⟩ v = W' ∧ Blk W' B t (cs.setIfInBounds i v) ∧ W.grownBy W' (some B) := ⟨_, rfl, h.set i v, grownBy_set W B i v⟩
theorem RdAt.put {w0 : World} {Br Bm n1 : Nat} {st : RdS} {vo vl : Value} {W : World} (h : RdAt w0 Br Bm n1 st vo vl W) (h0 : w0.heap.size ≤ Br) (h1 : Br < n1) (hm : Bm ≠ Br) (i : Nat) (v : Value) (st' : RdS) (hc : (rdC Bm st vo vl).setIfInBounds i v = rdC Bm st' vo vl) (ho : st'.ops = st.ops) (hl : st'.last = st.last) :
    RdAt w0 Br Bm n1 st' vo vl (W.setCell ⟨Br, i, none⟩ v) := by
  have hg := grownBy_set W Br i v
  refine ⟨hc ▸ h.blk.set i v, ?_, ?_, h.far, h.kinds.kept hg (fun e => hm (by simpa using e)), h.base.setCell (p := ⟨Br, i, none⟩) h0 v, Nat.le_trans h.lo hg.size⟩
  · rw [ho]; exact h.ops.kept hg (own_far20 h.ops h1)
  · rw [hl]; exact h.last.kept hg (own_far20 h.last h1)
theorem opsV_append (a b : List OpV) : opsV (a ++ b) = opsV a ++ opsV b := List.flatMap_append
theorem opsV_one (o : OpV) : opsV [o] = (opC o).toList := by simp [opsV]
theorem kinds_far {W : World} {Bm K : Nat} (h : KindsM W Bm K) {base : Nat} {e : TypeId} {size n : Nat} {v : Value} {xs : List Value} (ho : W.ownsRow base e size v n xs) : some Bm ≠ v.ownBlock := by
  intro e2
  obtain ⟨_, D, ⟨es, clock, hb, _⟩, _⟩ := h
  have := own_cells20 ho Bm _ e2.symm hb
  cases this
/-- 'r.ops = append(r.ops, o)': all that is owed. -/
theorem RdAt.pushed {w0 : World} {Br Bm n1 : Nat} {st : RdS} {vo vl : Value} {W W2 : World} (h : RdAt w0 Br Bm n1 st vo vl W) (h0 : w0.heap.size ≤ Br) (h1 : Br < n1) (hm : Bm ≠ Br) (o : OpV) (hd : Below W.heap.size W W2) {v4 : Value} {w4 : World}
    (hown4 : w4.ownsRow n1 23 5 v4 (st.ops.length + 1) (opsV st.ops ++ (opC o).toList)) (hgr4 : (W2.alloc (.cells (opC o) 23)).grownBy w4 vo.ownBlock) (hnew4 : ∀ g, v4.ownBlock = some g → vo.ownBlock = some g ∨ (W2.alloc (.cells (opC o) 23)).heap.size ≤ g) :
    Blk w4 Br 70 (rdC Bm st vo vl) ∧ RdAt w0 Br Bm n1 ⟨st.begun, st.many, st.ops ++ [o], st.last, st.plan, st.undo⟩ v4 vl (w4.setCell ⟨Br, 3, none⟩ v4) ∧ Turn20 Br n1 W (w4.setCell ⟨Br, 3, none⟩ v4) := by
  have hd2 := hd.alloc hd.size (.cells (opC o) 23)
  have h2 := h.next hd2
  have hb4 : Blk w4 Br 70 (rdC Bm st vo vl) := h2.blk.kept hgr4 (own_ne20 h2.ops h2.blk (by decide))
  have hgs := grownBy_set w4 Br 3 v4
  have hlt : W.heap.size < (W2.alloc (.cells (opC o) 23)).heap.size := by have := hd.size; simp; omega
  have hT : Turn20 Br n1 W w4 := (Turn20.of_below hd2 h.lo).trans (Turn20.of_grown hgr4 h2.lo (fun k e => .inr (h2.ops.lt k e).1) (fun k o e ho => own_cells20 h2.ops k o e ho))
  have hfar : vl.ownBlock = none ∨ vl.ownBlock ≠ vo.ownBlock := by
    cases hv : vo.ownBlock with
    | none =>
      cases hl : vl.ownBlock with
      | none => exact .inl rfl
      | some k => exact .inr (by simp)
    | some g => exact .inr (h.far g hv)
  have hl4 := h2.last.kept hgr4 hfar
  refine ⟨hb4, ⟨hb4.set 3 v4, ?_, hl4.kept hgs (own_far20 hl4 h1), fun g hg e => ?_, ?_, ?_, ?_⟩, hT.trans (Turn20.set 3 v4 hb4 (Nat.le_trans h2.lo hgr4.size))⟩
  · have := hown4.kept hgs (own_far20 hown4 h1)
    rw [opsV_append, opsV_one, List.length_append]
    exact this
  · rcases hnew4 g hg with hg | hg
    · exact h.far g hg e
    · have := (h.last.lt g e).2
      omega
  · exact (h2.kinds.kept hgr4 (kinds_far h2.kinds h2.ops)).kept hgs (fun e => hm (by simpa using e))
  · exact (h.base.trans (hT.below (by omega) h0)).setCell (p := ⟨Br, 3, none⟩) h0 v4
  · exact Nat.le_trans (Nat.le_trans h2.lo hgr4.size) hgs.size
set_option maxRecDepth 100000 in
set_option maxHeartbeats 1000000 in
theorem cloneO_any (l : List OpV) (v : Value) (base : Nat) (w : World) (hv : w.ownsRow base 23 5 v l.length (opsV l)) (hl : l.length ≤ 1000000) :
    Calls Tryz.prog 90 #[v] w fun e w' => ∃ y, e = .returned y ∧ w'.ownsRow w.heap.size 23 5 y l.length (opsV l) ∧ Below w.heap.size w w' := by
  obtain ⟨i0, hi, hz0, hz1, hz2⟩ := info_parts infoO20
  rcases hv.2 with ⟨rfl, h0⟩ | ⟨g, cap, cur, rfl, hg, hh, hnc, hcm, hsz, htk⟩
  · have hl0 : l = [] := List.eq_nil_of_length_eq_zero h0
    subst hl0
    have hnil := Lib.run_eql_slice_nil (P := Tryz.prog) w 26 23 none 0 0 0 0 Tryz.underlying26
    simp only [List.length_nil]
    go_enter Tryz.func90, Tryz.ntmps90
    go_wp2
    go_ret
    exact ⟨_, rfl, World.ownsRow_nil _ _ _ _, Below.refl _ _⟩
  · have hal := Joins.below_alloc1 w (.cells #[] 23)
    have hown : (w.alloc (.cells #[] 23)).ownsRow w.heap.size 23 5 (.slice (some ⟨w.heap.size, 0, none⟩) 0 0) 0 [] := World.ownsRow_lit w #[] 0 (Nat.le_refl _) (by decide) rfl
    have hln := opsV_len l
    have hlt := (Array.getElem?_eq_some_iff.1 hh).1
    have hsrc : ∀ ad', (some (⟨g, 0, none⟩ : Addr)) = some ad' → ∀ j u, (opsV l)[j]? = some u → (w.alloc (.cells #[] 23)).cell? (ad'.add j) = some u := by
      intro ad' e j u hj
      cases e
      have h1 := hv.cellAt j (by have := (List.getElem?_eq_some_iff.1 hj).1; omega)
      rw [hj] at h1
      rw [Addr.add_lit, Nat.zero_add]
      exact (hal.cell (p := ⟨g, j, none⟩) hlt).trans h1
    have hnil := Lib.run_eql_slice_nil (P := Tryz.prog) w 26 23 (some ⟨g, 0, none⟩) l.length cap 0 0 Tryz.underlying26
    clear hh htk
    go_enter Tryz.func90, Tryz.ntmps90
    go_wp2_with (at_builtin; refine wpList_append_more rfl (.tmp 5) (.tmp 6) 26 23 rfl Tryz.underlying26 hi hz0 hz1 hz2 rfl (by decide) (by decide) w.heap.size (v := .slice (some ⟨w.heap.size, 0, none⟩) 0 0) (some ⟨g, 0, none⟩) l.length cap (opsV l) rfl rfl hown (fun h => by cases h) hln hsrc ?_ (by omega) (by simp) ?_)
    · intro u hu
      obtain ⟨o, _, ho⟩ := List.mem_flatMap.1 hu
      exact opC_one o u ho
    · intro v1 w1 hown1 hg1 _
      go_wp2
      go_ret
      exact ⟨v1, rfl, by simpa using hown1, (hal.trans ((own_below hown hg1 (by simp)).mono (Nat.le_refl _)))⟩
end Go.Proofs.YtolbhjjcabiabaaGreatDoor
