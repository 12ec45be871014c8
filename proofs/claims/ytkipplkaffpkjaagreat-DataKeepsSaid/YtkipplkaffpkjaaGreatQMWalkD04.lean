/- Texts put together: WalkA05, Clone, WalkE04, WalkG04, Cut, WalkA03, WalkB03, WalkD03, Builder, WalkE03, WalkC04, WalkD04. -/
import Derived.Test.YtkipplkaffpkjaaGreatQMList11
import Derived.Test.YtkipplkaffpkjaaGreatChecked
import Derived.Test.YtkipplkaffpkjaaGreatQShelf
import Derived.Deep.LoopGhost
import Derived.Lib.Small
import Derived.Test.YtkipplkaffpkjaaGreatQMWalkH04
import Derived.OwnWalk
import Derived.BigQuiet
import Derived.Laws.StructEq
import Derived.Shelf.RegionOpenPlain
import Derived.Deep.Draws
import Derived.Laws.Strings3
import Derived.BigGuard
import Derived.StillTailTactics
import Derived.Test.YtkipplkaffpkjaaGreatQMPure09
import Derived.RangeFuncNested
import Derived.RangeFuncBox
import Derived.RangeFuncBound
import Derived.RangeFuncCalls
import Derived.RangeFuncLeaves
import Derived.Shelf.Abstract
import Derived.Shelf.RegionOpen
import Derived.WalkKit
import Derived.OwnWalkIn
import Derived.TacticsInMore
import Derived.LoopNIn
import Derived.LoopIn
import Derived.Shelf.Strings.Builder1
import Derived.Lib.Builder
import Derived.Lib.AppendStr
import Derived.RangeFuncRecord
import Derived.Shelf.SlSortCmp.Kit1
set_option linter.unusedVariables false
set_option linter.unusedSimpArgs false
/- Walks: the search for a number, by halves. -/
set_option linter.unusedVariables false
set_option linter.unusedSimpArgs false
namespace Go.Proofs.YtkipplkaffpkjaaGreat
open Go.RowKit

theorem holdN_any (x : Nd) (n : Int) (w : World) :
    Calls Tryz.prog 75 #[.agg (ndC x), .int .i64 n] w fun e w' => e = .returned (.int .i64 (Lib.compareInt x.ino n)) ∧ Below w.heap.size w w' := by
  go_enter Tryz.func75, Tryz.ntmps75
  have hb : Below w.heap.size w (w.alloc (.cells (ndC x) 29)) := (Below.refl _ w).alloc (Nat.le_refl _) _
  go_wp2_with fail; refine (Tryz.cmp_Compare_int _ _ _).mono ?_; rintro e w' ⟨rfl, rfl⟩
  go_wp2
  go_ret
  exact ⟨rfl, hb⟩

theorem cmpI_lt (x y : Int) : decide (Lib.compareInt x y < 0) = decide (x < y) := by
  unfold Lib.compareInt; split
  · simp [*]
  · split <;> simp [*]
theorem cmpI_eq (x y : Int) : (Lib.compareInt x y == 0) = (x == y) := by
  unfold Lib.compareInt; split
  · have : x ≠ y := by omega
    simp [this]
  · split
    · have : x ≠ y := by omega
      simp [this]
    · have : x = y := by omega
      simp [this]

set_option maxHeartbeats 2000000 in
theorem halvesN_any (l : List Nd) (n : Int) (v : Value) (w : World) (hv : Nds w v l) (hs : riseP l) (hl : l.length ≤ 1000000) :
    Calls Tryz.prog 74 #[v, .int .i64 n, .func (.func 75) #[] #[]] w fun e w' =>
      ∃ lo : Nat, e = .returned (.tuple #[.int .i64 lo, .bool (hasN l n)]) ∧ SrchN l n lo ∧ Below w.heap.size w w' := by
  obtain ⟨a, ca, rfl, hc, hm, _, _, HA0⟩ := hv
  unfold maxLen at hm
  have HA := Lib.hid HA0
  have HS := Lib.hid hs
  clear HA0 hs
  go_enter Tryz.func74, Tryz.ntmps74
  go_wp2
  go_loopg [9, 10] l.length (fun g s9 s10 wr => ∃ lo hi : Nat, s9 = .int .i64 lo ∧ s10 = .int .i64 hi ∧ lo ≤ hi ∧ hi ≤ l.length ∧ hi - lo ≤ g ∧ Below w.heap.size w wr ∧
    Aside ((∀ t (ht : t < l.length), t < lo → l[t].ino < n) ∧ (∀ t (ht : t < l.length), hi ≤ t → n ≤ l[t].ino)))
  case atStart => exact ⟨0, l.length, rfl, rfl, Nat.zero_le _, Nat.le_refl _, by omega, Below.refl _ _, ⟨fun t ht h => by omega, fun t ht h => by omega⟩⟩
  case round =>
    obtain ⟨lo, hi, rfl, rfl, hlh, hin, hg, hbw, I⟩ := hrel
    by_cases hlt : lo < hi
    · obtain ⟨b, o, rfl, hb, hcl⟩ := HA.out (by omega)
      have hmid : (lo + hi) / 2 < l.length := by omega
      obtain ⟨c1, c2, c3, c4, c5, c6⟩ := (hcl _ hmid).below hbw hb
      clear hcl
      generalize hy : l[(lo + hi) / 2] = y at c1 c2 c3 c4 c5 c6
      have Y := Lib.hid hy
      clear hy
      have CM := Lib.hid (cmpI_lt y.ino n)
      go_wp2_with fail
      refine (holdN_any y n _).mono ?_
      rintro e w2 ⟨rfl, b2⟩
      replace hbw := hbw.trans (b2.mono hbw.size)
      by_cases hl1 : y.ino < n
      · have hcm : decide (Lib.compareInt y.ino n < 0) = true := CM.out.trans (decide_eq_true hl1)
        have I2 := Lib.hid (show (∀ t (ht : t < l.length), t < (lo + hi) / 2 + 1 → l[t].ino < n) ∧ (∀ t (ht : t < l.length), hi ≤ t → n ≤ l[t].ino) from ⟨fun t ht h => by
          have := rise_upto HS.out hmid (a := t) (by omega); rw [Y.out] at this; omega, I.out.2⟩)
        clear hl1
        go_wp2
        go_roundg (hi - ((lo + hi) / 2 + 1))
        case measure => omega
        case rel => exact ⟨(lo + hi) / 2 + 1, hi, by rw [show ((lo : Int) + (hi : Int)) / 2 + 1 = (((lo + hi) / 2 + 1 : Nat) : Int) by omega], rfl, by omega, hin, Nat.le_refl _, hbw, I2.out⟩
      · have hcm : decide (Lib.compareInt y.ino n < 0) = false := CM.out.trans (decide_eq_false hl1)
        have I2 := Lib.hid (show (∀ t (ht : t < l.length), t < lo → l[t].ino < n) ∧ (∀ t (ht : t < l.length), (lo + hi) / 2 ≤ t → n ≤ l[t].ino) from ⟨I.out.1, fun t ht h => by
          have := rise_upto HS.out ht (a := (lo + hi) / 2) h; rw [Y.out] at this; omega⟩)
        clear hl1
        go_wp2
        go_roundg ((lo + hi) / 2 - lo)
        case measure => omega
        case rel => exact ⟨lo, (lo + hi) / 2, rfl, by rw [show ((lo : Int) + (hi : Int)) / 2 = (((lo + hi) / 2 : Nat) : Int) by omega], by omega, by omega, Nat.le_refl _, hbw, I2.out⟩
    · obtain rfl : hi = lo := by omega
      have SE := Lib.hid (srchN_end HS.out hin I.out.1 I.out.2)
      by_cases hn : hi < l.length
      · obtain ⟨b, o, rfl, hb, hcl⟩ := HA.out (by omega)
        obtain ⟨c1, c2, c3, c4, c5, c6⟩ := (hcl _ hn).below hbw hb
        clear hcl
        have SH : Hid (hasN l n = (l[hi].ino == n)) := by (show _ = _); rw [SE.out.2, dif_pos hn]
        generalize hy : l[hi] = y at c1 c2 c3 c4 c5 c6 SH
        clear hy
        have CM := Lib.hid (cmpI_eq y.ino n)
        go_wp2_with fail
        refine (holdN_any y n _).mono ?_
        rintro e w2 ⟨rfl, b2⟩
        replace hbw := hbw.trans (b2.mono hbw.size)
        go_wp2
        go_ret2
        exact ⟨hi, by rw [SH.out, ← CM.out]; rfl, SE.out.1, hbw⟩
      · have SH : Hid (hasN l n = false) := by (show _ = _); rw [SE.out.2, dif_neg hn]
        go_wp2
        go_ret2
        exact ⟨hi, by rw [SH.out]; rfl, SE.out.1, hbw⟩

theorem searchN_any (l : List Nd) (n : Int) (v : Value) (w : World) (hv : Nds w v l) (hs : riseP l) (hl : l.length ≤ 1000000) :
    Calls Tryz.prog 51 #[v, .int .i64 n] w fun e w' =>
      ∃ lo : Nat, e = .returned (.tuple #[.int .i64 lo, .bool (hasN l n)]) ∧ SrchN l n lo ∧ Below w.heap.size w w' := by
  obtain ⟨a, ca, rfl, hc, hm, HA0⟩ := id hv
  clear HA0
  go_enter Tryz.func51, Tryz.ntmps51
  go_wp2_with fail; refine (halvesN_any l n _ _ hv hs hl).mono ?_; rintro e w1 ⟨lo, rfl, hS, hb⟩
  go_wp2
  go_ret2
  exact ⟨lo, rfl, hS, hb⟩
end Go.Proofs.YtkipplkaffpkjaaGreat

/- strings.Clone: the same bytes. -/
set_option linter.unusedVariables false
set_option linter.unusedSimpArgs false
namespace Go.Proofs.YtkipplkaffpkjaaGreat
open Go.RowKit

theorem Clone_any (l : List UInt8) (w : World) (hl : l.length ≤ 100000000) :
    Calls Tryz.prog 52 #[.string ⟨l.toArray⟩] w fun e w' => e = .returned (.string ⟨l.toArray⟩) ∧ Below w.heap.size w w' := by
  go_enter Tryz.func52, Tryz.ntmps52
  go_wp2_with fail
  refine (Tryz.stringslite_Clone _ _ (by simp [ByteArray.size]; omega)).mono ?_
  rintro e w' ⟨rfl, hB⟩
  go_wp2
  go_ret
  exact ⟨rfl, hB⟩
end Go.Proofs.YtkipplkaffpkjaaGreat

/- Walks: the parts' entries in one list. -/
set_option linter.unusedVariables false
set_option linter.unusedSimpArgs false
namespace Go.Proofs.YtkipplkaffpkjaaGreat
open Go.RowKit

theorem infoE : (Tryz.prog.info? 74).map (fun i => (i.zero, i.size, i.bytes)) = some (some (.agg #[.string ⟨#[]⟩, .int .i64 0]), 2, 24) := by kernel_rfl
theorem sizeE : (Tryz.prog.info? 74).map (·.size) = some 2 := by kernel_rfl

/-- A slice of slices of entries. -/
def Parts (w : World) (v : Value) (ps : List (List Ent)) : Prop :=
  ∃ a cap, v = .slice a ps.length cap ∧ (0 < ps.length → ∃ b off, a = some ⟨b, off, none⟩ ∧ b < w.heap.size ∧ ∀ i (h : i < ps.length), ∃ x, w.cell? ⟨b, off + i, none⟩ = some x ∧ Ents w x ps[i])

/-- New entries: a block of the call's own. -/
def NewEnts (w : World) (L : List Ent) (e : Ending) (w' : World) : Prop :=
  ∃ g, e = .returned (.slice (some ⟨g, 0, none⟩) L.length L.length) ∧ w.heap.size ≤ g ∧ Blk w' g 74 (entsV L).toArray ∧ Below w.heap.size w w'
theorem blk_ents {w : World} {g : Nat} {t : TypeId} {L : List Ent} (h : Blk w g t (entsV L).toArray) (hl : L.length ≤ maxLen) : Ents w (.slice (some ⟨g, 0, none⟩) L.length L.length) L := by
  refine ⟨_, _, rfl, Nat.le_refl _, hl, fun _ => ⟨g, 0, rfl, h.lt, fun i hi => ?_⟩⟩
  rw [h.cell, h.cell, Nat.zero_add]
  simpa using entsV_at L i hi

theorem flat_take (ps : List (List Ent)) (k : Nat) (h : k < ps.length) : (ps.take (k + 1)).flatten = (ps.take k).flatten ++ ps[k] := by
  rw [List.take_succ_eq_append_getElem h, List.flatten_append]; simp
theorem flat_le (ps : List (List Ent)) (k : Nat) : (ps.take k).flatten.length ≤ ps.flatten.length := by
  conv => rhs; rw [← List.take_append_drop k ps, List.flatten_append, List.length_append]
  omega
theorem flat_mem {ps : List (List Ent)} {k : Nat} (h : k < ps.length) {e : Ent} (he : e ∈ ps[k]) : e ∈ ps.flatten := List.mem_flatten.2 ⟨_, List.getElem_mem h, he⟩

def flatN (ps : List (List Ent)) (k : Nat) : Nat := (ps.take k).flatten.length
theorem flatN_next {ps : List (List Ent)} {k : Nat} (h : k < ps.length) : flatN ps (k + 1) = flatN ps k + ps[k].length := by
  unfold flatN; rw [flat_take ps k h, List.length_append]
theorem flatN_le (ps : List (List Ent)) (k : Nat) : flatN ps k ≤ ps.flatten.length := flat_le ps k
theorem flatN_end (ps : List (List Ent)) : flatN ps ps.length = ps.flatten.length := by unfold flatN; rw [List.take_length]
theorem splice_ents (F p : List Ent) (Z : List Value) (h : p.length * 2 ≤ Z.length) : splice (entsV F ++ Z) (F.length * 2) (entsV p) = entsV (F ++ p) ++ Z.drop (p.length * 2) := by
  unfold splice
  rw [entsV_append, List.take_append_of_le_length (by rw [entsV_len]; exact Nat.le_refl _), List.take_of_length_le (by rw [entsV_len]; exact Nat.le_refl _), entsV_len,
    List.drop_append, entsV_len, List.drop_eq_nil_of_le (by rw [entsV_len]; omega), List.nil_append, show F.length * 2 + p.length * 2 - F.length * 2 = p.length * 2 from by omega, List.append_assoc]

end Go.Proofs.YtkipplkaffpkjaaGreat

/- Walks: the document's Without, With, Same. -/
set_option linter.unusedVariables false
set_option linter.unusedSimpArgs false
namespace Go.Proofs.YtkipplkaffpkjaaGreat
open Go.RowKit

/-- New entries: a row of the call's own. -/
def OwnEnts (w : World) (L : List Ent) (e : Ending) (w' : World) : Prop :=
  ∃ v, e = .returned v ∧ w'.ownsRow w.heap.size 74 2 v L.length (entsV L) ∧ Below w.heap.size w w'
theorem own_nil (w : World) (n : Nat) : w.ownsRow n 74 2 (.slice none 0 0) 0 (entsV []) := ⟨rfl, .inl ⟨rfl, rfl⟩⟩
theorem entC_one (e : Ent) : ∀ u ∈ (entC e).toList, u.oneCell' = true := by
  intro u hu; simp [entC] at hu; rcases hu with rfl | rfl <;> rfl
theorem filter_take (l : List Ent) (n : List UInt8) (k : Nat) (h : k < l.length) : (l.take (k + 1)).filter (fun e => e.1 != n) = if l[k].1 == n then (l.take k).filter (fun e => e.1 != n) else (l.take k).filter (fun e => e.1 != n) ++ [l[k]] := by
  rw [List.take_succ_eq_append_getElem h, List.filter_append]
  cases hm : (l[k].1 == n) <;> simp [bne, hm]

theorem ins_next {n : List UInt8} {i : Int} {r O : List Ent} {k : Nat} (h : k < r.length) (hI : insB n i r = O ++ insB n i (r.drop k)) :
    (ltB n r[k].1 = true → insB n i r = (O ++ [(n, i)] ++ [r[k]]) ++ r.drop (k + 1)) ∧ (ltB n r[k].1 = false → insB n i r = (O ++ [r[k]]) ++ insB n i (r.drop (k + 1))) := by
  rw [List.drop_eq_getElem_cons h] at hI
  constructor
  · intro h1; rw [hI, insB, if_pos h1]; simp
  · intro h1; rw [hI, insB, if_neg (by rw [h1]; simp)]; simp
theorem gt_three (a n : List UInt8) : (ltB a n = true ∧ ltB n a = false) ∨ (ltB a n = false ∧ (a == n) = true ∧ ltB n a = false) ∨ (ltB a n = false ∧ (a == n) = false ∧ ltB n a = true) := by
  cases h1 : ltB a n
  · cases h2 : (a == n)
    · refine .inr (.inr ⟨rfl, rfl, ?_⟩)
      cases h3 : ltB n a
      · rw [lt_tri _ _ h1 h3] at h2; simp at h2
      · rfl
    · have : a = n := by simpa using h2
      subst this
      exact .inr (.inl ⟨rfl, rfl, h1⟩)
  · exact .inl ⟨rfl, lt_asym h1⟩

end Go.Proofs.YtkipplkaffpkjaaGreat

/- strings.Cut at one slash. -/
set_option linter.unusedVariables false
set_option linter.unusedSimpArgs false
namespace Go.Proofs.YtkipplkaffpkjaaGreat
open Go.RowKit

theorem cut_cases (l : List UInt8) : (Lib.indexByte l 47 = -1 ∧ 47 ∉ l) ∨ ∃ x r, l = x ++ 47 :: r ∧ 47 ∉ x ∧ Lib.indexByte l 47 = (x.length : Int) := by
  induction l with
  | nil => left; exact ⟨rfl, by simp⟩
  | cons c l ih =>
    by_cases hc : c = 47
    · subst hc; right; exact ⟨[], l, rfl, by simp, by simp [Lib.indexByte]⟩
    · have hb : (c == 47) = false := by simpa using hc
      rcases ih with ⟨h1, h2⟩ | ⟨x, r, rfl, hx, h⟩
      · left
        refine ⟨by simp [Lib.indexByte, hb, h1], ?_⟩
        simp only [List.mem_cons, not_or]
        exact ⟨fun e => hc e.symm, h2⟩
      · right
        refine ⟨c :: x, r, rfl, ?_, ?_⟩
        · simp only [List.mem_cons, not_or]
          exact ⟨fun e => hc e.symm, hx⟩
        · have hne : (Lib.indexByte (x ++ 47 :: r) 47 == -1) = false := by rw [h, beq_eq_false_iff_ne]; omega
          simp only [Lib.indexByte, hb, Bool.false_eq_true, if_false, hne, h]
          simp

theorem lcut_none (l : List UInt8) (w : World) (h : Lib.indexByte l 47 = -1) :
    Calls Tryz.prog 94 #[.string ⟨l.toArray⟩, .string ⟨#[47]⟩] w fun e w' => e = .returned (.tuple #[.string ⟨l.toArray⟩, .string ⟨#[]⟩, .bool false]) ∧ w' = w := by
  go_enter Tryz.func94, Tryz.ntmps94
  go_wp2_with fail
  refine (Tryz.stringslite_Index_one ⟨l.toArray⟩ 47 _).mono ?_
  rintro e w' ⟨rfl, rfl⟩
  rw [show Lib.indexByte (ByteArray.mk l.toArray).data.toList 47 = -1 from h]
  go_wp2
  go_ret3
  exact ⟨rfl, rfl⟩

theorem lcut_some (x r : List UInt8) (w : World) (hl : x.length + r.length ≤ 1000000000) (h : Lib.indexByte (x ++ 47 :: r) 47 = (x.length : Int)) :
    Calls Tryz.prog 94 #[.string ⟨(x ++ 47 :: r).toArray⟩, .string ⟨#[47]⟩] w fun e w' => e = .returned (.tuple #[.string ⟨x.toArray⟩, .string ⟨r.toArray⟩, .bool true]) ∧ ∃ n, w' = w.drewN n := by
  have c1 : (0 : Int) ≤ (x.length : Int) := by omega
  have c2 : (x.length : Int) ≤ (((ByteArray.mk (x ++ 47 :: r).toArray).size : Nat) : Int) := by simp [ByteArray.size]; omega
  have c3 : (0 : Int) ≤ (x.length : Int) + 1 := by omega
  have c4 : (x.length : Int) + 1 ≤ (((ByteArray.mk (x ++ 47 :: r).toArray).size : Nat) : Int) := by simp [ByteArray.size]; omega
  have hlim : (((ByteArray.mk (x ++ 47 :: r).toArray).size : Nat) : Int) ≤ 2000000000 := by simp [ByteArray.size]; omega
  have e1 : (ByteArray.mk (x ++ 47 :: r).toArray).extract 0 x.length = ⟨x.toArray⟩ := by
    rw [Lib.extract_eq]; simp
  have e2 : (ByteArray.mk (x ++ 47 :: r).toArray).extract (x.length + 1) (ByteArray.mk (x ++ 47 :: r).toArray).size = ⟨r.toArray⟩ := by
    have hd : List.drop (x.length + 1) (x ++ 47 :: r) = r := by
      rw [show x ++ 47 :: r = (x ++ [47]) ++ r from by simp, show x.length + 1 = (x ++ [47]).length from by simp, List.drop_left]
    rw [Lib.extract_eq]
    show ByteArray.mk (List.take ((x ++ 47 :: r).toArray.size - (x.length + 1)) (List.drop (x.length + 1) (x ++ 47 :: r).toArray.toList)).toArray = _
    rw [List.toList_toArray, hd, List.size_toArray, List.length_append, List.length_cons, List.take_of_length_le (by omega)]
  have E1 := Lib.hid e1
  have E2 := Lib.hid e2
  clear e1 e2
  generalize hs : ByteArray.mk (x ++ 47 :: r).toArray = s at *
  go_enter Tryz.func94, Tryz.ntmps94
  go_wp2_with fail
  refine (Tryz.stringslite_Index_one s 47 _).mono ?_
  rintro e w' ⟨rfl, rfl⟩
  rw [show Lib.indexByte s.data.toList 47 = (x.length : Int) from by rw [← hs]; exact h]
  go_wp2
  go_quiet (fail)
  go_wp2
  go_ret3
  refine ⟨?_, _, rfl⟩
  show Ending.returned (Value.tuple #[.string (s.extract 0 x.length), .string (s.extract (x.length + 1) s.size), .bool true]) = _
  rw [E1.out, E2.out]


/-- What lies ahead of the first slash, and what behind it; all of it where there is none. -/
def CutPost (l : List UInt8) (w : World) (e : Ending) (w' : World) : Prop :=
  (∃ n, w' = w.drewN n) ∧ ((e = .returned (.tuple #[.string ⟨l.toArray⟩, .string ⟨#[]⟩, .bool false]) ∧ 47 ∉ l) ∨
    ∃ x r, l = x ++ 47 :: r ∧ 47 ∉ x ∧ e = .returned (.tuple #[.string ⟨x.toArray⟩, .string ⟨r.toArray⟩, .bool true]))
theorem Cut_any (l : List UInt8) (w : World) (hl : l.length ≤ 1000000) :
    Calls Tryz.prog 85 #[.string ⟨l.toArray⟩, .string ⟨#[47]⟩] w (CutPost l w) := by
  rcases cut_cases l with ⟨h, hn⟩ | ⟨x, r, rfl, hx, h⟩
  · go_enter Tryz.func85, Tryz.ntmps85
    go_wp2_with fail; refine (lcut_none l _ h).mono ?_; rintro e w' ⟨rfl, rfl⟩
    go_wp2
    go_ret3
    exact ⟨⟨0, rfl⟩, .inl ⟨rfl, hn⟩⟩
  · go_enter Tryz.func85, Tryz.ntmps85
    go_wp2_with fail; refine (lcut_some x r _ (by simp at hl; omega) h).mono ?_; rintro e w' ⟨rfl, n, rfl⟩
    go_wp2
    go_ret3
    exact ⟨⟨n, rfl⟩, .inr ⟨x, r, rfl, hx, rfl⟩⟩
end Go.Proofs.YtkipplkaffpkjaaGreat

/- The iterator over a path's names: what it hands out, to whatever loop body. -/
set_option linter.unusedVariables false
set_option linter.unusedSimpArgs false
namespace Go.Proofs.YtkipplkaffpkjaaGreat
open Go.RowKit Go.Shelf
attribute [local go_sem] Oper.semAt_some

/-- A text of no more than so many bytes. -/
abbrev Txt : Type := { x : List UInt8 // x.length ≤ 1000000 }
abbrev txtV (x : Txt) : Array Value := #[.string ⟨x.1.toArray⟩]

def strLen : Value → Nat
  | .string b => b.size
  | _ => 0
theorem atomB_map (x : List UInt8) (h : x.length ≤ 1000000) : ∃ ys : List Txt, ys.map (·.1) = atomB x := by
  by_cases hx : x = []
  · exact ⟨[], by simp [hx, atomB]⟩
  · exact ⟨[⟨x, h⟩], by simp [hx, atomB]⟩

set_option maxRecDepth 100000 in
set_option maxHeartbeats 2000000 in
theorem namesOf1_in (l B : Nat) (p : List UInt8) (hp : p.length ≤ 1000000) (J Jx : List Txt → World → Prop)
    (hJd : ∀ s (A : World) (q : Nat), J s A → J s (A.drewN q))
    (hY : ∀ pre x W, J pre W → pre.length < p.length + 1 → YieldAt Fence.wide (3 - 1 - 1) Tryz.prog l (txtV x) W fun e W' =>
      (e = .returned (.bool true) ∧ J (pre ++ [x]) W' ∧ True) ∨ (e = .returned (.bool false) ∧ Jx (pre ++ [x]) W'))
    (W : World) (hc : W.cell? ⟨B, 0, none⟩ = some (.string ⟨p.toArray⟩)) (h0 : J [] W) :
    CallsIn Fence.wide (3 - 1) Tryz.prog 84 #[.func (.yield l) #[] #[], .pointer (some ⟨B, 0, none⟩)] W fun e W' => (∃ v, e = .returned v) ∧
      ((∃ ys : List Txt, ys.map (·.1) = namesB p ∧ J ys W') ∨ (∃ pre : List Txt, pre.map (·.1) <+: namesB p ∧ Jx pre W')) := by
  refine callsIn_of_wp Tryz.func84 rfl trivial ?_ rfl
  simp only [Tryz.ntmps84, List.size_toArray, List.length_cons, List.length_nil, Nat.reduceAdd, Nat.reduceSub, Array.replicate_succ, Array.replicate_zero, List.push_toArray, List.append_toArray, List.nil_append, List.cons_append]
  gi_wp2
  gi_loopw [3] (fun s3 wr => ∃ (pre : List Txt) (r : List UInt8), s3 = .string ⟨r.toArray⟩ ∧ pre.length + r.length ≤ p.length ∧ Aside (namesB p = pre.map (·.1) ++ namesB r) ∧ J pre wr) (fun s3 _ => strLen s3)
  case atStart => exact ⟨[], p, rfl, by simp, rfl, h0⟩
  case round =>
    obtain ⟨pre, r, rfl, hlen, HN, hJ⟩ := hrel
    by_cases hr : r = []
    · subst hr
      have HN' : Hid (pre.map (·.1) = namesB p) := by (show _ = _); rw [HN.out, namesB_nil, List.append_nil]
      gi_wp2
      go_end0
      exact ⟨⟨_, rfl⟩, .inl ⟨pre, HN'.out, hJ⟩⟩
    · have hr0 : r.isEmpty = false := by simpa using hr
      gi_wp2_with fail
      refine ⟨trivial, ?_⟩
      gi_at_call 85
      refine (callsIn_wide.2 (Cut_any r _ (by omega))).mono ?_
      rintro e w' ⟨⟨q, rfl⟩, ⟨rfl, hn⟩ | ⟨x, t, rfl, hx, rfl⟩⟩
      · have hJ2 := hJd _ _ q hJ
        have HN2 := Lib.hid (HN.out.trans (by rw [namesB_none r hn, atomB_cons hr]))
        obtain ⟨fn, tmps, assign, body, hy0, hR⟩ := hY pre ⟨r, by omega⟩ _ hJ2 (by omega)
        have hy : (Instr.yield l #[.string ⟨r.toArray⟩]).run Tryz.prog (wr.drewN q) = .ok (.round l fn tmps assign body) (wr.drewN q) := hy0
        clear hy0
        gi_wp2
        refine hR.mono ?_
        rintro e W3 (⟨rfl, hJ3, hk3⟩ | ⟨rfl, hJx3⟩)
        · gi_wp2
          go_roundw
          case rel => exact ⟨pre ++ [⟨r, by omega⟩], [], rfl, by (have : 0 < r.length := List.length_pos_iff.2 hr); simp; omega, by (show _ = _); rw [HN2.out]; simp [namesB_nil], hJ3⟩
          case measure => simp [strLen, ByteArray.size]; exact List.length_pos_iff.2 hr
        · gi_wp2
          refine bodyPost_ret (results_none rfl _ _ _) rfl ?_
          exact ⟨⟨_, rfl⟩, .inr ⟨pre ++ [⟨r, by omega⟩], by rw [HN2.out]; simp, hJx3⟩⟩
      · have hJ2 := hJd _ _ q hJ
        simp only [List.length_append, List.length_cons] at hlen
        by_cases hxe : x = []
        · subst hxe
          have HN2 := Lib.hid (HN.out.trans (by rw [namesB_found _ _ hx, atomB_nil, List.nil_append]))
          gi_wp2
          refine ⟨fun _ h => (by cases h), ?_⟩
          gi_wp2
          go_roundw
          case rel => exact ⟨pre, t, rfl, by omega, HN2.out, hJ2⟩
          case measure => simp [strLen, ByteArray.size]
        · obtain ⟨c, x, rfl⟩ : ∃ c y, x = c :: y := by cases x with | nil => exact absurd rfl hxe | cons c y => exact ⟨c, y, rfl⟩
          have HN2 := Lib.hid (HN.out.trans (by rw [namesB_found _ _ hx, atomB_cons hxe]))
          obtain ⟨fn, tmps, assign, body, hy0, hR⟩ := hY pre ⟨c :: x, by omega⟩ _ hJ2 (by omega)
          have hy : (Instr.yield l #[.string ⟨(c :: x).toArray⟩]).run Tryz.prog (wr.drewN q) = .ok (.round l fn tmps assign body) (wr.drewN q) := hy0
          clear hy0
          gi_wp2
          refine hR.mono ?_
          rintro e W3 (⟨rfl, hJ3, hk3⟩ | ⟨rfl, hJx3⟩)
          · gi_wp2
            go_roundw
            case rel => exact ⟨pre ++ [⟨c :: x, by omega⟩], t, rfl, by simp; omega, by (show _ = _); rw [HN2.out]; simp, hJ3⟩
            case measure => simp [strLen, ByteArray.size]; omega
          · gi_wp2
            refine bodyPost_ret (results_none rfl _ _ _) rfl ?_
            exact ⟨⟨_, rfl⟩, .inr ⟨pre ++ [⟨c :: x, by omega⟩], by rw [HN2.out]; exact ⟨namesB t, by simp⟩, hJx3⟩⟩
end Go.Proofs.YtkipplkaffpkjaaGreat

/- Walks: namesOf, absolute, Long, Base. -/
set_option linter.unusedVariables false
set_option linter.unusedSimpArgs false
namespace Go.Proofs.YtkipplkaffpkjaaGreat
open Go.RowKit Go.Shelf
attribute [local go_sem] Oper.semAt_some

set_option maxHeartbeats 1000000 in
theorem namesOf_in (p : List UInt8) (w : World) :
    CallsIn Fence.wide (3 - 1) Tryz.prog 66 #[.string ⟨p.toArray⟩] w fun e w' => e = .returned (.func (.func 84) #[] #[.pointer (some ⟨w.heap.size, 0, none⟩)]) ∧ w' = w.alloc (.cells #[.string ⟨p.toArray⟩] 9) := by
  refine callsIn_of_wp Tryz.func66 rfl trivial ?_ rfl
  simp only [Tryz.ntmps66, List.size_toArray, List.length_cons, List.length_nil, Nat.reduceAdd, Nat.reduceSub, Array.replicate_succ, Array.replicate_zero, List.push_toArray, List.append_toArray, List.nil_append, List.cons_append]
  gi_wp2
  go_ret
  exact ⟨rfl, rfl⟩

theorem names_stops (B : Nat) (p : List UInt8) (hp : p.length ≤ 1000000) (w : World) (hB : B < w.heap.size) (hc : w.cell? ⟨B, 0, none⟩ = some (.string ⟨p.toArray⟩)) :
    SeqStopsK Fence.wide (3 - 1) Tryz.prog 84 #[.pointer (some ⟨B, 0, none⟩)] txtV (fun _ _ => True) (fun ys => ys.map (·.1) = namesB p) (fun pre => pre.map (·.1) <+: namesB p) (p.length + 1) w := fun l J Jx W hW hJ _ hY h0 =>
  namesOf1_in l B p hp J Jx
    (fun s A q h => hJ s A (A.drewN q) none h ⟨rfl, rfl, rfl, Nat.le_refl _, fun _ _ _ => rfl⟩ (fun r e => by cases e)) hY W ((hW.cell (p := ⟨B, 0, none⟩) hB).trans hc) h0

theorem absB_prefix (l : List UInt8) : Lib.hasPrefix l [47] = absB l := by
  cases l with
  | nil => rfl
  | cons c r => simp [Lib.hasPrefix, absB, List.isPrefixOf, eq_comm, BEq.comm]
theorem absolute_any (p : List UInt8) (w : World) : Calls Tryz.prog 67 #[.string ⟨p.toArray⟩] w fun e w' => e = .returned (.bool (absB p)) ∧ w = w' := by
  go_enter Tryz.func67, Tryz.ntmps67
  go_wp2_with fail; refine (Tryz.strings_HasPrefix ⟨p.toArray⟩ ⟨#[47]⟩ _).mono ?_; rintro e w' ⟨rfl, rfl⟩
  go_wp2
  go_ret
  exact ⟨ret_bool (absB_prefix p), rfl⟩

set_option maxRecDepth 100000 in
set_option maxHeartbeats 2000000 in
theorem Long_any (p : List UInt8) (hp : p.length ≤ 1000000) (w : World) :
    Calls Tryz.prog 47 #[.string ⟨p.toArray⟩] w fun e w' => e = .returned (.bool (longB p)) ∧ Below w.heap.size w w' := by
  refine (callsIn_wide (n := 3)).1 ?_
  (refine callsIn_of_wp_marks Tryz.func47 rfl trivial ?_ rfl; simp only [Tryz.ntmps47, List.size_toArray, List.length_cons, List.length_nil, Nat.reduceAdd, Nat.reduceSub, Array.replicate_succ, Array.replicate_zero, List.push_toArray, List.append_toArray, List.nil_append, List.cons_append])
  by_cases h4 : 4095 < p.length
  · have hl : longB p = true := by simp [longB, h4]
    have hc := (Blk.new w 4 #[.bool true]).cell 0
    simp at hc
    gi_wp2
    refine ⟨.bool true, ?_, by rw [hl], (Below.refl _ w).alloc (Nat.le_refl _) _⟩
    simp [results, Tryz.f47, go_sem, hc]
  · gi_wp2_with fail
    refine ⟨trivial, ?_⟩
    gi_at_call 66
    refine (namesOf_in p _).mono ?_
    rintro e w' ⟨rfl, rfl⟩
    gi_wp2
    have b0 := Blk.new w 4 #[.bool false]
    have b1 := Blk.new (w.alloc (.cells #[.bool false] 4)) 9 #[.string ⟨p.toArray⟩]
    rw [World.size_alloc] at b1
    have hB0 : Below w.heap.size w ((w.alloc (.cells #[.bool false] 4)).alloc (.cells #[.string ⟨p.toArray⟩] 9)) := ((Below.refl _ w).alloc (Nat.le_refl _) _).alloc (by simp) _
    refine wpIn_rangeFunc_ownG rfl (by omega) (gf := 84) (lb := #[.pointer (some ⟨w.heap.size + 1, 0, none⟩)]) rfl trivial (enters_of Tryz.func84 (by kernel_rfl) rfl)
      (names_stops (w.heap.size + 1) p hp _ (by simp) (b1.cell 0)) (fun _ _ => trivial) (fun _ _ _ _ _ _ _ _ => trivial) (Below.refl _ _) (fun _ => rfl)
      (fun pre W => (Blk W w.heap.size 4 #[.bool false] ∧ ∀ x ∈ pre, (x : Txt).1.length ≤ 255) ∧ Below w.heap.size w W)
      (fun c pre W => (c = .ret ∧ Blk W w.heap.size 4 #[.bool true] ∧ ∃ x ∈ pre, 255 < (x : Txt).1.length) ∧ Below w.heap.size w W)
      (OwnFrom.and (Own.from (fun s A B row hs hg hr => ⟨blk_own (β := Unit) _ _ (fun _ => #[.bool false]) () A B row hs.1 hg hr, hs.2⟩) _) (ownFrom_below (Nat.le_refl _) (by simp; omega)))
      (fun c => OwnFrom.and (Own.from (fun s A B row hs hg hr => ⟨hs.1, blk_own (β := Unit) _ _ (fun _ => #[.bool true]) () A B row hs.2.1 hg hr, hs.2.2⟩) _) (ownFrom_below (Nat.le_refl _) (by simp; omega)))
      ⟨⟨b0.alloc _, by simp⟩, hB0⟩
      (fun x => { tmps := #[.string ⟨p.toArray⟩, undef, .pointer (some ⟨w.heap.size, 0, none⟩), .string ⟨x.1.toArray⟩, .string ⟨p.toArray⟩, .int .i64 p.length, .bool (decide (4095 < (p.length : Int))), .string ⟨p.toArray⟩,
        .func (.func 84) #[] #[.pointer (some ⟨w.heap.size + 1, 0, none⟩)], .string ⟨x.1.toArray⟩, undef, undef, undef], defers := [] }) ?assign ?body ?done ?stop
    case assign =>
      intro l x W K hK
      gi_wp2
      exact hK
    case body =>
      rintro l pre x W ⟨⟨hb, hs⟩, hB⟩ _
      have hc := hb.cell 0
      have hf := hb.frozen 0
      simp at hc
      by_cases h : 255 < x.1.length
      · gi_wp2
        exact ⟨(KeepsOthers.setCell _ _ _).from _, ⟨rfl, by simpa using hb.set 0 (.bool true), x, by simp, h⟩, hB.setCell (p := ⟨w.heap.size, 0, none⟩) (Nat.le_refl _) _⟩
      · gi_wp2
        exact ⟨KeepsFrom.refl _ _, trivial, ⟨hb, fun y hy => (List.mem_append.1 hy).elim (hs y) (fun e => by simp at e; subst e; omega)⟩, hB⟩
    case done =>
      rintro D ys W hD hys ⟨⟨hb, hs⟩, hB⟩ hK
      have hc := hb.cell 0
      have hf := hb.frozen 0
      simp at hc
      have hl : longB p = false := by
        simp only [longB, h4, decide_false, Bool.false_or, List.any_eq_false, decide_eq_true_eq]
        intro n hn
        rw [← hys] at hn
        obtain ⟨y, hy, rfl⟩ := List.mem_map.1 hn
        have := hs y hy
        omega
      gi_wp2
      have hK' := (KeepsOthers.setCell W ⟨w.heap.size, 0, none⟩ (.bool false)).same D _ hK rfl
      refine ⟨by simp, .inl ⟨_, _, rfl, run_takeDeferred hK', ?_⟩⟩
      have hc5 := cell_kept (World.cell?_setCell_same' W ⟨w.heap.size, 0, none⟩ (.bool false) (by rw [hc]; rfl)) (grownBy_putObj' _ D (.deferred none)) (fun r e => by cases e; exact ⟨_, hK', rfl⟩)
      refine ⟨.bool false, ?_, by rw [hl], (hB.setCell (p := ⟨w.heap.size, 0, none⟩) (Nat.le_refl _) _).trans (belowK_b (w := w) (Nat.le_refl _) _ D _ _ (by simp at hD; omega) hK' rfl rfl)⟩
      simp [results, Tryz.f47, go_sem, hc5]
    case stop =>
      rintro D c pre W hD hpre ⟨⟨rfl, hb, x, hx, h⟩, hB⟩ hK
      have hc := hb.cell 0
      simp at hc
      have hl : longB p = true := by
        simp only [longB, Bool.or_eq_true, List.any_eq_true, decide_eq_true_eq]
        exact .inr ⟨x.1, hpre.subset (List.mem_map.2 ⟨x, hx, rfl⟩), h⟩
      gi_wp2
      refine ⟨by simp, .inl ⟨_, _, rfl, run_takeDeferred hK, ?_⟩⟩
      have hc5 := cell_kept hc (grownBy_putObj' _ D (.deferred none)) (fun r e => by cases e; exact ⟨_, hK, rfl⟩)
      refine ⟨.bool true, ?_, by rw [hl], hB.trans (belowK_b (w := w) (Nat.le_refl _) W D _ _ (by simp at hD; omega) hK rfl rfl)⟩
      simp [results, Tryz.f47, go_sem, hc5]
end Go.Proofs.YtkipplkaffpkjaaGreat

/- Walks: Read. -/
set_option linter.unusedVariables false
set_option linter.unusedSimpArgs false
namespace Go.Proofs.YtkipplkaffpkjaaGreat
open Go.RowKit Go.Shelf
attribute [local go_sem] Oper.semAt_some

theorem Tryz.infoS : (Tryz.prog.info? 9).map (fun i => (i.zero, i.size, i.bytes)) = some (some (.string ByteArray.empty), 1, 16) := by kernel_rfl
abbrev pathV (a : Bool) (v : Value) (s : Bool) : Array Value := #[.bool a, v, .bool s]

theorem endB_suffix (l : List UInt8) : Lib.hasSuffix l [47] = endB l := by
  unfold Lib.hasSuffix endB
  rw [Bool.eq_iff_iff, List.isSuffixOf_iff_suffix, beq_iff_eq]
  constructor
  · rintro ⟨r, rfl⟩; simp
  · intro h
    obtain ⟨ys, rfl⟩ := List.getLast?_eq_some_iff.1 h
    exact ⟨ys, rfl⟩
/-- The stores at the end: the field, then the whole result. -/
theorem four_set {W : World} {n D : Nat} {t e : TypeId} {cs : Array Value} {a s : Bool} {v : Value} {k : Nat} {xs : List Value} (hv : Blk W (n + 1) t cs) (hr : Blk W n t (pathV false (.slice none 0 0) false))
    (hrow : W.ownsRow n e 1 v k xs) (hte : t ≠ e) (hK : W.heap[D]? = some (.deferred (some []))) :
    ∃ W', W' = (((W.setCell ⟨n + 1, 2, none⟩ (.bool s)).setCell ⟨n, 0, none⟩ (.bool a)).setCell ⟨n, 1, none⟩ v).setCell ⟨n, 2, none⟩ (.bool s) ∧
      W'.heap[D]? = some (.deferred (some [])) ∧ Blk W' n t (pathV a v s) ∧ W'.ownsRow n e 1 v k xs ∧ Below n W W' := by
  refine ⟨_, rfl, ?_, ?_, ?_, ?_⟩
  · exact ((((KeepsOthers.setCell W _ _).trans (KeepsOthers.setCell _ _ _)).trans (KeepsOthers.setCell _ _ _)).trans (KeepsOthers.setCell _ _ _)).same D _ hK rfl
  · simpa [pathV] using (((hr.other (B2 := n + 1) (i := 2) (by omega) (.bool s)).set 0 (.bool a)).set 1 v).set 2 (.bool s)
  · have r1 := hrow.kept (grownBy_set W (n + 1) 2 (.bool s)) (.inr (hv.not_row hte hrow).symm)
    have q1 := hr.other (B2 := n + 1) (i := 2) (by omega) (.bool s)
    have r2 := r1.kept (grownBy_set _ n 0 (.bool a)) (.inr (q1.not_row hte r1).symm)
    have q2 := q1.set 0 (.bool a)
    have r3 := r2.kept (grownBy_set _ n 1 v) (.inr (q2.not_row hte r2).symm)
    have q3 := q2.set 1 v
    exact r3.kept (grownBy_set _ n 2 (.bool s)) (.inr (q3.not_row hte r3).symm)
  · exact ((((Below.refl n W).setCell (p := ⟨n + 1, 2, none⟩) (by simp) _).setCell (p := ⟨n, 0, none⟩) (Nat.le_refl _) _).setCell (p := ⟨n, 1, none⟩) (Nat.le_refl _) _).setCell (p := ⟨n, 2, none⟩) (Nat.le_refl _) _
theorem Blk.putObj {W : World} {B D : Nat} {t : TypeId} {cs : Array Value} (h : Blk W B t cs) {o : Obj} (o' : Obj) (hD : W.heap[D]? = some o) (ho : o.isCells = false) : Blk (W.putObj D o') B t cs :=
  h.kept (grownBy_putObj' W D o') (fun e => by
    obtain rfl : B = D := by simpa using e
    rw [show W.heap[B]? = _ from h] at hD; cases hD; cases ho)
set_option maxRecDepth 100000 in
set_option maxHeartbeats 4000000 in
theorem Read_any (p : List UInt8) (hp : p.length ≤ 1000000) (w : World) :
    Calls Tryz.prog 48 #[.string ⟨p.toArray⟩] w fun e w' => ∃ v, e = .returned (.agg (pathV (absB p) v (slashB p))) ∧ w'.ownsRow w.heap.size 9 1 v (namesB p).length (strsV (namesB p)) ∧ Below w.heap.size w w' := by
  obtain ⟨is, hsi, hs0, hs1, hs2⟩ := info_parts Tryz.infoS
  refine (callsIn_wide (n := 3)).1 ?_
  (refine callsIn_of_wp_marks Tryz.func48 rfl trivial ?_ rfl; simp only [Tryz.ntmps48, List.size_toArray, List.length_cons, List.length_nil, Nat.reduceAdd, Nat.reduceSub, Array.replicate_succ, Array.replicate_zero, List.push_toArray, List.append_toArray, List.nil_append, List.cons_append])
  gi_wp2_with fail
  refine ⟨trivial, ?_⟩
  gi_at_call 67
  refine (callsIn_wide.2 (absolute_any p _)).mono ?_
  rintro e w' ⟨rfl, rfl⟩
  gi_wp2_with fail
  refine ⟨trivial, ?_⟩
  gi_at_call 66
  refine (namesOf_in p _).mono ?_
  rintro e w' ⟨rfl, rfl⟩
  gi_wp2
  have b0 := Blk.new w 78 (pathV false (.slice none 0 0) false)
  have b1 := Blk.new (w.alloc (.cells (pathV false (.slice none 0 0) false) 78)) 78 (pathV (absB p) (.slice none 0 0) false)
  have b2 := Blk.new ((w.alloc (.cells (pathV false (.slice none 0 0) false) 78)).alloc (.cells (pathV (absB p) (.slice none 0 0) false) 78)) 9 #[.string ⟨p.toArray⟩]
  simp only [World.size_alloc] at b1 b2
  have hB0 : Below w.heap.size w (((w.alloc (.cells (pathV false (.slice none 0 0) false) 78)).alloc (.cells (pathV (absB p) (.slice none 0 0) false) 78)).alloc (.cells #[.string ⟨p.toArray⟩] 9)) := (((Below.refl _ w).alloc (Nat.le_refl _) _).alloc (by simp) _).alloc (by simp; omega) _
  refine wpIn_rangeFunc_ownG rfl (by omega) (gf := 84) (lb := #[.pointer (some ⟨w.heap.size + 1 + 1, 0, none⟩)]) rfl trivial (enters_of Tryz.func84 (by kernel_rfl) rfl)
    (names_stops (w.heap.size + 1 + 1) p hp _ (by simp) (b2.cell 0)) (fun _ _ => trivial) (fun _ _ _ _ _ _ _ _ => trivial) (Below.refl _ _) (fun _ => rfl)
    (fun pre W => ((∃ v, Blk W (w.heap.size + 1) 78 (pathV (absB p) v false) ∧ W.ownsRow w.heap.size 9 1 v pre.length (strsV (pre.map (·.1)))) ∧ Blk W w.heap.size 78 (pathV false (.slice none 0 0) false)) ∧ Below w.heap.size w W)
    (fun _ _ _ => False)
    (OwnFrom.and (Own.from (fun s A B row hs hg hr => ⟨blkRow_own (β := List Txt) w.heap.size (w.heap.size + 1) 78 9 1 (fun pre => pre.length) (fun pre => strsV (pre.map (·.1))) (fun v => pathV (absB p) v false) s A B row hs.1 hg hr, blk_own (β := Unit) _ _ (fun _ => pathV false (.slice none 0 0) false) () A B row hs.2 hg hr⟩) _) (ownFrom_below (Nat.le_refl _) (by simp; omega)))
    (fun _ _ _ _ _ hs _ _ => hs)
    ⟨⟨⟨_, b1.alloc _, World.ownsRow_nil _ _ _ _⟩, (b0.alloc _).alloc _⟩, hB0⟩
    (fun x => { tmps := #[.string ⟨p.toArray⟩, undef, .pointer (some ⟨w.heap.size, 0, none⟩), .pointer (some ⟨w.heap.size + 1, 0, none⟩), .string ⟨x.1.toArray⟩, .string ⟨p.toArray⟩, .bool (absB p), .agg (pathV (absB p) (.slice none 0 0) false), .string ⟨p.toArray⟩,
      .func (.func 84) #[] #[.pointer (some ⟨w.heap.size + 1 + 1, 0, none⟩)], .string ⟨x.1.toArray⟩, undef, undef, undef, undef, undef, undef, undef, undef, undef, undef, undef, undef, undef, undef, undef, undef, undef], defers := [] }) ?assign ?body ?done ?stop
  case assign =>
    intro l x W K hK
    gi_wp2
    exact hK
  case body =>
    rintro l pre x W ⟨⟨⟨v, hv, hrow⟩, hr0⟩, hB⟩ hlen
    have hmx : Tryz.prog.follows .mixedOrders = true := by kernel_rfl
    gi_wp2
    refine wpIn_region_any hmx ?_
    try (change wpAnyIn _ _ _ _ _ _ _ _ _ (World.drew _))
    have hB1 : Below w.heap.size w W.drew := hB.drew
    have hv1 : Blk W.drew (w.heap.size + 1) 78 (pathV (absB p) v false) := hv
    have hr1 : Blk W.drew w.heap.size 78 (pathV false (.slice none 0 0) false) := hr0
    have hrow1 : W.drew.ownsRow w.heap.size 9 1 v pre.length (strsV (pre.map (·.1))) := hrow
    have hkeep : KeepsOthers W W.drew := KeepsOthers.drew _
    generalize W.drew = Wd at *
    clear hv hrow hr0 hB
    have hc := hv1.cell 1
    simp [pathV] at hc
    -- THE ORDERS
    refine wpAnyIn_ready (rs := [0, 2]) (by kernel_rfl) (by simp) ?_
    refine AllReadyIn.cons rfl (fun K hK => ?_) ?_
    · go_simp
      refine hK _ _ ?_
      clear hK K
      refine wpAnyIn_ready (rs := [1, 2]) (by kernel_rfl) (by simp) ?_
      refine AllReadyIn.cons rfl (fun K hK => ?_) ?_
      · go_simp
        refine hK _ _ ?_
        clear hK K
        refine wpAnyIn_ready (rs := [2]) (by kernel_rfl) (by simp) ?_
        refine AllReadyIn.cons rfl (fun K hK => ?_) ?_
        · go_simp
          refine hK _ _ ?_
          clear hK K
          refine wpAnyIn_ready (rs := [3]) (by kernel_rfl) (by simp) ?_
          refine AllReadyIn.cons rfl (fun K hK => ?_) ?_
          · go_simp
            gi_wp2_with (refine ⟨trivial, ?_⟩; gi_at_call 52; refine (CallsIn.inRound l (callsIn_wide.2 (Clone_any x.1 _ (Nat.le_trans x.2 (by decide))))).mono ?_; rintro e w2 ⟨rfl, hC⟩; have hc2 : w2.cell? ⟨w.heap.size + 1, 1, none⟩ = some v := (hC.cell (p := ⟨w.heap.size + 1, 1, none⟩) hv1.lt).trans hc; have hc4 : ∀ o, (w2.alloc o).cell? ⟨w.heap.size + 1, 1, none⟩ = some v := fun o => ((hv1.next hC).alloc o).cell 1; have hrow2 := own_keep hrow1 hC)
            refine wpAnyIn_ready (rs := [4]) (by kernel_rfl) (by simp) ?_
            refine AllReadyIn.cons rfl (fun K hK => ?_) ?_
            · go_simp
              refine hK _ _ ?_
              clear hK K
              refine wpAnyIn_ready (rs := [5]) (by kernel_rfl) (by simp) ?_
              refine AllReadyIn.cons rfl (fun K hK => ?_) ?_
              · refine stepIn_append_own rfl (.tmp 12) (.tmp 15) 76 9 rfl Tryz.underlying76 hsi hs0 hs1 hs2 rfl (by decide) w.heap.size ⟨w2.heap.size, 0, none⟩ 1 [.string ⟨x.1.toArray⟩] rfl rfl (hrow2.alloc _) rfl (cell_one_new _ _ _) (by simp [Value.oneCell']) (by unfold maxLen; omega) (by omega) (by have := hC.size; have := hB1.size; simp; omega) ?_
                intro v' w1 hown' hgrow
                have hr2 := (((hr1.next hC).alloc _).kept hgrow ((hr1.next hC).not_row (by decide) hrow2)).other (B2 := w.heap.size + 1) (i := 1) (by omega) v'
                obtain ⟨g', cap', rfl⟩ := ownsRow_succ hown'
                obtain ⟨h1, h2, h3, h4, h5⟩ := hv1.appended (i := 1) (by decide) hrow1 hB1.size (by omega) hC hown' hgrow
                have hc3 := h1.cell 1
                have hf3 := h1.frozen 1
                simp [pathV] at hc3
                refine hK _ _ ?_
                clear hK K
                refine wpAnyIn_ready (rs := [6]) (by kernel_rfl) (by simp) ?_
                refine AllReadyIn.cons rfl (fun K hK => ?_) ?_
                · go_simp
                  refine hK _ _ ?_
                  clear hK K
                  refine wpAnyIn_ready (rs := [7]) (by kernel_rfl) (by simp) ?_
                  refine AllReadyIn.cons rfl (fun K hK => ?_) ?_
                  · go_simp
                    refine hK _ _ ?_
                    clear hK K
                    refine wpAnyIn_done (by kernel_rfl) ?_ _
                    exact ⟨(hkeep.trans h4).from _, trivial, ⟨⟨_, by simpa [pathV] using h2, by simpa [strsV] using h3⟩, hr2⟩, hB1.trans h5⟩
                  exact AllReadyIn.nil
                exact AllReadyIn.nil
              exact AllReadyIn.nil
            exact AllReadyIn.nil
          exact AllReadyIn.nil
        exact AllReadyIn.nil
      refine AllReadyIn.cons rfl (fun K hK => ?_) ?_
      · go_simp
        refine hK _ _ ?_
        clear hK K
        refine wpAnyIn_ready (rs := [1, 3]) (by kernel_rfl) (by simp) ?_
        refine AllReadyIn.cons rfl (fun K hK => ?_) ?_
        · go_simp
          refine hK _ _ ?_
          clear hK K
          refine wpAnyIn_ready (rs := [3]) (by kernel_rfl) (by simp) ?_
          refine AllReadyIn.cons rfl (fun K hK => ?_) ?_
          · go_simp
            gi_wp2_with (refine ⟨trivial, ?_⟩; gi_at_call 52; refine (CallsIn.inRound l (callsIn_wide.2 (Clone_any x.1 _ (Nat.le_trans x.2 (by decide))))).mono ?_; rintro e w2 ⟨rfl, hC⟩; have hc2 : w2.cell? ⟨w.heap.size + 1, 1, none⟩ = some v := (hC.cell (p := ⟨w.heap.size + 1, 1, none⟩) hv1.lt).trans hc; have hc4 : ∀ o, (w2.alloc o).cell? ⟨w.heap.size + 1, 1, none⟩ = some v := fun o => ((hv1.next hC).alloc o).cell 1; have hrow2 := own_keep hrow1 hC)
            refine wpAnyIn_ready (rs := [4]) (by kernel_rfl) (by simp) ?_
            refine AllReadyIn.cons rfl (fun K hK => ?_) ?_
            · go_simp
              refine hK _ _ ?_
              clear hK K
              refine wpAnyIn_ready (rs := [5]) (by kernel_rfl) (by simp) ?_
              refine AllReadyIn.cons rfl (fun K hK => ?_) ?_
              · refine stepIn_append_own rfl (.tmp 12) (.tmp 15) 76 9 rfl Tryz.underlying76 hsi hs0 hs1 hs2 rfl (by decide) w.heap.size ⟨w2.heap.size, 0, none⟩ 1 [.string ⟨x.1.toArray⟩] rfl rfl (hrow2.alloc _) rfl (cell_one_new _ _ _) (by simp [Value.oneCell']) (by unfold maxLen; omega) (by omega) (by have := hC.size; have := hB1.size; simp; omega) ?_
                intro v' w1 hown' hgrow
                have hr2 := (((hr1.next hC).alloc _).kept hgrow ((hr1.next hC).not_row (by decide) hrow2)).other (B2 := w.heap.size + 1) (i := 1) (by omega) v'
                obtain ⟨g', cap', rfl⟩ := ownsRow_succ hown'
                obtain ⟨h1, h2, h3, h4, h5⟩ := hv1.appended (i := 1) (by decide) hrow1 hB1.size (by omega) hC hown' hgrow
                have hc3 := h1.cell 1
                have hf3 := h1.frozen 1
                simp [pathV] at hc3
                refine hK _ _ ?_
                clear hK K
                refine wpAnyIn_ready (rs := [6]) (by kernel_rfl) (by simp) ?_
                refine AllReadyIn.cons rfl (fun K hK => ?_) ?_
                · go_simp
                  refine hK _ _ ?_
                  clear hK K
                  refine wpAnyIn_ready (rs := [7]) (by kernel_rfl) (by simp) ?_
                  refine AllReadyIn.cons rfl (fun K hK => ?_) ?_
                  · go_simp
                    refine hK _ _ ?_
                    clear hK K
                    refine wpAnyIn_done (by kernel_rfl) ?_ _
                    exact ⟨(hkeep.trans h4).from _, trivial, ⟨⟨_, by simpa [pathV] using h2, by simpa [strsV] using h3⟩, hr2⟩, hB1.trans h5⟩
                  exact AllReadyIn.nil
                exact AllReadyIn.nil
              exact AllReadyIn.nil
            exact AllReadyIn.nil
          exact AllReadyIn.nil
        refine AllReadyIn.cons rfl (fun K hK => ?_) ?_
        · go_simp
          gi_wp2_with (refine ⟨trivial, ?_⟩; gi_at_call 52; refine (CallsIn.inRound l (callsIn_wide.2 (Clone_any x.1 _ (Nat.le_trans x.2 (by decide))))).mono ?_; rintro e w2 ⟨rfl, hC⟩; have hc2 : w2.cell? ⟨w.heap.size + 1, 1, none⟩ = some v := (hC.cell (p := ⟨w.heap.size + 1, 1, none⟩) hv1.lt).trans hc; have hc4 : ∀ o, (w2.alloc o).cell? ⟨w.heap.size + 1, 1, none⟩ = some v := fun o => ((hv1.next hC).alloc o).cell 1; have hrow2 := own_keep hrow1 hC)
          refine wpAnyIn_ready (rs := [1, 4]) (by kernel_rfl) (by simp) ?_
          refine AllReadyIn.cons rfl (fun K hK => ?_) ?_
          · go_simp
            refine hK _ _ ?_
            clear hK K
            refine wpAnyIn_ready (rs := [4]) (by kernel_rfl) (by simp) ?_
            refine AllReadyIn.cons rfl (fun K hK => ?_) ?_
            · go_simp
              refine hK _ _ ?_
              clear hK K
              refine wpAnyIn_ready (rs := [5]) (by kernel_rfl) (by simp) ?_
              refine AllReadyIn.cons rfl (fun K hK => ?_) ?_
              · refine stepIn_append_own rfl (.tmp 12) (.tmp 15) 76 9 rfl Tryz.underlying76 hsi hs0 hs1 hs2 rfl (by decide) w.heap.size ⟨w2.heap.size, 0, none⟩ 1 [.string ⟨x.1.toArray⟩] rfl rfl (hrow2.alloc _) rfl (cell_one_new _ _ _) (by simp [Value.oneCell']) (by unfold maxLen; omega) (by omega) (by have := hC.size; have := hB1.size; simp; omega) ?_
                intro v' w1 hown' hgrow
                have hr2 := (((hr1.next hC).alloc _).kept hgrow ((hr1.next hC).not_row (by decide) hrow2)).other (B2 := w.heap.size + 1) (i := 1) (by omega) v'
                obtain ⟨g', cap', rfl⟩ := ownsRow_succ hown'
                obtain ⟨h1, h2, h3, h4, h5⟩ := hv1.appended (i := 1) (by decide) hrow1 hB1.size (by omega) hC hown' hgrow
                have hc3 := h1.cell 1
                have hf3 := h1.frozen 1
                simp [pathV] at hc3
                refine hK _ _ ?_
                clear hK K
                refine wpAnyIn_ready (rs := [6]) (by kernel_rfl) (by simp) ?_
                refine AllReadyIn.cons rfl (fun K hK => ?_) ?_
                · go_simp
                  refine hK _ _ ?_
                  clear hK K
                  refine wpAnyIn_ready (rs := [7]) (by kernel_rfl) (by simp) ?_
                  refine AllReadyIn.cons rfl (fun K hK => ?_) ?_
                  · go_simp
                    refine hK _ _ ?_
                    clear hK K
                    refine wpAnyIn_done (by kernel_rfl) ?_ _
                    exact ⟨(hkeep.trans h4).from _, trivial, ⟨⟨_, by simpa [pathV] using h2, by simpa [strsV] using h3⟩, hr2⟩, hB1.trans h5⟩
                  exact AllReadyIn.nil
                exact AllReadyIn.nil
              exact AllReadyIn.nil
            exact AllReadyIn.nil
          refine AllReadyIn.cons rfl (fun K hK => ?_) ?_
          · go_simp
            refine hK _ _ ?_
            clear hK K
            refine wpAnyIn_ready (rs := [1]) (by kernel_rfl) (by simp) ?_
            refine AllReadyIn.cons rfl (fun K hK => ?_) ?_
            · go_simp
              refine hK _ _ ?_
              clear hK K
              refine wpAnyIn_ready (rs := [5]) (by kernel_rfl) (by simp) ?_
              refine AllReadyIn.cons rfl (fun K hK => ?_) ?_
              · refine stepIn_append_own rfl (.tmp 12) (.tmp 15) 76 9 rfl Tryz.underlying76 hsi hs0 hs1 hs2 rfl (by decide) w.heap.size ⟨w2.heap.size, 0, none⟩ 1 [.string ⟨x.1.toArray⟩] rfl rfl (hrow2.alloc _) rfl (cell_one_new _ _ _) (by simp [Value.oneCell']) (by unfold maxLen; omega) (by omega) (by have := hC.size; have := hB1.size; simp; omega) ?_
                intro v' w1 hown' hgrow
                have hr2 := (((hr1.next hC).alloc _).kept hgrow ((hr1.next hC).not_row (by decide) hrow2)).other (B2 := w.heap.size + 1) (i := 1) (by omega) v'
                obtain ⟨g', cap', rfl⟩ := ownsRow_succ hown'
                obtain ⟨h1, h2, h3, h4, h5⟩ := hv1.appended (i := 1) (by decide) hrow1 hB1.size (by omega) hC hown' hgrow
                have hc3 := h1.cell 1
                have hf3 := h1.frozen 1
                simp [pathV] at hc3
                refine hK _ _ ?_
                clear hK K
                refine wpAnyIn_ready (rs := [6]) (by kernel_rfl) (by simp) ?_
                refine AllReadyIn.cons rfl (fun K hK => ?_) ?_
                · go_simp
                  refine hK _ _ ?_
                  clear hK K
                  refine wpAnyIn_ready (rs := [7]) (by kernel_rfl) (by simp) ?_
                  refine AllReadyIn.cons rfl (fun K hK => ?_) ?_
                  · go_simp
                    refine hK _ _ ?_
                    clear hK K
                    refine wpAnyIn_done (by kernel_rfl) ?_ _
                    exact ⟨(hkeep.trans h4).from _, trivial, ⟨⟨_, by simpa [pathV] using h2, by simpa [strsV] using h3⟩, hr2⟩, hB1.trans h5⟩
                  exact AllReadyIn.nil
                exact AllReadyIn.nil
              exact AllReadyIn.nil
            exact AllReadyIn.nil
          exact AllReadyIn.nil
        exact AllReadyIn.nil
      exact AllReadyIn.nil
    refine AllReadyIn.cons rfl (fun K hK => ?_) ?_
    · go_simp
      refine hK _ _ ?_
      clear hK K
      refine wpAnyIn_ready (rs := [0, 3]) (by kernel_rfl) (by simp) ?_
      refine AllReadyIn.cons rfl (fun K hK => ?_) ?_
      · go_simp
        refine hK _ _ ?_
        clear hK K
        refine wpAnyIn_ready (rs := [1, 3]) (by kernel_rfl) (by simp) ?_
        refine AllReadyIn.cons rfl (fun K hK => ?_) ?_
        · go_simp
          refine hK _ _ ?_
          clear hK K
          refine wpAnyIn_ready (rs := [3]) (by kernel_rfl) (by simp) ?_
          refine AllReadyIn.cons rfl (fun K hK => ?_) ?_
          · go_simp
            gi_wp2_with (refine ⟨trivial, ?_⟩; gi_at_call 52; refine (CallsIn.inRound l (callsIn_wide.2 (Clone_any x.1 _ (Nat.le_trans x.2 (by decide))))).mono ?_; rintro e w2 ⟨rfl, hC⟩; have hc2 : w2.cell? ⟨w.heap.size + 1, 1, none⟩ = some v := (hC.cell (p := ⟨w.heap.size + 1, 1, none⟩) hv1.lt).trans hc; have hc4 : ∀ o, (w2.alloc o).cell? ⟨w.heap.size + 1, 1, none⟩ = some v := fun o => ((hv1.next hC).alloc o).cell 1; have hrow2 := own_keep hrow1 hC)
            refine wpAnyIn_ready (rs := [4]) (by kernel_rfl) (by simp) ?_
            refine AllReadyIn.cons rfl (fun K hK => ?_) ?_
            · go_simp
              refine hK _ _ ?_
              clear hK K
              refine wpAnyIn_ready (rs := [5]) (by kernel_rfl) (by simp) ?_
              refine AllReadyIn.cons rfl (fun K hK => ?_) ?_
              · refine stepIn_append_own rfl (.tmp 12) (.tmp 15) 76 9 rfl Tryz.underlying76 hsi hs0 hs1 hs2 rfl (by decide) w.heap.size ⟨w2.heap.size, 0, none⟩ 1 [.string ⟨x.1.toArray⟩] rfl rfl (hrow2.alloc _) rfl (cell_one_new _ _ _) (by simp [Value.oneCell']) (by unfold maxLen; omega) (by omega) (by have := hC.size; have := hB1.size; simp; omega) ?_
                intro v' w1 hown' hgrow
                have hr2 := (((hr1.next hC).alloc _).kept hgrow ((hr1.next hC).not_row (by decide) hrow2)).other (B2 := w.heap.size + 1) (i := 1) (by omega) v'
                obtain ⟨g', cap', rfl⟩ := ownsRow_succ hown'
                obtain ⟨h1, h2, h3, h4, h5⟩ := hv1.appended (i := 1) (by decide) hrow1 hB1.size (by omega) hC hown' hgrow
                have hc3 := h1.cell 1
                have hf3 := h1.frozen 1
                simp [pathV] at hc3
                refine hK _ _ ?_
                clear hK K
                refine wpAnyIn_ready (rs := [6]) (by kernel_rfl) (by simp) ?_
                refine AllReadyIn.cons rfl (fun K hK => ?_) ?_
                · go_simp
                  refine hK _ _ ?_
                  clear hK K
                  refine wpAnyIn_ready (rs := [7]) (by kernel_rfl) (by simp) ?_
                  refine AllReadyIn.cons rfl (fun K hK => ?_) ?_
                  · go_simp
                    refine hK _ _ ?_
                    clear hK K
                    refine wpAnyIn_done (by kernel_rfl) ?_ _
                    exact ⟨(hkeep.trans h4).from _, trivial, ⟨⟨_, by simpa [pathV] using h2, by simpa [strsV] using h3⟩, hr2⟩, hB1.trans h5⟩
                  exact AllReadyIn.nil
                exact AllReadyIn.nil
              exact AllReadyIn.nil
            exact AllReadyIn.nil
          exact AllReadyIn.nil
        refine AllReadyIn.cons rfl (fun K hK => ?_) ?_
        · go_simp
          gi_wp2_with (refine ⟨trivial, ?_⟩; gi_at_call 52; refine (CallsIn.inRound l (callsIn_wide.2 (Clone_any x.1 _ (Nat.le_trans x.2 (by decide))))).mono ?_; rintro e w2 ⟨rfl, hC⟩; have hc2 : w2.cell? ⟨w.heap.size + 1, 1, none⟩ = some v := (hC.cell (p := ⟨w.heap.size + 1, 1, none⟩) hv1.lt).trans hc; have hc4 : ∀ o, (w2.alloc o).cell? ⟨w.heap.size + 1, 1, none⟩ = some v := fun o => ((hv1.next hC).alloc o).cell 1; have hrow2 := own_keep hrow1 hC)
          refine wpAnyIn_ready (rs := [1, 4]) (by kernel_rfl) (by simp) ?_
          refine AllReadyIn.cons rfl (fun K hK => ?_) ?_
          · go_simp
            refine hK _ _ ?_
            clear hK K
            refine wpAnyIn_ready (rs := [4]) (by kernel_rfl) (by simp) ?_
            refine AllReadyIn.cons rfl (fun K hK => ?_) ?_
            · go_simp
              refine hK _ _ ?_
              clear hK K
              refine wpAnyIn_ready (rs := [5]) (by kernel_rfl) (by simp) ?_
              refine AllReadyIn.cons rfl (fun K hK => ?_) ?_
              · refine stepIn_append_own rfl (.tmp 12) (.tmp 15) 76 9 rfl Tryz.underlying76 hsi hs0 hs1 hs2 rfl (by decide) w.heap.size ⟨w2.heap.size, 0, none⟩ 1 [.string ⟨x.1.toArray⟩] rfl rfl (hrow2.alloc _) rfl (cell_one_new _ _ _) (by simp [Value.oneCell']) (by unfold maxLen; omega) (by omega) (by have := hC.size; have := hB1.size; simp; omega) ?_
                intro v' w1 hown' hgrow
                have hr2 := (((hr1.next hC).alloc _).kept hgrow ((hr1.next hC).not_row (by decide) hrow2)).other (B2 := w.heap.size + 1) (i := 1) (by omega) v'
                obtain ⟨g', cap', rfl⟩ := ownsRow_succ hown'
                obtain ⟨h1, h2, h3, h4, h5⟩ := hv1.appended (i := 1) (by decide) hrow1 hB1.size (by omega) hC hown' hgrow
                have hc3 := h1.cell 1
                have hf3 := h1.frozen 1
                simp [pathV] at hc3
                refine hK _ _ ?_
                clear hK K
                refine wpAnyIn_ready (rs := [6]) (by kernel_rfl) (by simp) ?_
                refine AllReadyIn.cons rfl (fun K hK => ?_) ?_
                · go_simp
                  refine hK _ _ ?_
                  clear hK K
                  refine wpAnyIn_ready (rs := [7]) (by kernel_rfl) (by simp) ?_
                  refine AllReadyIn.cons rfl (fun K hK => ?_) ?_
                  · go_simp
                    refine hK _ _ ?_
                    clear hK K
                    refine wpAnyIn_done (by kernel_rfl) ?_ _
                    exact ⟨(hkeep.trans h4).from _, trivial, ⟨⟨_, by simpa [pathV] using h2, by simpa [strsV] using h3⟩, hr2⟩, hB1.trans h5⟩
                  exact AllReadyIn.nil
                exact AllReadyIn.nil
              exact AllReadyIn.nil
            exact AllReadyIn.nil
          refine AllReadyIn.cons rfl (fun K hK => ?_) ?_
          · go_simp
            refine hK _ _ ?_
            clear hK K
            refine wpAnyIn_ready (rs := [1]) (by kernel_rfl) (by simp) ?_
            refine AllReadyIn.cons rfl (fun K hK => ?_) ?_
            · go_simp
              refine hK _ _ ?_
              clear hK K
              refine wpAnyIn_ready (rs := [5]) (by kernel_rfl) (by simp) ?_
              refine AllReadyIn.cons rfl (fun K hK => ?_) ?_
              · refine stepIn_append_own rfl (.tmp 12) (.tmp 15) 76 9 rfl Tryz.underlying76 hsi hs0 hs1 hs2 rfl (by decide) w.heap.size ⟨w2.heap.size, 0, none⟩ 1 [.string ⟨x.1.toArray⟩] rfl rfl (hrow2.alloc _) rfl (cell_one_new _ _ _) (by simp [Value.oneCell']) (by unfold maxLen; omega) (by omega) (by have := hC.size; have := hB1.size; simp; omega) ?_
                intro v' w1 hown' hgrow
                have hr2 := (((hr1.next hC).alloc _).kept hgrow ((hr1.next hC).not_row (by decide) hrow2)).other (B2 := w.heap.size + 1) (i := 1) (by omega) v'
                obtain ⟨g', cap', rfl⟩ := ownsRow_succ hown'
                obtain ⟨h1, h2, h3, h4, h5⟩ := hv1.appended (i := 1) (by decide) hrow1 hB1.size (by omega) hC hown' hgrow
                have hc3 := h1.cell 1
                have hf3 := h1.frozen 1
                simp [pathV] at hc3
                refine hK _ _ ?_
                clear hK K
                refine wpAnyIn_ready (rs := [6]) (by kernel_rfl) (by simp) ?_
                refine AllReadyIn.cons rfl (fun K hK => ?_) ?_
                · go_simp
                  refine hK _ _ ?_
                  clear hK K
                  refine wpAnyIn_ready (rs := [7]) (by kernel_rfl) (by simp) ?_
                  refine AllReadyIn.cons rfl (fun K hK => ?_) ?_
                  · go_simp
                    refine hK _ _ ?_
                    clear hK K
                    refine wpAnyIn_done (by kernel_rfl) ?_ _
                    exact ⟨(hkeep.trans h4).from _, trivial, ⟨⟨_, by simpa [pathV] using h2, by simpa [strsV] using h3⟩, hr2⟩, hB1.trans h5⟩
                  exact AllReadyIn.nil
                exact AllReadyIn.nil
              exact AllReadyIn.nil
            exact AllReadyIn.nil
          exact AllReadyIn.nil
        exact AllReadyIn.nil
      refine AllReadyIn.cons rfl (fun K hK => ?_) ?_
      · go_simp
        gi_wp2_with (refine ⟨trivial, ?_⟩; gi_at_call 52; refine (CallsIn.inRound l (callsIn_wide.2 (Clone_any x.1 _ (Nat.le_trans x.2 (by decide))))).mono ?_; rintro e w2 ⟨rfl, hC⟩; have hc2 : w2.cell? ⟨w.heap.size + 1, 1, none⟩ = some v := (hC.cell (p := ⟨w.heap.size + 1, 1, none⟩) hv1.lt).trans hc; have hc4 : ∀ o, (w2.alloc o).cell? ⟨w.heap.size + 1, 1, none⟩ = some v := fun o => ((hv1.next hC).alloc o).cell 1; have hrow2 := own_keep hrow1 hC)
        refine wpAnyIn_ready (rs := [0, 4]) (by kernel_rfl) (by simp) ?_
        refine AllReadyIn.cons rfl (fun K hK => ?_) ?_
        · go_simp
          refine hK _ _ ?_
          clear hK K
          refine wpAnyIn_ready (rs := [1, 4]) (by kernel_rfl) (by simp) ?_
          refine AllReadyIn.cons rfl (fun K hK => ?_) ?_
          · go_simp
            refine hK _ _ ?_
            clear hK K
            refine wpAnyIn_ready (rs := [4]) (by kernel_rfl) (by simp) ?_
            refine AllReadyIn.cons rfl (fun K hK => ?_) ?_
            · go_simp
              refine hK _ _ ?_
              clear hK K
              refine wpAnyIn_ready (rs := [5]) (by kernel_rfl) (by simp) ?_
              refine AllReadyIn.cons rfl (fun K hK => ?_) ?_
              · refine stepIn_append_own rfl (.tmp 12) (.tmp 15) 76 9 rfl Tryz.underlying76 hsi hs0 hs1 hs2 rfl (by decide) w.heap.size ⟨w2.heap.size, 0, none⟩ 1 [.string ⟨x.1.toArray⟩] rfl rfl (hrow2.alloc _) rfl (cell_one_new _ _ _) (by simp [Value.oneCell']) (by unfold maxLen; omega) (by omega) (by have := hC.size; have := hB1.size; simp; omega) ?_
                intro v' w1 hown' hgrow
                have hr2 := (((hr1.next hC).alloc _).kept hgrow ((hr1.next hC).not_row (by decide) hrow2)).other (B2 := w.heap.size + 1) (i := 1) (by omega) v'
                obtain ⟨g', cap', rfl⟩ := ownsRow_succ hown'
                obtain ⟨h1, h2, h3, h4, h5⟩ := hv1.appended (i := 1) (by decide) hrow1 hB1.size (by omega) hC hown' hgrow
                have hc3 := h1.cell 1
                have hf3 := h1.frozen 1
                simp [pathV] at hc3
                refine hK _ _ ?_
                clear hK K
                refine wpAnyIn_ready (rs := [6]) (by kernel_rfl) (by simp) ?_
                refine AllReadyIn.cons rfl (fun K hK => ?_) ?_
                · go_simp
                  refine hK _ _ ?_
                  clear hK K
                  refine wpAnyIn_ready (rs := [7]) (by kernel_rfl) (by simp) ?_
                  refine AllReadyIn.cons rfl (fun K hK => ?_) ?_
                  · go_simp
                    refine hK _ _ ?_
                    clear hK K
                    refine wpAnyIn_done (by kernel_rfl) ?_ _
                    exact ⟨(hkeep.trans h4).from _, trivial, ⟨⟨_, by simpa [pathV] using h2, by simpa [strsV] using h3⟩, hr2⟩, hB1.trans h5⟩
                  exact AllReadyIn.nil
                exact AllReadyIn.nil
              exact AllReadyIn.nil
            exact AllReadyIn.nil
          refine AllReadyIn.cons rfl (fun K hK => ?_) ?_
          · go_simp
            refine hK _ _ ?_
            clear hK K
            refine wpAnyIn_ready (rs := [1]) (by kernel_rfl) (by simp) ?_
            refine AllReadyIn.cons rfl (fun K hK => ?_) ?_
            · go_simp
              refine hK _ _ ?_
              clear hK K
              refine wpAnyIn_ready (rs := [5]) (by kernel_rfl) (by simp) ?_
              refine AllReadyIn.cons rfl (fun K hK => ?_) ?_
              · refine stepIn_append_own rfl (.tmp 12) (.tmp 15) 76 9 rfl Tryz.underlying76 hsi hs0 hs1 hs2 rfl (by decide) w.heap.size ⟨w2.heap.size, 0, none⟩ 1 [.string ⟨x.1.toArray⟩] rfl rfl (hrow2.alloc _) rfl (cell_one_new _ _ _) (by simp [Value.oneCell']) (by unfold maxLen; omega) (by omega) (by have := hC.size; have := hB1.size; simp; omega) ?_
                intro v' w1 hown' hgrow
                have hr2 := (((hr1.next hC).alloc _).kept hgrow ((hr1.next hC).not_row (by decide) hrow2)).other (B2 := w.heap.size + 1) (i := 1) (by omega) v'
                obtain ⟨g', cap', rfl⟩ := ownsRow_succ hown'
                obtain ⟨h1, h2, h3, h4, h5⟩ := hv1.appended (i := 1) (by decide) hrow1 hB1.size (by omega) hC hown' hgrow
                have hc3 := h1.cell 1
                have hf3 := h1.frozen 1
                simp [pathV] at hc3
                refine hK _ _ ?_
                clear hK K
                refine wpAnyIn_ready (rs := [6]) (by kernel_rfl) (by simp) ?_
                refine AllReadyIn.cons rfl (fun K hK => ?_) ?_
                · go_simp
                  refine hK _ _ ?_
                  clear hK K
                  refine wpAnyIn_ready (rs := [7]) (by kernel_rfl) (by simp) ?_
                  refine AllReadyIn.cons rfl (fun K hK => ?_) ?_
                  · go_simp
                    refine hK _ _ ?_
                    clear hK K
                    refine wpAnyIn_done (by kernel_rfl) ?_ _
                    exact ⟨(hkeep.trans h4).from _, trivial, ⟨⟨_, by simpa [pathV] using h2, by simpa [strsV] using h3⟩, hr2⟩, hB1.trans h5⟩
                  exact AllReadyIn.nil
                exact AllReadyIn.nil
              exact AllReadyIn.nil
            exact AllReadyIn.nil
          exact AllReadyIn.nil
        refine AllReadyIn.cons rfl (fun K hK => ?_) ?_
        · go_simp
          refine hK _ _ ?_
          clear hK K
          refine wpAnyIn_ready (rs := [0]) (by kernel_rfl) (by simp) ?_
          refine AllReadyIn.cons rfl (fun K hK => ?_) ?_
          · go_simp
            refine hK _ _ ?_
            clear hK K
            refine wpAnyIn_ready (rs := [1]) (by kernel_rfl) (by simp) ?_
            refine AllReadyIn.cons rfl (fun K hK => ?_) ?_
            · go_simp
              refine hK _ _ ?_
              clear hK K
              refine wpAnyIn_ready (rs := [5]) (by kernel_rfl) (by simp) ?_
              refine AllReadyIn.cons rfl (fun K hK => ?_) ?_
              · refine stepIn_append_own rfl (.tmp 12) (.tmp 15) 76 9 rfl Tryz.underlying76 hsi hs0 hs1 hs2 rfl (by decide) w.heap.size ⟨w2.heap.size, 0, none⟩ 1 [.string ⟨x.1.toArray⟩] rfl rfl (hrow2.alloc _) rfl (cell_one_new _ _ _) (by simp [Value.oneCell']) (by unfold maxLen; omega) (by omega) (by have := hC.size; have := hB1.size; simp; omega) ?_
                intro v' w1 hown' hgrow
                have hr2 := (((hr1.next hC).alloc _).kept hgrow ((hr1.next hC).not_row (by decide) hrow2)).other (B2 := w.heap.size + 1) (i := 1) (by omega) v'
                obtain ⟨g', cap', rfl⟩ := ownsRow_succ hown'
                obtain ⟨h1, h2, h3, h4, h5⟩ := hv1.appended (i := 1) (by decide) hrow1 hB1.size (by omega) hC hown' hgrow
                have hc3 := h1.cell 1
                have hf3 := h1.frozen 1
                simp [pathV] at hc3
                refine hK _ _ ?_
                clear hK K
                refine wpAnyIn_ready (rs := [6]) (by kernel_rfl) (by simp) ?_
                refine AllReadyIn.cons rfl (fun K hK => ?_) ?_
                · go_simp
                  refine hK _ _ ?_
                  clear hK K
                  refine wpAnyIn_ready (rs := [7]) (by kernel_rfl) (by simp) ?_
                  refine AllReadyIn.cons rfl (fun K hK => ?_) ?_
                  · go_simp
                    refine hK _ _ ?_
                    clear hK K
                    refine wpAnyIn_done (by kernel_rfl) ?_ _
                    exact ⟨(hkeep.trans h4).from _, trivial, ⟨⟨_, by simpa [pathV] using h2, by simpa [strsV] using h3⟩, hr2⟩, hB1.trans h5⟩
                  exact AllReadyIn.nil
                exact AllReadyIn.nil
              exact AllReadyIn.nil
            exact AllReadyIn.nil
          exact AllReadyIn.nil
        exact AllReadyIn.nil
      exact AllReadyIn.nil
    exact AllReadyIn.nil
  case done =>
    rintro D ys W hD hys ⟨⟨⟨v, hv, hrow⟩, hr⟩, hB⟩ hK
    have hlen : ys.length = (namesB p).length := by rw [← hys, List.length_map]
    rw [hys, hlen] at hrow
    clear hlen
    obtain ⟨av, cap, rfl⟩ : ∃ av cap, v = .slice av (namesB p).length cap := by
      rcases hrow.2 with ⟨rfl, h0⟩ | ⟨g, cap, cur, rfl, _⟩
      · exact ⟨none, 0, by rw [h0]⟩
      · exact ⟨_, _, rfl⟩
    have c0 := hv.cell 0
    have c1 := hv.cell 1
    have c2 := hv.cell 2
    have f2 := hv.frozen 2
    have d0 := hr.cell 0
    have d1 := hr.cell 1
    have d2 := hr.cell 2
    have e0 := hr.frozen 0
    have e1 := hr.frozen 1
    have e2 := hr.frozen 2
    simp [pathV] at c0 c1 c2 d0 d1 d2
    by_cases hn : 0 < (namesB p).length
    · have hS := Lib.hid (show Lib.hasSuffix p [47] = slashB p from by
        rw [endB_suffix]
        have : (namesB p).isEmpty = false := by rw [List.isEmpty_eq_false_iff]; intro e; rw [e] at hn; simp at hn
        simp [slashB, this])
      gi_wp2_with fail
      refine ⟨trivial, ?_⟩
      gi_at_call 68
      refine (callsIn_wide.2 (Tryz.strings_HasSuffix ⟨p.toArray⟩ ⟨#[47]⟩ _ (by simp [ByteArray.size]; omega))).mono ?_
      rintro e w3 ⟨rfl, rfl⟩
      rw [show Lib.hasSuffix (ByteArray.mk p.toArray).data.toList (ByteArray.mk #[47]).data.toList = slashB p from hS.out]
      gi_wp2
      obtain ⟨W', hW', hK', hb', hrow', hB'⟩ := four_set (a := absB p) (s := (slashB p)) hv hr hrow (by decide) hK
      rw [← hW']
      have hb2 := hb'.putObj (.deferred none) hK' rfl
      have g0 := hb2.cell 0
      have g1 := hb2.cell 1
      have g2 := hb2.cell 2
      simp [pathV] at g0 g1 g2
      refine ⟨by simp, .inl ⟨_, _, rfl, run_takeDeferred hK', ?_⟩⟩
      refine ⟨.agg (pathV (absB p) (.slice av (namesB p).length cap) (slashB p)), ?_, _, rfl, ownsRow_putObj hrow' _ hK' rfl, (hB.trans hB').trans (belowK_b (w := w) (Nat.le_refl _) _ D _ _ (by simp at hD; omega) hK' rfl rfl)⟩
      simp [results, Tryz.f48, go_sem, g0, g1, g2]
    · have hS := Lib.hid (show slashB p = false from by
        have : (namesB p).isEmpty = true := by rw [List.isEmpty_iff]; exact List.eq_nil_of_length_eq_zero (by omega)
        simp [slashB, this])
      gi_wp2
      refine ⟨trivial, ?_⟩
      gi_wp2
      obtain ⟨W', hW', hK', hb', hrow', hB'⟩ := four_set (a := absB p) (s := false) hv hr hrow (by decide) hK
      rw [← hW']
      have hb2 := hb'.putObj (.deferred none) hK' rfl
      have g0 := hb2.cell 0
      have g1 := hb2.cell 1
      have g2 := hb2.cell 2
      simp [pathV] at g0 g1 g2
      refine ⟨by simp, .inl ⟨_, _, rfl, run_takeDeferred hK', ?_⟩⟩
      refine ⟨.agg (pathV (absB p) (.slice av (namesB p).length cap) false), ?_, _, by rw [hS.out], ownsRow_putObj hrow' _ hK' rfl, (hB.trans hB').trans (belowK_b (w := w) (Nat.le_refl _) _ D _ _ (by simp at hD; omega) hK' rfl rfl)⟩
      simp [results, Tryz.f48, go_sem, g0, g1, g2]
  case stop =>
    rintro D c pre W _ _ h _
    exact h.elim
end Go.Proofs.YtkipplkaffpkjaaGreat

/- strings.Builder: a writing method's check, and WriteString. -/
set_option linter.unusedVariables false
set_option linter.unusedSimpArgs false
namespace Go.Proofs.YtkipplkaffpkjaaGreat
open Go.RowKit Go.Shelf

set_option maxHeartbeats 1000000 in
set_option maxRecDepth 100000 in
theorem copyCheck_used (b : Nat) (w : World) (h0 : w.cell? ⟨b, 0, none⟩ = some (.pointer (some ⟨b, 0, none⟩))) :
    Calls Tryz.prog 123 #[.pointer (some ⟨b, 0, none⟩)] w fun e w' => e = .returned (.tuple #[]) ∧ w' = w := by
  obtain ⟨j, hj, _⟩ := Option.map_eq_some_iff.1 (show (Tryz.prog.info? 140).map (·.size) = some 2 from by kernel_rfl)
  go_enter Tryz.func123, Tryz.ntmps123
  go_wp2
  rw [Lib.run_neq_ptr_same w _ Tryz.underlying138 hj]
  go_wp2
  go_end0
  exact ⟨rfl, rfl⟩

set_option maxHeartbeats 1000000 in
set_option maxRecDepth 100000 in
theorem copyCheck_fresh (b : Nat) (w : World) (h0 : w.cell? ⟨b, 0, none⟩ = some (.pointer none)) (hsh : w.shape? b = some (140, 2)) (hfz : w.frozen? ⟨b, 0, none⟩ = false) :
    Calls Tryz.prog 123 #[.pointer (some ⟨b, 0, none⟩)] w fun e w' => e = .returned (.tuple #[]) ∧ w' = w.setCell ⟨b, 0, none⟩ (.pointer (some ⟨b, 0, none⟩)) := by
  obtain ⟨j, hj, hjs⟩ := Option.map_eq_some_iff.1 (show (Tryz.prog.info? 140).map (·.size) = some 2 from by kernel_rfl)
  have hlies : liesAt Tryz.prog Tryz.prog.depth 140 (2 / Tryz.prog.cellsOf 140) 0 140 1 = true := by kernel_rfl
  go_enter Tryz.func123, Tryz.ntmps123
  go_wp2
  rw [Lib.run_to_unsafe w ⟨b, 0, none⟩ Tryz.underlying138 Tryz.underlying154 hj (by rw [hjs]; decide) hsh (Nat.zero_lt_succ 1)]
  simp only [Result.andThen]
  rw [Oper.upon_value]
  go_wp2
  rw [run_callFunc_extern Tryz.func126 (by kernel_rfl) (by kernel_rfl) (by kernel_rfl) (e := Extern.AbiNoEscape.same) (by kernel_rfl)]
  rw [Lib.run_noEscape]
  simp only [Result.andThen]
  rw [Oper.upon_value]
  go_wp2
  rw [Lib.run_from_unsafe w ⟨b, 0, none⟩ Tryz.underlying154 Tryz.underlying138 hj hsh hlies]
  simp only [Result.andThen]
  rw [Oper.upon_value]
  go_wp2
  go_end0
  exact ⟨rfl, rfl⟩

/-- A writing method's check: behind it the builder is used. -/
theorem copyCheck_any (B b : Nat) (bs : List Value) (w : World) (h : Lib.IsBuilder 140 5 B b bs w) :
    Calls Tryz.prog 123 #[.pointer (some ⟨b, 0, none⟩)] w fun e w' => e = .returned (.tuple #[]) ∧ (Lib.BuilderAt 140 5 B b (.pointer (some ⟨b, 0, none⟩)) bs w' ∧ Below B w w') := by
  rcases h with h | h
  · refine (copyCheck_fresh b w h.cell0 h.shape h.frozen0).mono ?_
    rintro e w' ⟨rfl, rfl⟩
    exact ⟨rfl, h.used _, (Below.refl B w).setCell (p := ⟨b, 0, none⟩) h.1 _⟩
  · refine (copyCheck_used b w h.cell0).mono ?_
    rintro e w' ⟨rfl, rfl⟩
    exact ⟨rfl, h, Below.refl B _⟩

theorem Tryz.infoByte : (Tryz.prog.info? 5).map (fun i => (i.zero, i.size, i.bytes)) = some (some (.int .u8 0), 1, 1) := by kernel_rfl

set_option maxHeartbeats 2000000 in
set_option maxRecDepth 100000 in
theorem WriteString_any (B b : Nat) (bs : List UInt8) (l : List UInt8) (w : World) (h : Lib.IsBuilder 140 5 B b (bytesV bs) w) (hlen : bs.length + l.length ≤ 1000000000) (hBw : B ≤ w.heap.size) :
    Calls Tryz.prog 116 #[.pointer (some ⟨b, 0, none⟩), .string ⟨l.toArray⟩] w fun e w' => e = .returned (.tuple #[.int .i64 l.length, .nilIface]) ∧ (Lib.IsBuilder 140 5 B b (bytesV (bs ++ l)) w' ∧ Below B w w') := by
  obtain ⟨i0, hi, hz0, hz1, hz2⟩ := info_parts Tryz.infoByte
  go_enter Tryz.func116, Tryz.ntmps116
  go_wp2_with fail
  refine (copyCheck_any B b _ _ h).mono ?_
  rintro e w1 ⟨rfl, h1, hb1⟩
  obtain ⟨hB, v, hbk, hown, hne⟩ := h1
  have c0 : w1.cell? ⟨b, 0, none⟩ = some (.pointer (some ⟨b, 0, none⟩)) := by rw [Lib.cell_of_heap hbk]; rfl
  have c1 : w1.cell? ⟨b, 1, none⟩ = some v := by rw [Lib.cell_of_heap hbk]; rfl
  go_wp2_with (at_builtin; refine Lib.wpList_append_own_string _ rfl _ _ 121 9 rfl B 5 i0 Tryz.underlying121 Tryz.underlying9 hi hz0 hz1 hz2 _ _ _ rfl hown ⟨l.toArray⟩ rfl ?c3 ?c4 ?c5 ?_)
  case c3 => simp [bytesV, ByteArray.size]; unfold maxLen; omega
  case c4 => simp [bytesV, ByteArray.size]; omega
  case c5 => have := hb1.size; omega
  intro v' w2 hown' hgrow _
  have hlt : b < w1.heap.size := by
    rcases Nat.lt_or_ge b w1.heap.size with h' | h'
    · exact h'
    · simp [Array.getElem?_eq_none h'] at hbk
  have hb2 : w2.heap[b]? = some (.cells #[.pointer (some ⟨b, 0, none⟩), v] 140 (0, 0)) := by
    rw [hgrow.block b hlt (fun e => hne e.symm)]
    exact hbk
  have d0 : w2.cell? ⟨b, 0, none⟩ = some (.pointer (some ⟨b, 0, none⟩)) := by rw [Lib.cell_of_heap hb2]; rfl
  have d1 : w2.cell? ⟨b, 1, none⟩ = some v := by rw [Lib.cell_of_heap hb2]; rfl
  have f1 : w2.frozen? ⟨b, 1, none⟩ = false := Lib.frozen_of_heap hb2 1
  obtain ⟨ao, n', cap, rfl⟩ : ∃ ao n' cap, v' = .slice ao n' cap := by
    rcases hown'.2 with ⟨hv, _⟩ | ⟨g, cap, cur, hv, _⟩
    · exact ⟨_, _, _, hv⟩
    · exact ⟨_, _, _, hv⟩
  go_wp2
  go_ret2
  refine ⟨by simp [ByteArray.size], .inr ?_, ?_⟩
  · exact Lib.BuilderAt.put (T := 140) (e := 5) hB hb2 (bs' := bytesV (bs ++ l)) (by simpa [bytesV, Lib.strCells, ByteArray.size] using hown') (by decide)
  · exact (hb1.grown hgrow (by have := hb1.size; omega) (fun k hk => (hown.lt k hk).1)).setCell (p := ⟨b, 1, none⟩) hB _

/-- A builder as 'var b strings.Builder' lays it. -/
theorem builder_new (w : World) : Lib.IsBuilder 140 5 w.heap.size w.heap.size (bytesV []) (w.alloc (.cells #[.pointer none, .slice none 0 0] 140)) := by
  refine .inl ⟨Nat.le_refl _, .slice none 0 0, World.alloc_heap_new w _, World.ownsRow_nil _ _ _ _, by simp [Value.ownBlock]⟩

theorem builder_String (B b : Nat) (l : List UInt8) (w : World) (h : Lib.IsBuilder 140 5 B b (bytesV l) w) (hBw : B ≤ w.heap.size) :
    Calls Tryz.prog 117 #[.pointer (some ⟨b, 0, none⟩)] w fun e w' => e = .returned (.string ⟨l.toArray⟩) ∧ Below B w w' := Tryz.Builder_String_any B b l w h hBw
end Go.Proofs.YtkipplkaffpkjaaGreat

/- Walks: Put, Join. -/
set_option linter.unusedVariables false
set_option linter.unusedSimpArgs false
namespace Go.Proofs.YtkipplkaffpkjaaGreat
open Go.RowKit

abbrev pathA (a : Bool) (v : Value) (s : Bool) : Array Value := #[.bool a, v, .bool s]
theorem str_cell {w : World} {b off : Nat} {l : List (List UInt8)} (hc : ∀ i (h : i < l.length), w.cell? ⟨b, off + i, none⟩ = some (.string ⟨l[i].toArray⟩)) {k : Nat} (h : k < l.length) : w.cell? ⟨b, off + k, none⟩ = some (.string ⟨l[k].toArray⟩) := hc k h
theorem interB_next (ns : List (List UInt8)) (k : Nat) (h : k < ns.length) : interB (ns.take (k + 1)) = if k = 0 then ns[k] else interB (ns.take k) ++ 47 :: ns[k] := by
  rw [List.take_succ_eq_append_getElem h, interB_snoc]
  by_cases hk : k = 0
  · subst hk; simp
  · rw [if_neg hk, if_neg (by cases ns <;> cases k <;> simp_all)]
theorem putB_inter (a s : Bool) (ns : List (List UInt8)) : (interB ns).length ≤ (putB a ns s).length := by simp [putB]; omega
theorem putB_no (a s : Bool) (ns : List (List UInt8)) (h : s = false ∨ ns = []) : putB a ns s = (if a then [47] else []) ++ interB ns := by
  rcases h with rfl | rfl <;> simp [putB]
theorem putB_yes (a : Bool) (ns : List (List UInt8)) (h : 0 < ns.length) : putB a ns true = (if a then [47] else []) ++ interB ns ++ [47] := by
  have : ns.isEmpty = false := by rw [List.isEmpty_eq_false_iff]; rintro rfl; simp at h
  simp [putB, this]

set_option maxRecDepth 100000 in
set_option maxHeartbeats 4000000 in
theorem Put_true (s : Bool) (ns : List (List UInt8)) (v : Value) (w : World) (hv : Strs w v ns) (hl : ns.length ≤ 1000000) (hj : (interB ns).length ≤ 1000000) :
    Calls Tryz.prog 111 #[.agg (pathA true v s)] w fun e w' => e = .returned (.string ⟨(putB true ns s).toArray⟩) ∧ Below w.heap.size w w' := by
  obtain ⟨ad, ca, rfl, hm, HA0⟩ := hv
  have HA := Lib.hid HA0
  have HJ := Lib.hid hj
  clear HA0 hm hj
  have b0 := Blk.new w 78 (pathA true (.slice ad ns.length ca) s)
  have bb := builder_new (w.alloc (.cells (pathA true (.slice ad ns.length ca) s) 78))
  rw [World.size_alloc] at bb
  have hB0 : Below (w.heap.size + 1) (w.alloc (.cells (pathA true (.slice ad ns.length ca) s) 78)) ((w.alloc (.cells (pathA true (.slice ad ns.length ca) s) 78)).alloc (.cells #[.pointer none, .slice none 0 0] 140)) := (Below.refl _ _).alloc (by simp) _
  have hW0 : Below w.heap.size w (w.alloc (.cells (pathA true (.slice ad ns.length ca) s) 78)) := (Below.refl _ w).alloc (Nat.le_refl _) _
  have hs1 : (w.alloc (.cells (pathA true (.slice ad ns.length ca) s) 78)).heap.size = w.heap.size + 1 := by simp
  go_enter Tryz.func111, Tryz.ntmps111
  go_wp2_with fail
  refine (WriteString_any (w.heap.size + 1) (w.heap.size + 1) [] [47] _ bb (by decide) (by simp)).mono ?_
  rintro e w1 ⟨rfl, hb, h1⟩
  replace h1 := hB0.trans h1
  have bz : w1.cell? ⟨w.heap.size, 1, none⟩ = some (.slice ad ns.length ca) := (b0.below h1 (by simp)).cell 1
  go_wp2
  go_loopw [12] (fun i wr => ∃ k : Nat, k ≤ ns.length ∧ i = .int .i64 k ∧ Lib.IsBuilder 140 5 (w.heap.size + 1) (w.heap.size + 1) (bytesV ([47] ++ interB (ns.take k))) wr ∧ Below (w.heap.size + 1) (w.alloc (.cells (pathA true (.slice ad ns.length ca) s) 78)) wr) (fun i _ => ns.length - (intOf i).toNat)
  case atStart => exact ⟨0, Nat.zero_le _, rfl, by simpa [interB] using hb, h1⟩
  case round =>
    obtain ⟨k, hk, rfl, hbl, hBl⟩ := hrel
    have hsz := hBl.size
    rw [World.size_alloc] at hsz
    have hlen := Nat.le_trans (interB_take ns k) HJ.out
    by_cases hlt : k < ns.length
    · obtain ⟨ba, oa, rfl, hba, hca⟩ := HA.out (by omega)
      have c1 : wr.cell? ⟨ba, oa + k, none⟩ = some (.string ⟨ns[k].toArray⟩) := (hBl.cell (p := ⟨ba, oa + k, none⟩) (by simp; omega)).trans ((hW0.cell (p := ⟨ba, oa + k, none⟩) hba).trans (hca k hlt))
      clear hca
      have HN := Lib.hid (interB_next ns k hlt)
      have hlen2 := Nat.le_trans (interB_take ns (k + 1)) HJ.out
      by_cases h0 : 0 < k
      · have hkz : Hid (¬ k = 0) := by (show ¬ _); omega
        have hN2 := Lib.hid (HN.out.trans (if_neg hkz.out))
        rw [hN2.out, List.length_append, List.length_cons] at hlen2
        go_wp2_with fail
        refine (WriteString_any (w.heap.size + 1) (w.heap.size + 1) _ [47] _ hbl (by simp; omega) (by omega)).mono ?_
        rintro e w2 ⟨rfl, hb2, hB2⟩
        have c2 : w2.cell? ⟨ba, oa + k, none⟩ = some (.string ⟨ns[k].toArray⟩) := (hB2.cell (p := ⟨ba, oa + k, none⟩) (by simp; omega)).trans c1
        have hs2 := hB2.size
        clear c1
        go_wp2_with fail
        refine (WriteString_any (w.heap.size + 1) (w.heap.size + 1) _ ns[k] _ hb2 (by simp; omega) (by omega)).mono ?_
        rintro e w3 ⟨rfl, hb3, hB3⟩
        go_wp2
        go_roundw
        case rel => exact ⟨k + 1, by omega, by go_num, by rw [hN2.out]; simpa using hb3, (hBl.trans hB2).trans hB3⟩
        case measure => simp [intOf]; omega
      · obtain rfl : k = 0 := by omega
        have hN2 := Lib.hid (HN.out.trans (if_pos rfl))
        have c0 : wr.cell? ⟨ba, oa, none⟩ = some (.string ⟨ns[0].toArray⟩) := c1
        clear c1
        rw [hN2.out] at hlen2
        go_wp2_with fail
        refine (WriteString_any (w.heap.size + 1) (w.heap.size + 1) _ ns[0] _ hbl (by simp [interB]; omega) (by omega)).mono ?_
        rintro e w3 ⟨rfl, hb3, hB3⟩
        go_wp2
        go_roundw
        case rel => exact ⟨1, by omega, by go_num, by rw [hN2.out]; simpa [interB] using hb3, hBl.trans hB3⟩
        case measure => simp [intOf]; omega
    · obtain rfl : k = ns.length := by omega
      rw [List.take_length] at hbl hlen
      have bx := b0.below hBl (by simp)
      have x1 := bx.cell 1
      have x2 := bx.cell 2
      simp at x1 x2
      cases s
      · have HP := Lib.hid (putB_no true false ns (.inl rfl))
        go_wp2_with fail
        refine (builder_String (w.heap.size + 1) (w.heap.size + 1) _ _ hbl (by omega)).mono ?_
        rintro e w3 ⟨rfl, hB3⟩
        go_wp2
        go_ret
        exact ⟨ret_str (by rw [HP.out]; rfl), hW0.trans ((hBl.trans hB3).mono (by simp))⟩
      · by_cases hn : 0 < ns.length
        · have HP := Lib.hid (putB_yes true ns hn)
          go_wp2_with fail
          refine (WriteString_any (w.heap.size + 1) (w.heap.size + 1) _ [47] _ hbl (by simp; omega) (by omega)).mono ?_
          rintro e w2 ⟨rfl, hb2, hB2⟩
          have hs2 := hB2.size
          go_wp2_with fail
          refine (builder_String (w.heap.size + 1) (w.heap.size + 1) _ _ hb2 (by omega)).mono ?_
          rintro e w3 ⟨rfl, hB3⟩
          go_wp2
          go_ret
          exact ⟨ret_str (by rw [HP.out]; rfl), hW0.trans (((hBl.trans hB2).trans hB3).mono (by simp))⟩
        · have HP := Lib.hid (putB_no true true ns (.inr (List.eq_nil_of_length_eq_zero (by omega))))
          go_wp2_with fail
          refine (builder_String (w.heap.size + 1) (w.heap.size + 1) _ _ hbl (by omega)).mono ?_
          rintro e w3 ⟨rfl, hB3⟩
          go_wp2
          go_ret
          exact ⟨ret_str (by rw [HP.out]; rfl), hW0.trans ((hBl.trans hB3).mono (by simp))⟩

set_option maxRecDepth 100000 in
set_option maxHeartbeats 4000000 in
theorem Put_false (s : Bool) (ns : List (List UInt8)) (v : Value) (w : World) (hv : Strs w v ns) (hl : ns.length ≤ 1000000) (hj : (interB ns).length ≤ 1000000) :
    Calls Tryz.prog 111 #[.agg (pathA false v s)] w fun e w' => e = .returned (.string ⟨(putB false ns s).toArray⟩) ∧ Below w.heap.size w w' := by
  obtain ⟨ad, ca, rfl, hm, HA0⟩ := hv
  have HA := Lib.hid HA0
  have HJ := Lib.hid hj
  clear HA0 hm hj
  have b0 := Blk.new w 78 (pathA false (.slice ad ns.length ca) s)
  have bb := builder_new (w.alloc (.cells (pathA false (.slice ad ns.length ca) s) 78))
  rw [World.size_alloc] at bb
  have hB0 : Below (w.heap.size + 1) (w.alloc (.cells (pathA false (.slice ad ns.length ca) s) 78)) ((w.alloc (.cells (pathA false (.slice ad ns.length ca) s) 78)).alloc (.cells #[.pointer none, .slice none 0 0] 140)) := (Below.refl _ _).alloc (by simp) _
  have hW0 : Below w.heap.size w (w.alloc (.cells (pathA false (.slice ad ns.length ca) s) 78)) := (Below.refl _ w).alloc (Nat.le_refl _) _
  have hs1 : (w.alloc (.cells (pathA false (.slice ad ns.length ca) s) 78)).heap.size = w.heap.size + 1 := by simp
  go_enter Tryz.func111, Tryz.ntmps111
  have h1 := hB0
  have hb := bb
  go_wp2
  go_loopw [12] (fun i wr => ∃ k : Nat, k ≤ ns.length ∧ i = .int .i64 k ∧ Lib.IsBuilder 140 5 (w.heap.size + 1) (w.heap.size + 1) (bytesV ([] ++ interB (ns.take k))) wr ∧ Below (w.heap.size + 1) (w.alloc (.cells (pathA false (.slice ad ns.length ca) s) 78)) wr) (fun i _ => ns.length - (intOf i).toNat)
  case atStart => exact ⟨0, Nat.zero_le _, rfl, by simpa [interB] using hb, h1⟩
  case round =>
    obtain ⟨k, hk, rfl, hbl, hBl⟩ := hrel
    have hsz := hBl.size
    rw [World.size_alloc] at hsz
    have hlen := Nat.le_trans (interB_take ns k) HJ.out
    by_cases hlt : k < ns.length
    · obtain ⟨ba, oa, rfl, hba, hca⟩ := HA.out (by omega)
      have c1 : wr.cell? ⟨ba, oa + k, none⟩ = some (.string ⟨ns[k].toArray⟩) := (hBl.cell (p := ⟨ba, oa + k, none⟩) (by simp; omega)).trans ((hW0.cell (p := ⟨ba, oa + k, none⟩) hba).trans (hca k hlt))
      clear hca
      have HN := Lib.hid (interB_next ns k hlt)
      have hlen2 := Nat.le_trans (interB_take ns (k + 1)) HJ.out
      by_cases h0 : 0 < k
      · have hkz : Hid (¬ k = 0) := by (show ¬ _); omega
        have hN2 := Lib.hid (HN.out.trans (if_neg hkz.out))
        rw [hN2.out, List.length_append, List.length_cons] at hlen2
        go_wp2_with fail
        refine (WriteString_any (w.heap.size + 1) (w.heap.size + 1) _ [47] _ hbl (by simp; omega) (by omega)).mono ?_
        rintro e w2 ⟨rfl, hb2, hB2⟩
        have c2 : w2.cell? ⟨ba, oa + k, none⟩ = some (.string ⟨ns[k].toArray⟩) := (hB2.cell (p := ⟨ba, oa + k, none⟩) (by simp; omega)).trans c1
        have hs2 := hB2.size
        clear c1
        go_wp2_with fail
        refine (WriteString_any (w.heap.size + 1) (w.heap.size + 1) _ ns[k] _ hb2 (by simp; omega) (by omega)).mono ?_
        rintro e w3 ⟨rfl, hb3, hB3⟩
        go_wp2
        go_roundw
        case rel => exact ⟨k + 1, by omega, by go_num, by rw [hN2.out]; simpa using hb3, (hBl.trans hB2).trans hB3⟩
        case measure => simp [intOf]; omega
      · obtain rfl : k = 0 := by omega
        have hN2 := Lib.hid (HN.out.trans (if_pos rfl))
        have c0 : wr.cell? ⟨ba, oa, none⟩ = some (.string ⟨ns[0].toArray⟩) := c1
        clear c1
        rw [hN2.out] at hlen2
        go_wp2_with fail
        refine (WriteString_any (w.heap.size + 1) (w.heap.size + 1) _ ns[0] _ hbl (by simp [interB]; omega) (by omega)).mono ?_
        rintro e w3 ⟨rfl, hb3, hB3⟩
        go_wp2
        go_roundw
        case rel => exact ⟨1, by omega, by go_num, by rw [hN2.out]; simpa [interB] using hb3, hBl.trans hB3⟩
        case measure => simp [intOf]; omega
    · obtain rfl : k = ns.length := by omega
      rw [List.take_length] at hbl hlen
      have bx := b0.below hBl (by simp)
      have x1 := bx.cell 1
      have x2 := bx.cell 2
      simp at x1 x2
      cases s
      · have HP := Lib.hid (putB_no false false ns (.inl rfl))
        go_wp2_with fail
        refine (builder_String (w.heap.size + 1) (w.heap.size + 1) _ _ hbl (by omega)).mono ?_
        rintro e w3 ⟨rfl, hB3⟩
        go_wp2
        go_ret
        exact ⟨ret_str (by rw [HP.out]; rfl), hW0.trans ((hBl.trans hB3).mono (by simp))⟩
      · by_cases hn : 0 < ns.length
        · have HP := Lib.hid (putB_yes false ns hn)
          go_wp2_with fail
          refine (WriteString_any (w.heap.size + 1) (w.heap.size + 1) _ [47] _ hbl (by simp; omega) (by omega)).mono ?_
          rintro e w2 ⟨rfl, hb2, hB2⟩
          have hs2 := hB2.size
          go_wp2_with fail
          refine (builder_String (w.heap.size + 1) (w.heap.size + 1) _ _ hb2 (by omega)).mono ?_
          rintro e w3 ⟨rfl, hB3⟩
          go_wp2
          go_ret
          exact ⟨ret_str (by rw [HP.out]; rfl), hW0.trans (((hBl.trans hB2).trans hB3).mono (by simp))⟩
        · have HP := Lib.hid (putB_no false true ns (.inr (List.eq_nil_of_length_eq_zero (by omega))))
          go_wp2_with fail
          refine (builder_String (w.heap.size + 1) (w.heap.size + 1) _ _ hbl (by omega)).mono ?_
          rintro e w3 ⟨rfl, hB3⟩
          go_wp2
          go_ret
          exact ⟨ret_str (by rw [HP.out]; rfl), hW0.trans ((hBl.trans hB3).mono (by simp))⟩

theorem Put_any (a s : Bool) (ns : List (List UInt8)) (v : Value) (w : World) (hv : Strs w v ns) (hl : ns.length ≤ 1000000) (hj : (interB ns).length ≤ 1000000) :
    Calls Tryz.prog 111 #[.agg (pathA a v s)] w fun e w' => e = .returned (.string ⟨(putB a ns s).toArray⟩) ∧ Below w.heap.size w w' := by
  cases a
  · exact Put_false s ns v w hv hl hj
  · exact Put_true s ns v w hv hl hj

theorem Join_any (ns : List (List UInt8)) (v : Value) (w : World) (hv : Strs w v ns) (hl : ns.length ≤ 1000000) (hj : (interB ns).length ≤ 1000000) :
    Calls Tryz.prog 101 #[v] w fun e w' => e = .returned (.string ⟨(joinB ns).toArray⟩) ∧ Below w.heap.size w w' := by
  have hv2 := hv
  obtain ⟨ad, ca, rfl, hm, HA0⟩ := hv
  clear HA0
  go_enter Tryz.func101, Tryz.ntmps101
  go_wp2_with fail; refine (Put_any true false ns _ _ hv2 hl hj).mono ?_; rintro e w' ⟨rfl, hB⟩
  go_wp2
  go_ret
  exact ⟨ret_str (joinB_put ns), hB⟩
end Go.Proofs.YtkipplkaffpkjaaGreat

/- Walks: the search for a name, by halves. -/
set_option linter.unusedVariables false
set_option linter.unusedSimpArgs false
namespace Go.Proofs.YtkipplkaffpkjaaGreat
open Go.RowKit

theorem hold_any (e : Ent) (n : List UInt8) (w : World) :
    Calls Tryz.prog 103 #[.agg (entC e), .string ⟨n.toArray⟩] w fun x w' => x = .returned (.int .i64 (Lib.compareBytes e.1 n)) ∧ Below w.heap.size w w' := by
  go_enter Tryz.func103, Tryz.ntmps103
  have hb : Below w.heap.size w (w.alloc (.cells (entC e) 74)) := (Below.refl _ w).alloc (Nat.le_refl _) _
  go_wp2_with fail; refine (Tryz.strings_Compare _ _ _).mono ?_; rintro e w' ⟨rfl, rfl⟩
  go_wp2
  go_ret
  exact ⟨rfl, hb⟩

set_option maxHeartbeats 2000000 in
theorem halves_any (l : List Ent) (n : List UInt8) (v : Value) (w : World) (hv : Ents w v l) (hs : sortP l) (hl : l.length ≤ 1000000) :
    Calls Tryz.prog 102 #[v, .string ⟨n.toArray⟩, .func (.func 103) #[] #[]] w fun e w' =>
      ∃ lo : Nat, e = .returned (.tuple #[.int .i64 lo, .bool (hasB l n)]) ∧ SrchP l n lo ∧ Below w.heap.size w w' := by
  obtain ⟨a, ca, rfl, hc, hm, HA0⟩ := hv
  unfold maxLen at hm
  have HA := Lib.hid HA0
  have HS := Lib.hid hs
  clear HA0 hs
  go_enter Tryz.func102, Tryz.ntmps102
  go_wp2
  go_loopg [9, 10] l.length (fun g s9 s10 wr => ∃ lo hi : Nat, s9 = .int .i64 lo ∧ s10 = .int .i64 hi ∧ lo ≤ hi ∧ hi ≤ l.length ∧ hi - lo ≤ g ∧ Below w.heap.size w wr ∧
    Aside ((∀ t (ht : t < l.length), t < lo → ltB l[t].1 n = true) ∧ (∀ t (ht : t < l.length), hi ≤ t → ltB l[t].1 n = false)))
  case atStart => exact ⟨0, l.length, rfl, rfl, Nat.zero_le _, Nat.le_refl _, by omega, Below.refl _ _, ⟨fun t ht h => by omega, fun t ht h => by omega⟩⟩
  case round =>
    obtain ⟨lo, hi, rfl, rfl, hlh, hin, hg, hbw, I⟩ := hrel
    by_cases hlt : lo < hi
    · obtain ⟨b, o, rfl, hb, hcl⟩ := HA.out (by omega)
      have hmid : (lo + hi) / 2 < l.length := by omega
      have c1 : wr.cell? ⟨b, o + (lo + hi) / 2 * 2, none⟩ = some (.string ⟨l[(lo + hi) / 2].1.toArray⟩) := (hbw.cell (p := ⟨b, o + (lo + hi) / 2 * 2, none⟩) hb).trans (hcl _ hmid).1
      have c2 : wr.cell? ⟨b, o + (lo + hi) / 2 * 2 + 1, none⟩ = some (.int .i64 l[(lo + hi) / 2].2) := (hbw.cell (p := ⟨b, o + (lo + hi) / 2 * 2 + 1, none⟩) hb).trans (hcl _ hmid).2
      clear hcl
      generalize hy : l[(lo + hi) / 2] = y at c1 c2
      have Y := Lib.hid hy
      clear hy
      have CM := Lib.hid (cmp_lt y.1 n)
      go_wp2_with fail
      refine (hold_any y n _).mono ?_
      rintro e w2 ⟨rfl, b2⟩
      replace hbw := hbw.trans (b2.mono hbw.size)
      cases hl1 : ltB y.1 n
      · have hcm : decide (Lib.compareBytes y.1 n < 0) = false := CM.out.trans hl1
        have I2 := Lib.hid (show (∀ t (ht : t < l.length), t < lo → ltB l[t].1 n = true) ∧ (∀ t (ht : t < l.length), (lo + hi) / 2 ≤ t → ltB l[t].1 n = false) from ⟨I.out.1, fun t ht h => by
          rw [Bool.eq_false_iff]; intro h2
          have := sort_upto HS.out ht h h2
          rw [Y.out, hl1] at this; cases this⟩)
        go_wp2
        go_roundg ((lo + hi) / 2 - lo)
        case measure => omega
        case rel => exact ⟨lo, (lo + hi) / 2, rfl, by rw [show ((lo : Int) + (hi : Int)) / 2 = (((lo + hi) / 2 : Nat) : Int) by omega], by omega, by omega, Nat.le_refl _, hbw, I2.out⟩
      · have hcm : decide (Lib.compareBytes y.1 n < 0) = true := CM.out.trans hl1
        have I2 := Lib.hid (show (∀ t (ht : t < l.length), t < (lo + hi) / 2 + 1 → ltB l[t].1 n = true) ∧ (∀ t (ht : t < l.length), hi ≤ t → ltB l[t].1 n = false) from ⟨fun t ht h => sort_upto HS.out hmid (by omega) (by rw [Y.out]; exact hl1), I.out.2⟩)
        go_wp2
        go_roundg (hi - ((lo + hi) / 2 + 1))
        case measure => omega
        case rel => exact ⟨(lo + hi) / 2 + 1, hi, by rw [show ((lo : Int) + (hi : Int)) / 2 + 1 = (((lo + hi) / 2 + 1 : Nat) : Int) by omega], rfl, by omega, hin, Nat.le_refl _, hbw, I2.out⟩
    · obtain rfl : hi = lo := by omega
      have SE := Lib.hid (srch_end HS.out hin I.out.1 I.out.2)
      by_cases hn : hi < l.length
      · obtain ⟨b, o, rfl, hb, hcl⟩ := HA.out (by omega)
        have c1 : wr.cell? ⟨b, o + hi * 2, none⟩ = some (.string ⟨l[hi].1.toArray⟩) := (hbw.cell (p := ⟨b, o + hi * 2, none⟩) hb).trans (hcl _ hn).1
        have c2 : wr.cell? ⟨b, o + hi * 2 + 1, none⟩ = some (.int .i64 l[hi].2) := (hbw.cell (p := ⟨b, o + hi * 2 + 1, none⟩) hb).trans (hcl _ hn).2
        clear hcl
        have SH : Hid (hasB l n = (l[hi].1 == n)) := by (show _ = _); rw [SE.out.2, dif_pos hn]
        generalize hy : l[hi] = y at c1 c2 SH
        clear hy
        have CM := Lib.hid (cmp_eq0 y.1 n)
        go_wp2_with fail
        refine (hold_any y n _).mono ?_
        rintro e w2 ⟨rfl, b2⟩
        replace hbw := hbw.trans (b2.mono hbw.size)
        go_wp2
        go_ret2
        exact ⟨hi, by rw [SH.out, ← CM.out]; rfl, SE.out.1, hbw⟩
      · have SH : Hid (hasB l n = false) := by (show _ = _); rw [SE.out.2, dif_neg hn]
        go_wp2
        go_ret2
        exact ⟨hi, by rw [SH.out]; rfl, SE.out.1, hbw⟩

theorem search_any (l : List Ent) (n : List UInt8) (v : Value) (w : World) (hv : Ents w v l) (hs : sortP l) (hl : l.length ≤ 1000000) :
    Calls Tryz.prog 97 #[v, .string ⟨n.toArray⟩] w fun e w' =>
      ∃ lo : Nat, e = .returned (.tuple #[.int .i64 lo, .bool (hasB l n)]) ∧ SrchP l n lo ∧ Below w.heap.size w w' := by
  obtain ⟨a, ca, rfl, hc, hm, HA0⟩ := id hv
  clear HA0
  go_enter Tryz.func97, Tryz.ntmps97
  go_wp2_with fail; refine (halves_any l n _ _ hv hs hl).mono ?_; rintro e w1 ⟨lo, rfl, hS, hb⟩
  go_wp2
  go_ret2
  exact ⟨lo, rfl, hS, hb⟩
end Go.Proofs.YtkipplkaffpkjaaGreat

/- Walks: Find; what stands ahead of a name's place, and behind it. -/
set_option linter.unusedVariables false
set_option linter.unusedSimpArgs false
namespace Go.Proofs.YtkipplkaffpkjaaGreat
open Go.RowKit

theorem Find_any (l : List Ent) (n : List UInt8) (v : Value) (w : World) (hv : Ents w v l) (hs : sortP l) (hl : l.length ≤ 1000000) :
    Calls Tryz.prog 89 #[v, .string ⟨n.toArray⟩] w fun e w' => e = .returned (.tuple #[.int .i64 (numB l n), .bool (hasB l n)]) ∧ Below w.heap.size w w' := by
  obtain ⟨a, ca, rfl, hc, hm, HA0⟩ := id hv
  unfold maxLen at hm
  have HA := Lib.hid HA0
  clear HA0
  go_enter Tryz.func89, Tryz.ntmps89
  go_wp2_with fail; refine (search_any l n _ _ hv hs hl).mono ?_; rintro e w1 ⟨lo, rfl, hS, hb⟩
  cases hh : hasB l n
  · have HF := Lib.hid (find_none hh)
    go_wp2
    go_ret2
    exact ⟨by rw [HF.out.1, HF.out.2]; rfl, hb⟩
  · obtain ⟨hk, hn⟩ := find_srch hS hh
    have HN := Lib.hid hn
    clear hn
    obtain ⟨b, o, rfl, hbl, hcl⟩ := HA.out (by omega)
    have c2 : w1.cell? ⟨b, o + lo * 2 + 1, none⟩ = some (.int .i64 l[lo].2) := (hb.cell (p := ⟨b, o + lo * 2 + 1, none⟩) hbl).trans (hcl _ hk).2
    clear hcl hS
    go_wp2
    go_ret2
    exact ⟨by rw [HN.out, hh]; rfl, hb⟩

def TwoEnts (w : World) (A B : List Ent) (e : Ending) (w' : World) : Prop := ∃ x y, e = .returned (.tuple #[x, y]) ∧ Ents w' x A ∧ Ents w' y B ∧ Below w.heap.size w w'

end Go.Proofs.YtkipplkaffpkjaaGreat
