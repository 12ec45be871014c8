/- Texts put together: Pure02, WalkA02, Few, WalkB02, Here, More. -/
import Derived.WalkKit
import Derived.Test.YtboceckeebhfoaaDoorQMWalkA01
import Derived.Deep.LoopGhost
import Derived.Test.YtboceckeebhfoaaDoorChecked
import Derived.Laws.AppendOwn
import Derived.Laws.OwnMore
set_option linter.unusedVariables false
set_option linter.unusedSimpArgs false
/- Plain functions on lists of bytes for layer 2: the document's messages; lines of words. No walk, no program. -/
set_option linter.unusedVariables false
set_option linter.unusedSimpArgs false
namespace Go.Proofs.YtboceckeebhfoaaDoor

/-- The messages, by their numbers. -/
def msgs : List (List UInt8) := [
  [83, 117, 99, 99, 101, 115, 115],
  [78, 111, 32, 115, 117, 99, 104, 32, 102, 105, 108, 101, 32, 111, 114, 32, 100, 105, 114, 101, 99, 116, 111, 114, 121],
  [70, 105, 108, 101, 32, 101, 120, 105, 115, 116, 115],
  [78, 111, 116, 32, 97, 32, 100, 105, 114, 101, 99, 116, 111, 114, 121],
  [73, 115, 32, 97, 32, 100, 105, 114, 101, 99, 116, 111, 114, 121],
  [68, 105, 114, 101, 99, 116, 111, 114, 121, 32, 110, 111, 116, 32, 101, 109, 112, 116, 121],
  [84, 111, 111, 32, 109, 97, 110, 121, 32, 108, 101, 118, 101, 108, 115, 32, 111, 102, 32, 115, 121, 109, 98, 111, 108, 105, 99, 32, 108, 105, 110, 107, 115],
  [70, 105, 108, 101, 32, 110, 97, 109, 101, 32, 116, 111, 111, 32, 108, 111, 110, 103],
  [78, 111, 32, 115, 112, 97, 99, 101, 32, 108, 101, 102, 116, 32, 111, 110, 32, 100, 101, 118, 105, 99, 101],
  [73, 110, 118, 97, 108, 105, 100, 32, 97, 114, 103, 117, 109, 101, 110, 116],
  [68, 101, 118, 105, 99, 101, 32, 111, 114, 32, 114, 101, 115, 111, 117, 114, 99, 101, 32, 98, 117, 115, 121],
  [79, 112, 101, 114, 97, 116, 105, 111, 110, 32, 110, 111, 116, 32, 112, 101, 114, 109, 105, 116, 116, 101, 100],
  [77, 97, 108, 102, 111, 114, 109, 101, 100, 32, 116, 101, 120, 116],
  [78, 111, 116, 32, 105, 110, 32, 116, 104, 101, 32, 115, 116, 97, 115, 104]]
/-- What is told of a number that is none. -/
def unknownM : List UInt8 := [85, 110, 107, 110, 111, 119, 110, 32, 101, 114, 114, 111, 114]
theorem msgs_len : msgs.length = 14 := rfl
/-- The message of this number. -/
def msgAt (k : Nat) : List UInt8 := msgs.getD k []
theorem msgAt_get {k : Nat} (h : k < msgs.length) : msgAt k = msgs[k] := by simp [msgAt, List.getD, List.getElem?_eq_getElem h]
theorem msgAt_small (k : Nat) (h : k < 14) : (msgAt k).length ≤ 40 := (by decide +kernel : ∀ k : Fin 14, (msgAt k.val).length ≤ 40) ⟨k, h⟩

/-- The message of whatever number. -/
def msgOf (e : Int) : List UInt8 := if 0 ≤ e ∧ e ≤ 13 then msgAt e.toNat else unknownM
theorem msgOf_no {e : Int} (h : e < 0 ∨ 13 < e) : msgOf e = unknownM := by unfold msgOf; rw [if_neg (by omega)]
theorem msgOf_nat (k : Nat) (h : k < 14) : msgOf (k : Int) = msgAt k := by unfold msgOf; rw [if_pos (by omega)]; rfl
theorem msgOf_ne (e : Int) : msgOf e ≠ [] := by
  unfold msgOf
  split
  · rename_i h
    have hk : e.toNat < 14 := by omega
    exact (by decide +kernel : ∀ k : Fin 14, msgAt k.val ≠ []) ⟨e.toNat, hk⟩
  · decide
theorem msgOf_small (e : Int) : (msgOf e).length ≤ 40 := by
  unfold msgOf
  split
  · exact msgAt_small _ (by omega)
  · decide

/-- The number of the message that a text is: the first one from 'k' on. -/
def findFrom (s : List UInt8) : Nat → List (List UInt8) → Option Nat
  | _, [] => none
  | k, m :: r => if m = s then some k else findFrom s (k + 1) r
def findM (s : List UInt8) : Option Nat := findFrom s 0 msgs
theorem findFrom_at (s : List UInt8) : ∀ (l : List (List UInt8)) (k j : Nat) (h : j < l.length), (∀ i (hi : i < j), l[i]'(by omega) ≠ s) → l[j] = s → findFrom s k l = some (k + j)
  | m :: r, k, 0, _, _, he => by simp at he; simp [findFrom, he]
  | m :: r, k, j + 1, h, hn, he => by
    have h0 := hn 0 (by omega)
    simp at h0 he
    unfold findFrom
    rw [if_neg h0, findFrom_at s r (k + 1) j (by simpa using h) (fun i hi => by have := hn (i + 1) (by omega); simpa using this) he]
    congr 1; omega
theorem findFrom_none (s : List UInt8) : ∀ (l : List (List UInt8)) (k : Nat), (∀ i (hi : i < l.length), l[i] ≠ s) → findFrom s k l = none
  | [], _, _ => rfl
  | m :: r, k, hn => by
    have h0 := hn 0 (by simp)
    simp at h0
    unfold findFrom
    rw [if_neg h0]
    exact findFrom_none s r (k + 1) (fun i hi => by have := hn (i + 1) (by simpa using hi); simpa using this)
theorem findM_at {s : List UInt8} {j : Nat} (h : j < 14) (hn : ∀ i, i < j → msgAt i ≠ s) (he : msgAt j = s) : findM s = some j := by
  have hl : j < msgs.length := h
  unfold findM
  rw [findFrom_at s msgs 0 j hl (fun i hi => by rw [← msgAt_get (Nat.lt_trans hi hl)]; exact hn i hi) (by rw [← msgAt_get hl]; exact he), Nat.zero_add]
theorem findM_none {s : List UInt8} (hn : ∀ i, i < 14 → msgAt i ≠ s) : findM s = none :=
  findFrom_none s msgs 0 (fun i hi => by rw [← msgAt_get hi]; exact hn i hi)
/-- Unlike numbers have unlike messages. -/
theorem msgs_apart (i j : Nat) (hi : i < 14) (hj : j < 14) (h : msgAt i = msgAt j) : i = j := by
  have := (by decide +kernel : ∀ (i j : Fin 14), msgAt i.val = msgAt j.val → i = j) ⟨i, hi⟩ ⟨j, hj⟩ h
  simpa using this
theorem findM_msg (k : Nat) (h : k < 14) : findM (msgAt k) = some k :=
  findM_at h (fun i hi e => by have := msgs_apart i k (by omega) h e; omega) rfl
theorem findM_unknown : findM unknownM = none := by decide +kernel
theorem findM_some {s : List UInt8} {k : Nat} (h : findM s = some k) : k < 14 ∧ msgAt k = s := by
  by_cases hn : ∀ i, i < 14 → msgAt i ≠ s
  · rw [findM_none hn] at h; cases h
  · simp only [Classical.not_forall, not_imp, Classical.not_not] at hn
    obtain ⟨i, hi, e⟩ := hn
    have : findM s = some i := by rw [← e]; exact findM_msg i hi
    rw [h] at this
    cases this
    exact ⟨hi, e⟩

/-- A line of words. -/
def lineB : List (List UInt8) → List UInt8
  | [] => []
  | [x] => x
  | x :: y :: t => x ++ 58 :: 32 :: lineB (y :: t)
theorem lineB_snoc : ∀ (l : List (List UInt8)) (x : List UInt8), l ≠ [] → lineB (l ++ [x]) = lineB l ++ [58, 32] ++ x
  | [], _, h => absurd rfl h
  | [y], x, _ => by simp [lineB]
  | y :: z :: t, x, _ => by
    have := lineB_snoc (z :: t) x (by simp)
    simp only [List.cons_append] at this
    simp only [List.cons_append, lineB, this, List.append_assoc]
theorem lineB_take (l : List (List UInt8)) (k : Nat) (h : k < l.length) : lineB (l.take (k + 1)) = if k = 0 then l[k] else lineB (l.take k) ++ [58, 32] ++ l[k] := by
  rw [List.take_succ_eq_append_getElem h]
  split
  · rename_i h0; subst h0; rfl
  · rename_i h0
    refine lineB_snoc _ _ ?_
    intro e
    have := congrArg List.length e
    simp at this
    rcases this with h1 | h1
    · exact h0 h1
    · rw [h1] at h; exact absurd h (by simp)
theorem lineB_take_le (l : List (List UInt8)) : ∀ (d k : Nat), k + d = l.length → (lineB (l.take k)).length ≤ (lineB l).length
  | 0, k, h => by rw [List.take_of_length_le (by omega)]; exact Nat.le_refl _
  | d + 1, k, h => by
    refine Nat.le_trans ?_ (lineB_take_le l d (k + 1) (by omega))
    rw [lineB_take l k (by omega)]
    split
    · rename_i h0; subst h0; simp [lineB]
    · simp
theorem lineB_len : ∀ (l : List (List UInt8)) (m : Nat), (∀ x ∈ l, x.length ≤ m) → (lineB l).length ≤ l.length * (m + 2)
  | [], _, _ => by simp [lineB]
  | [x], m, h => by have := h x (by simp); simp [lineB]; omega
  | x :: y :: t, m, h => by
    have h1 := h x (by simp)
    have h2 := lineB_len (y :: t) m (fun z hz => h z (by simp at hz ⊢; exact Or.inr hz))
    simp only [lineB, List.length_append, List.length_cons] at h2 ⊢
    have : (t.length + 1 + 1) * (m + 2) = (t.length + 1) * (m + 2) + (m + 2) := Nat.succ_mul _ _
    omega
end Go.Proofs.YtboceckeebhfoaaDoor

/- Walks: the table in memory; errs.Message, errs.Find. -/
set_option linter.unusedVariables false
set_option linter.unusedSimpArgs false
namespace Go.Proofs.YtboceckeebhfoaaDoor
open Go.RowKit

/-- The table of the messages lies in memory. -/
def Laid (w : World) : Prop := 0 < w.heap.size ∧ ∀ i, i < 14 → w.cell? ⟨0, i, none⟩ = some (.string ⟨(msgAt i).toArray⟩)
theorem Laid.below {w w' : World} {n : Nat} (h : Laid w) (hb : Below n w w') (hn : 0 < n) : Laid w' :=
  ⟨Nat.lt_of_lt_of_le h.1 hb.size, fun i hi => (hb.cell (p := ⟨0, i, none⟩) hn).trans (h.2 i hi)⟩
theorem Laid.next {w w' : World} (h : Laid w) (hb : Below w.heap.size w w') : Laid w' := h.below hb h.1

/-- The table as one value. -/
def tabV : Value := .agg #[.string ⟨(msgAt 0).toArray⟩, .string ⟨(msgAt 1).toArray⟩, .string ⟨(msgAt 2).toArray⟩, .string ⟨(msgAt 3).toArray⟩, .string ⟨(msgAt 4).toArray⟩, .string ⟨(msgAt 5).toArray⟩, .string ⟨(msgAt 6).toArray⟩, .string ⟨(msgAt 7).toArray⟩, .string ⟨(msgAt 8).toArray⟩, .string ⟨(msgAt 9).toArray⟩, .string ⟨(msgAt 10).toArray⟩, .string ⟨(msgAt 11).toArray⟩, .string ⟨(msgAt 12).toArray⟩, .string ⟨(msgAt 13).toArray⟩]

end Go.Proofs.YtboceckeebhfoaaDoor

/- The document's Few: few texts, none of them long. -/
set_option linter.unusedVariables false
set_option linter.unusedSimpArgs false
namespace Go.Proofs.YtboceckeebhfoaaDoor
open Go.RowKit
def fewB (l : List (List UInt8)) : Bool := (l.take 100).all (fun s => decide (s.length ≤ 300)) && decide (l.length ≤ 40)
theorem fewB_no {l : List (List UInt8)} {k : Nat} (h : k < l.length) (h1 : k < 100) (h2 : 300 < l[k].length) : fewB l = false := by
  rw [Bool.eq_false_iff]
  intro hb
  simp only [fewB, Bool.and_eq_true, List.all_eq_true] at hb
  have hk : k < (l.take 100).length := by simp; omega
  have := hb.1 (l.take 100)[k] (List.getElem_mem hk)
  simp at this
  omega
theorem fewB_yes {l : List (List UInt8)} {k : Nat} (h : ∀ j (hj : j < l.length), j < k → l[j].length ≤ 300) (h2 : ¬ (k < l.length ∧ k < 100)) : fewB l = decide (l.length ≤ 40) := by
  unfold fewB
  have : (l.take 100).all (fun s => decide (s.length ≤ 300)) = true := by
    rw [List.all_eq_true]
    intro s hs
    obtain ⟨j, hj, rfl⟩ := List.getElem_of_mem hs
    have hj2 : j < l.length ∧ j < 100 := by simp at hj; omega
    have := h j hj2.1 (by omega)
    simpa using this
  rw [this]; simp
theorem fewB_small {l : List (List UInt8)} (h : fewB l = true) : l.length ≤ 40 ∧ ∀ x ∈ l, x.length ≤ 300 := by
  simp only [fewB, Bool.and_eq_true, List.all_eq_true, decide_eq_true_eq] at h
  refine ⟨h.2, fun x hx => ?_⟩
  rw [List.take_of_length_le (by omega)] at h
  exact h.1 x hx
theorem Few_any (l : List (List UInt8)) (v : Value) (w : World) (hv : Strs w v l) :
    Calls Tryd.prog 9 #[v] w fun e w' => e = .returned (.bool (fewB l)) ∧ w = w' := by
  obtain ⟨a, ca, rfl, hm, HA0⟩ := hv
  unfold maxLen at hm
  have HA := Lib.hid HA0
  clear HA0
  go_enter Tryd.func9, Tryd.ntmps9
  go_wp2
  go_loop [3] (fun i => ∃ k : Nat, k ≤ 100 ∧ i = .int .i64 k ∧ Aside (∀ j (hj : j < l.length), j < k → l[j].length ≤ 300)) (fun i => 100 - (intOf i).toNat)
  case atStart => exact ⟨0, Nat.zero_le _, rfl, fun j hj h => absurd h (by omega)⟩
  case round =>
    obtain ⟨k, hk, rfl, HT⟩ := hrel
    by_cases hlt : k < l.length
    · by_cases h100 : k < 100
      · obtain ⟨b, o, rfl, hb, hc⟩ := HA.out (by omega)
        have c1 : w.cell? ⟨b, o + k, none⟩ = some (.string ⟨l[k].toArray⟩) := hc k hlt
        clear hc
        by_cases h3 : l[k].length ≤ 300
        · have HT2 : Hid (∀ j (hj : j < l.length), j < k + 1 → l[j].length ≤ 300) := by
            intro j hj h
            rcases Nat.lt_or_ge j k with h' | h'
            · exact HT.out j hj h'
            · obtain rfl : j = k := by omega
              exact h3
          go_wp2
          go_round
          case rel => exact ⟨k + 1, by omega, by go_num, HT2.out⟩
          case measure => simp [intOf]; omega
        · have HN := Lib.hid (fewB_no hlt h100 (by omega))
          go_wp2
          go_ret
          exact ⟨by rw [HN.out]; rfl, rfl⟩
      · have HY := Lib.hid (fewB_yes HT.out (fun h => h100 h.2))
        go_wp2
        go_ret
        exact ⟨ret_bool (by rw [HY.out]; simp; omega), rfl⟩
    · have HY := Lib.hid (fewB_yes HT.out (fun h => hlt h.1))
      go_wp2
      go_ret
      exact ⟨ret_bool (by rw [HY.out]; simp; omega), rfl⟩

end Go.Proofs.YtboceckeebhfoaaDoor

/- Walks: errs.Line, the document's Message and Line, awake. -/
set_option linter.unusedVariables false
set_option linter.unusedSimpArgs false
namespace Go.Proofs.YtboceckeebhfoaaDoor
open Go.RowKit

theorem Tryd.info8 : (Tryd.prog.info? 5).map (fun i => (i.zero, i.size, i.bytes)) = some (some (.int .u8 0), 1, 1) := by kernel_rfl

set_option maxHeartbeats 800000 in
theorem Line_any (l : List (List UInt8)) (v : Value) (w : World) (hv : Strs w v l) (hl : l.length ≤ 1000001) (hj : (lineB l).length ≤ 1000000) :
    Calls Tryd.prog 18 #[v] w fun e w' => e = .returned (.string ⟨(lineB l).toArray⟩) ∧ Below w.heap.size w w' := by
  obtain ⟨a, ca, rfl, hm, HA0⟩ := hv
  have HA := Lib.hid HA0
  clear HA0 hm
  obtain ⟨i0, hi, hz0, hz1, hz2⟩ := info_parts Tryd.info8
  go_enter Tryd.func18, Tryd.ntmps18
  go_wp2
  go_loopw [3, 8] (fun s i wr => ∃ k : Nat, k ≤ l.length ∧ i = .int .i64 k ∧ wr.ownsRow w.heap.size 5 1 s (lineB (l.take k)).length (bytesV (lineB (l.take k))) ∧ Below w.heap.size w wr) (fun _ i _ => l.length - (intOf i).toNat)
  case atStart => exact ⟨0, Nat.zero_le _, rfl, World.ownsRow_nil _ _ _ _, Below.refl _ _⟩
  case round =>
    obtain ⟨k, hk, rfl, hown, hb⟩ := hrel
    by_cases hlt : k < l.length
    · obtain ⟨ba, oa, rfl, hba, hca⟩ := HA.out (by omega)
      have c1 : wr.cell? ⟨ba, oa + k, none⟩ = some (.string ⟨l[k].toArray⟩) := (hb.cell (p := ⟨ba, oa + k, none⟩) hba).trans (hca k hlt)
      clear hca
      have hjt := Lib.hid (lineB_take l k hlt)
      have hj1 := lineB_take_le l (l.length - (k + 1)) (k + 1) (by omega)
      by_cases h0 : k = 0
      · subst h0
        have hsz : l[0].length ≤ 1000000 := by rw [hjt.out, if_pos rfl] at hj1; omega
        clear hj1
        simp only [List.take_zero] at hown
        have hown' : wr.ownsRow w.heap.size 5 1 u3 0 [] := by simpa [lineB, bytesV] using hown
        clear hown
        simp only [Nat.add_zero] at c1
        go_wp2_with (at_builtin; (refine Lib.wpList_append_own_string _ rfl (.tmp 17) (.tmp 18) 34 9 rfl w.heap.size 5 i0 Tryd.underlying34 Tryd.underlying9 hi hz0 hz1 hz2 _ _ _ rfl hown' _ rfl (by simp [ByteArray.size, maxLen]; omega) (by simp [ByteArray.size]; omega) hb.size ?_); intro v3 w3 hown3 hg3 _)
        have hb3 := own_below hown' hg3 hb.size
        go_roundw
        case rel => exact ⟨1, by omega, rfl, by rw [hjt.out, if_pos rfl]; simpa [bytesV_str, ByteArray.size] using hown3, hb.trans hb3⟩
        case measure => simp [intOf]; omega
      · have hk0 : (0 : Int) < (k : Int) := by omega
        have hsz : (lineB (l.take k)).length + l[k].length + 2 ≤ 1000000 := by rw [hjt.out, if_neg h0] at hj1; simp at hj1; omega
        clear hj1
        have e3 : (lineB (l.take k)).length + (ByteArray.mk #[58, 32]).size = (lineB (l.take k)).length + 2 := rfl
        go_wp2_with (first | (at_builtin; (refine Lib.wpList_append_own_string _ rfl (.tmp 15) (.const (.string ⟨#[58, 32]⟩)) 34 9 rfl w.heap.size 5 i0 Tryd.underlying34 Tryd.underlying9 hi hz0 hz1 hz2 _ _ _ rfl hown _ rfl (by simp [ByteArray.size, maxLen]; omega) (by simp [ByteArray.size]; omega) hb.size ?_); intro v3 w3 hown3 hg3 _) | (at_builtin; (refine Lib.wpList_append_own_string _ rfl (.tmp 17) (.tmp 18) 34 9 rfl w.heap.size 5 i0 Tryd.underlying34 Tryd.underlying9 hi hz0 hz1 hz2 _ _ _ rfl hown3 _ rfl (by simp [ByteArray.size, maxLen]; omega) (by simp [ByteArray.size]; omega) (hb.trans (own_below hown hg3 hb.size)).size ?_); intro v4 w4 hown4 hg4 _))
        have hb3 := own_below hown hg3 hb.size
        have hb4 := own_below hown3 hg4 (hb.trans hb3).size
        go_roundw
        case rel => exact ⟨k + 1, by omega, by go_num, by (rw [hjt.out, if_neg h0]; have e : (lineB (l.take k) ++ [58, 32] ++ l[k]).length = (lineB (l.take k)).length + 2 + l[k].length := by (simp; omega)); rw [e]; simpa [bytesV, bytesV_str, ByteArray.size, Lib.strCells] using hown4, (hb.trans hb3).trans hb4⟩
        case measure => simp [intOf]; omega
    · obtain rfl : k = l.length := by omega
      rw [List.take_length] at hown
      have hcv := run_own_string (P := Tryd.prog) (l := lineB l) 34 9 Tryd.underlying34 Tryd.underlying5 Tryd.underlying9 hown
      go_wp2
      go_ret
      exact ⟨rfl, hb⟩

attribute [go_sem] ByteArray.mk_append_mk

end Go.Proofs.YtboceckeebhfoaaDoor

/- append onto an own row: the answer's block is the row's own, or new. A shorter part of an own row is an own row. -/
set_option linter.unusedVariables false
set_option linter.unusedSimpArgs false
namespace Go.Proofs.YtboceckeebhfoaaDoor
open Go.RowKit

theorem own_take {w : World} {base : Nat} {e : TypeId} {size g cap n : Nat} {xs : List Value} (h : w.ownsRow base e size (.slice (some ⟨g, 0, none⟩) n cap) n xs) (k : Nat) (hk : k ≤ n) :
    w.ownsRow base e size (.slice (some ⟨g, 0, none⟩) k cap) k (xs.take (k * size)) := by
  obtain ⟨h1, h2⟩ := h
  have hkn : k * size ≤ n * size := Nat.mul_le_mul_right _ hk
  rcases h2 with ⟨h0, _⟩ | ⟨g', cap', cur, hv, hg, hh, hn, hcap, hsz, htake⟩
  · cases h0
  · cases hv
    refine ⟨by rw [List.length_take, h1]; omega, .inr ⟨g, cap, cur, rfl, hg, hh, by omega, hcap, hsz, ?_⟩⟩
    rw [← htake, List.take_take, Nat.min_eq_left hkn]

section
variable {P : Program} {w : World}
theorem run_append_here (base : Nat) (t ty e : TypeId) (i : TypeInfo) (z : Value) (size bytes : Nat) (ht : P.underlying t = some (.slice e)) (hi : P.info? e = some i) (hz : i.zero = some z)
    (hsize : i.size = size) (hby : i.bytes = bytes) (hzs : z.cells.size = size) (hsz : 0 < size)
    (v : Value) (n : Nat) (xs : List Value) (hown : w.ownsRow base e size v n xs)
    (a : Addr) (m c : Nat) (news : List Value) (hl : news.length = m * size) (hnews : ∀ j u, news[j]? = some u → w.cell? (a.add j) = some u) (h1 : ∀ u ∈ news, u.oneCell' = true)
    (h63 : n + m ≤ maxLen) (hbytes : (n + m) * bytes ≤ 140737488355328) (hbase : base ≤ w.heap.size) :
    ∃ v' w', (Builtin.append_ #[t, t] ty #[v, .slice (some a) m c]).run P w = .ok v' w' ∧ w'.ownsRow base e size v' (n + m) (xs ++ news) ∧ w.grownBy w' v.ownBlock ∧ ∀ g, v'.ownBlock = some g → v.ownBlock = some g ∨ w.heap.size ≤ g := by
  obtain ⟨v', w', hr, h2, h3, _⟩ := run_append_own (P := P) w base t ty e i z size bytes ht hi hz hsize hby hzs hsz v n xs hown a m c news hl hnews h1 h63 hbytes hbase
  refine ⟨v', w', hr, h2, h3, ?_⟩
  rcases hown.2 with ⟨rfl, rfl⟩ | ⟨g, cap, cur, rfl, hbg, hg, hnc, hcm, hcs, htake⟩
  · have hx : xs = [] := List.eq_nil_of_length_eq_zero (by simpa using hown.1)
    subst hx
    obtain ⟨v2, w2, hr2, k2, _⟩ := run_append_own (P := P) w w.heap.size t ty e i z size bytes ht hi hz hsize hby hzs hsz _ 0 [] (World.ownsRow_nil _ _ _ _) a m c news hl hnews h1 h63 hbytes (Nat.le_refl _)
    rw [hr] at hr2
    cases hr2
    exact fun g hg => .inr (k2.lt g hg).1
  · subst hsize hby
    by_cases hroom : n + m ≤ cap
    · have hfit : n * i.size + news.length ≤ cur.size := by rw [hl, hcs, ← Nat.add_mul]; exact Nat.mul_le_mul_right _ hroom
      have hr2 := run_append_room (P := P) w t ty e i ht hi g n cap cur hg a m c news hl hnews h1 hroom hfit
      rw [hr] at hr2
      cases hr2
      exact fun g' hg' => .inl hg'
    · have hsmall : n + m ≤ 9223372036854775807 := by simp only [maxLen] at h63; omega
      have hr2 := run_append_grow (P := P) w t ty e i z ht hi hz ⟨g, 0, none⟩ n cap xs hown.1 (hown.cells (g := g) rfl) a m c news hl hnews (by omega) (by omega) (growslice_fits (by omega) hbytes)
      rw [hr] at hr2
      cases hr2
      exact fun g' hg' => by simp [Value.ownBlock] at hg'; right; omega

theorem wp_append_here {o : Oper} {a : Act} {K : Act → World → Prop} {Q : Exit → Act → World → Prop} (s x : Operand) (t : TypeId)
    (ho : o.op = .call { callee := .builtin .append, args := #[s, x], argTypes := #[t, t] })
    (base : Nat) (e : TypeId) (i : TypeInfo) (z : Value) (size bytes : Nat) (ht : P.underlying t = some (.slice e)) (hi : P.info? e = some i) (hz : i.zero = some z)
    (hsize : i.size = size) (hby : i.bytes = bytes) (hzs : z.cells.size = size) (hsz : 0 < size)
    (v : Value) (n : Nat) (xs : List Value) (hs : a.eval s = v) (hown : w.ownsRow base e size v n xs)
    (ad : Addr) (m c : Nat) (news : List Value) (hx : a.eval x = .slice (some ad) m c) (hl : news.length = m * size) (hnews : ∀ j u, news[j]? = some u → w.cell? (ad.add j) = some u) (h1 : ∀ u ∈ news, u.oneCell' = true)
    (h63 : n + m ≤ maxLen) (hbytes : (n + m) * bytes ≤ 140737488355328) (hbase : base ≤ w.heap.size)
    (h : ∀ v' w', w'.ownsRow base e size v' (n + m) (xs ++ news) → w.grownBy w' v.ownBlock → (∀ g, v'.ownBlock = some g → v.ownBlock = some g ∨ w.heap.size ≤ g) → K (a.put o.dst v') w') : o.wp P a w K Q := by
  obtain ⟨v', w', hr, h2, h3, h4⟩ := run_append_here (P := P) (w := w) base t o.type e i z size bytes ht hi hz hsize hby hzs hsz v n xs hown ad m c news hl hnews h1 h63 hbytes hbase
  unfold Oper.wp execOp
  simp only [ho, resolve, invoke, builtin, Sem.run_bind, Sem.run_pure, Result.andThen_ok, List.map_toArray, List.map_cons, List.map_nil, hs, hx, hr]
  exact h v' w' h2 h3 h4

/-- As one step of a region that draws its order. -/
theorem step_append_here {ops : Array Oper} {o : Oper} {a : Act} {K : Act → World → Prop} {Q : Exit → Act → World → Prop} {E : Prop} (hgd : o.guard = none) (s x : Operand) (t e : TypeId)
    (ho : o.op = .call { callee := .builtin .append, args := #[s, x], argTypes := #[t, t] })
    {i : TypeInfo} {z : Value} {size bytes : Nat} (ht : P.underlying t = some (.slice e)) (hi : P.info? e = some i) (hz : i.zero = some z)
    (hsize : i.size = size) (hby : i.bytes = bytes) (hzs : z.cells.size = size) (hsz : 0 < size) (hbs : bytes ≤ 128)
    (base : Nat) {v : Value} {n : Nat} {xs : List Value} (ad : Addr) (m : Nat) (news : List Value) (hs : a.eval s = v) (hx : a.eval x = .slice (some ad) m m) (hown : w.ownsRow base e size v n xs)
    (hm : news.length = m * size) (hnews : ∀ j u, news[j]? = some u → w.cell? (ad.add j) = some u) (h1 : ∀ u ∈ news, u.oneCell' = true) (hb : n + m ≤ 1099511627776) (hbase : base ≤ w.heap.size)
    (hK : ∀ v' w', w'.ownsRow base e size v' (n + m) (xs ++ news) → w.grownBy w' v.ownBlock → (∀ g, v'.ownBlock = some g → v.ownBlock = some g ∨ w.heap.size ≤ g) → K (a.put o.dst v') w') :
    if Region.wanted o (yielded ops a.tmps) = true then Oper.wp P o a w K Q else E := by
  rw [if_pos (by simp [Region.wanted, hgd])]
  refine wp_append_here s x t ho base e i z size bytes ht hi hz hsize hby hzs hsz v n xs hs hown ad m m news hx hm hnews h1 (by unfold maxLen; omega) ?_ hbase hK
  calc (n + m) * bytes ≤ 1099511627776 * 128 := Nat.mul_le_mul hb hbs
    _ ≤ 140737488355328 := by decide

/-- As one operation of a list, behind a block just made for what is appended. -/
theorem wpList_append_here {ops : Array Oper} {rest : List Oper} {o : Oper} {a : Act} {Q : Exit → Act → World → Prop} (hgd : o.guard = none) (s x : Operand) (t e : TypeId)
    (ho : o.op = .call { callee := .builtin .append, args := #[s, x], argTypes := #[t, t] })
    {i : TypeInfo} {z : Value} {size bytes : Nat} (ht : P.underlying t = some (.slice e)) (hi : P.info? e = some i) (hz : i.zero = some z)
    (hsize : i.size = size) (hby : i.bytes = bytes) (hzs : z.cells.size = size) (hsz : 0 < size) (hbs : bytes ≤ 128)
    (base : Nat) {v : Value} {n : Nat} {xs : List Value} (C : Array Value) (m : Nat) (hs : a.eval s = v) (hx : a.eval x = .slice (some ⟨w.heap.size, 0, none⟩) m m) (hown : w.ownsRow base e size v n xs)
    (hm : C.size = m * size) (h1 : ∀ u ∈ C.toList, u.oneCell' = true) (hb : n + m ≤ 1099511627776) (hbase : base ≤ w.heap.size)
    (hK : ∀ v' w', w'.ownsRow base e size v' (n + m) (xs ++ C.toList) → (w.alloc (.cells C e)).grownBy w' v.ownBlock → (∀ g, v'.ownBlock = some g → v.ownBlock = some g ∨ w.heap.size < g) → wpList P ops Q rest (a.put o.dst v') w') :
    wpList P ops Q (o :: rest) a (w.alloc (.cells C e)) := by
  refine wpList_plain hgd fun _ hKK => wp_append_here s x t ho base e i z size bytes ht hi hz hsize hby hzs hsz v n xs hs (hown.alloc _) ⟨w.heap.size, 0, none⟩ m m C.toList hx (by simpa using hm) (cells_block w C e) h1 (by unfold maxLen; omega) ?_ (by simp; omega) ?_
  · calc (n + m) * bytes ≤ 1099511627776 * 128 := Nat.mul_le_mul hb hbs
      _ ≤ 140737488355328 := by decide
  · intro v' w' h2 h3 h4
    exact hKK _ _ (hK v' w' h2 h3 (fun g hg => (h4 g hg).imp id (fun h => by simp at h; omega)))
end
end Go.Proofs.YtboceckeebhfoaaDoor

/- append onto an own row of whatever slice, nil or not: what else there is stays. -/
set_option linter.unusedVariables false
set_option linter.unusedSimpArgs false
namespace Go.Proofs.YtboceckeebhfoaaDoor
open Go.RowKit

theorem run_append_nil {P : Program} {w : World} (base : Nat) (t ty e : TypeId) (i : TypeInfo) (size : Nat) (ht : P.underlying t = some (.slice e)) (hi : P.info? e = some i)
    (v : Value) (n : Nat) (xs : List Value) (hown : w.ownsRow base e size v n xs) (c : Nat) :
    (Builtin.append_ #[t, t] ty #[v, .slice none 0 c]).run P w = .ok v w := by
  rcases hown.2 with ⟨rfl, rfl⟩ | ⟨g, cap, cur, rfl, _, _, hnc, _⟩
  · simp [Builtin.append_, run_underlying ht, sizeOf, typeInfo, hi, Builtin.lenOf, Builtin.firstCells]
  · simp [Builtin.append_, run_underlying ht, sizeOf, typeInfo, hi, Builtin.lenOf, Builtin.firstCells, hnc, storeCells]
theorem wp_append_more {P : Program} {w : World} {o : Oper} {a : Act} {K : Act → World → Prop} {Q : Exit → Act → World → Prop} (s x : Operand) (t e : TypeId)
    (ho : o.op = .call { callee := .builtin .append, args := #[s, x], argTypes := #[t, t] })
    {i : TypeInfo} {z : Value} {size bytes : Nat} (ht : P.underlying t = some (.slice e)) (hi : P.info? e = some i) (hz : i.zero = some z)
    (hsize : i.size = size) (hby : i.bytes = bytes) (hzs : z.cells.size = size) (hsz : 0 < size) (hbs : bytes ≤ 128)
    (base : Nat) {v : Value} {n : Nat} {xs : List Value} (ao : Option Addr) (m c : Nat) (news : List Value) (hs : a.eval s = v) (hx : a.eval x = .slice ao m c) (hown : w.ownsRow base e size v n xs) (hnone : ao = none → m = 0)
    (hm : news.length = m * size) (hc : ∀ ad, ao = some ad → ∀ j u, news[j]? = some u → w.cell? (ad.add j) = some u) (h1 : ∀ u ∈ news, u.oneCell' = true) (hb : n + m ≤ 1099511627776) (hbase : base ≤ w.heap.size)
    (hK : ∀ v' w', w'.ownsRow base e size v' (n + m) (xs ++ news) → w.grownBy w' v.ownBlock → (∀ g, v'.ownBlock = some g → v.ownBlock = some g ∨ w.heap.size ≤ g) → K (a.put o.dst v') w') : o.wp P a w K Q := by
  cases ao with
  | some ad =>
    refine wp_append_here s x t ho base e i z size bytes ht hi hz hsize hby hzs hsz v n xs hs hown ad m c news hx hm (hc ad rfl) h1 (by unfold maxLen; omega) ?_ hbase hK
    calc (n + m) * bytes ≤ 1099511627776 * 128 := Nat.mul_le_mul hb hbs
      _ ≤ 140737488355328 := by decide
  | none =>
    obtain rfl := hnone rfl
    have hnews : news = [] := List.eq_nil_of_length_eq_zero (by simpa using hm)
    subst hnews
    have hrun := run_append_nil (P := P) base t o.type e i size ht hi _ n xs hown c
    unfold Oper.wp
    simp [execOp, ho, resolve, invoke, builtin, hs, hx, hrun, Result.andThen]
    exact hK _ _ (by simpa using hown) ⟨rfl, rfl, rfl, Nat.le_refl _, fun _ _ _ => rfl⟩ (fun g hg => .inl hg)
/-- As one step of a region that draws its order. -/
theorem step_append_more {P : Program} {w : World} {ops : Array Oper} {o : Oper} {a : Act} {K : Act → World → Prop} {Q : Exit → Act → World → Prop} {E : Prop} (hgd : o.guard = none) (s x : Operand) (t e : TypeId)
    (ho : o.op = .call { callee := .builtin .append, args := #[s, x], argTypes := #[t, t] })
    {i : TypeInfo} {z : Value} {size bytes : Nat} (ht : P.underlying t = some (.slice e)) (hi : P.info? e = some i) (hz : i.zero = some z)
    (hsize : i.size = size) (hby : i.bytes = bytes) (hzs : z.cells.size = size) (hsz : 0 < size) (hbs : bytes ≤ 128)
    (base : Nat) {v : Value} {n : Nat} {xs : List Value} (ao : Option Addr) (m c : Nat) (news : List Value) (hs : a.eval s = v) (hx : a.eval x = .slice ao m c) (hown : w.ownsRow base e size v n xs) (hnone : ao = none → m = 0)
    (hm : news.length = m * size) (hc : ∀ ad, ao = some ad → ∀ j u, news[j]? = some u → w.cell? (ad.add j) = some u) (h1 : ∀ u ∈ news, u.oneCell' = true) (hb : n + m ≤ 1099511627776) (hbase : base ≤ w.heap.size)
    (hK : ∀ v' w', w'.ownsRow base e size v' (n + m) (xs ++ news) → w.grownBy w' v.ownBlock → (∀ g, v'.ownBlock = some g → v.ownBlock = some g ∨ w.heap.size ≤ g) → K (a.put o.dst v') w') :
    if Region.wanted o (yielded ops a.tmps) = true then Oper.wp P o a w K Q else E := by
  rw [if_pos (by simp [Region.wanted, hgd])]
  exact wp_append_more s x t e ho ht hi hz hsize hby hzs hsz hbs base ao m c news hs hx hown hnone hm hc h1 hb hbase hK
/-- As one operation of a list. -/
theorem wpList_append_more {P : Program} {w : World} {ops : Array Oper} {rest : List Oper} {o : Oper} {a : Act} {Q : Exit → Act → World → Prop} (hgd : o.guard = none) (s x : Operand) (t e : TypeId)
    (ho : o.op = .call { callee := .builtin .append, args := #[s, x], argTypes := #[t, t] })
    {i : TypeInfo} {z : Value} {size bytes : Nat} (ht : P.underlying t = some (.slice e)) (hi : P.info? e = some i) (hz : i.zero = some z)
    (hsize : i.size = size) (hby : i.bytes = bytes) (hzs : z.cells.size = size) (hsz : 0 < size) (hbs : bytes ≤ 128)
    (base : Nat) {v : Value} {n : Nat} {xs : List Value} (ao : Option Addr) (m c : Nat) (news : List Value) (hs : a.eval s = v) (hx : a.eval x = .slice ao m c) (hown : w.ownsRow base e size v n xs) (hnone : ao = none → m = 0)
    (hm : news.length = m * size) (hc : ∀ ad, ao = some ad → ∀ j u, news[j]? = some u → w.cell? (ad.add j) = some u) (h1 : ∀ u ∈ news, u.oneCell' = true) (hb : n + m ≤ 1099511627776) (hbase : base ≤ w.heap.size)
    (hK : ∀ v' w', w'.ownsRow base e size v' (n + m) (xs ++ news) → w.grownBy w' v.ownBlock → (∀ g, v'.ownBlock = some g → v.ownBlock = some g ∨ w.heap.size ≤ g) → wpList P ops Q rest (a.put o.dst v') w') :
    wpList P ops Q (o :: rest) a w :=
  wpList_plain hgd fun _ hKK => wp_append_more s x t e ho ht hi hz hsize hby hzs hsz hbs base ao m c news hs hx hown hnone hm hc h1 hb hbase (fun v' w' h2 h3 h4 => hKK _ _ (hK v' w' h2 h3 h4))
end Go.Proofs.YtboceckeebhfoaaDoor
