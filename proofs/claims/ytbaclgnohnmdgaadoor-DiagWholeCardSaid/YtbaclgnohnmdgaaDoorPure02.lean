/- Plain functions on lists of bytes for layer 2: the document's messages; lines of words. No walk, no program. -/
import Derived.WalkKit
set_option linter.unusedVariables false
set_option linter.unusedSimpArgs false
namespace Go.Proofs.YtbaclgnohnmdgaaDoor

/-- The messages, by their numbers. -/
def msgs : List (List UInt8) := [
  [83, 117, 99, 99, 101, 115, 115],
  [78, 111, 32, 115, 117, 99, 104, 32, 102, 105, 108, 101, 32, 111, 114, 32, 100, 105, 114, 101, 99, 116, 111, 114, 121],
  [70, 105, 108, 101, 32, 101, 120, 105, 115, 116, 115],
  [78, 111, 116, 32, 97, 32, 100, 105, 114, 101, 99, 116, 111, 114, 121],
  [73, 115, 32, 97, 32, 100, 105, 114, 101, 99, 116, 111, 114, 121],
  [68, 105, 114, 101, 99, 116, 111, 114, 121, 32, 110, 111, 116, 32, 101, 109, 112, 116, 121],
  [84, 111, 111, 32, 109, 97, 110, 121, 32, 108, 101, 118, 101, 108, 115, 32, 111, 102, 32, 115, 121, 109, 98, 111, 108, 105, 99, 32, 108, 105, 110, 107, 115],
  [70, 105, 108, 101, 32, 110, 97, 109, 101, 32, 116, 111, 111, 32, 108, 111, 110, 103],
  [78, 111, 32, 115, 112, 97, 99, 101, 32, 108, 101, 102, 116, 32, 111, 110, 32, 100, 101, 118, 105, 99, 101],
  [73, 110, 118, 97, 108, 105, 100, 32, 97, 114, 103, 117, 109, 101, 110, 116],
  [68, 101, 118, 105, 99, 101, 32, 111, 114, 32, 114, 101, 115, 111, 117, 114, 99, 101, 32, 98, 117, 115, 121],
  [79, 112, 101, 114, 97, 116, 105, 111, 110, 32, 110, 111, 116, 32, 112, 101, 114, 109, 105, 116, 116, 101, 100],
  [77, 97, 108, 102, 111, 114, 109, 101, 100, 32, 116, 101, 120, 116],
  [78, 111, 116, 32, 105, 110, 32, 116, 104, 101, 32, 115, 116, 97, 115, 104]]
/-- What is told of a number that is none. -/
def unknownM : List UInt8 := [85, 110, 107, 110, 111, 119, 110, 32, 101, 114, 114, 111, 114]
theorem msgs_len : msgs.length = 14 := rfl
/-- The message of this number. -/
def msgAt (k : Nat) : List UInt8 := msgs.getD k []
theorem msgAt_get {k : Nat} (h : k < msgs.length) : msgAt k = msgs[k] := by simp [msgAt, List.getD, List.getElem?_eq_getElem h]
theorem msgAt_small (k : Nat) (h : k < 14) : (msgAt k).length ≤ 40 := (by decide +kernel : ∀ k : Fin 14, (msgAt k.val).length ≤ 40) ⟨k, h⟩

/-- The message of whatever number. -/
def msgOf (e : Int) : List UInt8 := if 0 ≤ e ∧ e ≤ 13 then msgAt e.toNat else unknownM
theorem msgOf_no {e : Int} (h : e < 0 ∨ 13 < e) : msgOf e = unknownM := by unfold msgOf; rw [if_neg (by omega)]
theorem msgOf_nat (k : Nat) (h : k < 14) : msgOf (k : Int) = msgAt k := by unfold msgOf; rw [if_pos (by omega)]; rfl
theorem msgOf_ne (e : Int) : msgOf e ≠ [] := by
  unfold msgOf
  split
  · rename_i h
    have hk : e.toNat < 14 := by omega
    exact (by decide +kernel : ∀ k : Fin 14, msgAt k.val ≠ []) ⟨e.toNat, hk⟩
  · decide
theorem msgOf_small (e : Int) : (msgOf e).length ≤ 40 := by
  unfold msgOf
  split
  · exact msgAt_small _ (by omega)
  · decide

/-- The number of the message that a text is: the first one from 'k' on. -/
def findFrom (s : List UInt8) : Nat → List (List UInt8) → Option Nat
  | _, [] => none
  | k, m :: r => if m = s then some k else findFrom s (k + 1) r
def findM (s : List UInt8) : Option Nat := findFrom s 0 msgs
theorem findFrom_at (s : List UInt8) : ∀ (l : List (List UInt8)) (k j : Nat) (h : j < l.length), (∀ i (hi : i < j), l[i]'(by omega) ≠ s) → l[j] = s → findFrom s k l = some (k + j)
  | m :: r, k, 0, _, _, he => by simp at he; simp [findFrom, he]
  | m :: r, k, j + 1, h, hn, he => by
    have h0 := hn 0 (by omega)
    simp at h0 he
    unfold findFrom
    rw [if_neg h0, findFrom_at s r (k + 1) j (by simpa using h) (fun i hi => by have := hn (i + 1) (by omega); simpa using this) he]
    congr 1; omega
theorem findFrom_none (s : List UInt8) : ∀ (l : List (List UInt8)) (k : Nat), (∀ i (hi : i < l.length), l[i] ≠ s) → findFrom s k l = none
  | [], _, _ => rfl
  | m :: r, k, hn => by
    have h0 := hn 0 (by simp)
    simp at h0
    unfold findFrom
    rw [if_neg h0]
    exact findFrom_none s r (k + 1) (fun i hi => by have := hn (i + 1) (by simpa using hi); simpa using this)
theorem findM_at {s : List UInt8} {j : Nat} (h : j < 14) (hn : ∀ i, i < j → msgAt i ≠ s) (he : msgAt j = s) : findM s = some j := by
  have hl : j < msgs.length := h
  unfold findM
  rw [findFrom_at s msgs 0 j hl (fun i hi => by rw [← msgAt_get (Nat.lt_trans hi hl)]; exact hn i hi) (by rw [← msgAt_get hl]; exact he), Nat.zero_add]
theorem findM_none {s : List UInt8} (hn : ∀ i, i < 14 → msgAt i ≠ s) : findM s = none :=
  findFrom_none s msgs 0 (fun i hi => by rw [← msgAt_get hi]; exact hn i hi)
/-- Unlike numbers have unlike messages. -/
theorem msgs_apart (i j : Nat) (hi : i < 14) (hj : j < 14) (h : msgAt i = msgAt j) : i = j := by
  have := (by decide +kernel : ∀ (i j : Fin 14), msgAt i.val = msgAt j.val → i = j) ⟨i, hi⟩ ⟨j, hj⟩ h
  simpa using this
theorem findM_msg (k : Nat) (h : k < 14) : findM (msgAt k) = some k :=
  findM_at h (fun i hi e => by have := msgs_apart i k (by omega) h e; omega) rfl
theorem findM_unknown : findM unknownM = none := by decide +kernel
theorem findM_some {s : List UInt8} {k : Nat} (h : findM s = some k) : k < 14 ∧ msgAt k = s := by
  by_cases hn : ∀ i, i < 14 → msgAt i ≠ s
  · rw [findM_none hn] at h; cases h
  · simp only [Classical.not_forall, not_imp, Classical.not_not] at hn
    obtain ⟨i, hi, e⟩ := hn
    have : findM s = some i := by rw [← e]; exact findM_msg i hi
    rw [h] at this
    cases this
    exact ⟨hi, e⟩

/-- A line of words. -/
def lineB : List (List UInt8) → List UInt8
  | [] => []
  | [x] => x
  | x :: y :: t => x ++ 58 :: 32 :: lineB (y :: t)
theorem lineB_snoc : ∀ (l : List (List UInt8)) (x : List UInt8), l ≠ [] → lineB (l ++ [x]) = lineB l ++ [58, 32] ++ x
  | [], _, h => absurd rfl h
  | [y], x, _ => by simp [lineB]
  | y :: z :: t, x, _ => by
    have := lineB_snoc (z :: t) x (by simp)
    simp only [List.cons_append] at this
    simp only [List.cons_append, lineB, this, List.append_assoc]
theorem lineB_take (l : List (List UInt8)) (k : Nat) (h : k < l.length) : lineB (l.take (k + 1)) = if k = 0 then l[k] else lineB (l.take k) ++ [58, 32] ++ l[k] := by
  rw [List.take_succ_eq_append_getElem h]
  split
  · rename_i h0; subst h0; rfl
  · rename_i h0
    refine lineB_snoc _ _ ?_
    intro e
    have := congrArg List.length e
    simp at this
    rcases this with h1 | h1
    · exact h0 h1
    · rw [h1] at h; exact absurd h (by simp)
theorem lineB_take_le (l : List (List UInt8)) : ∀ (d k : Nat), k + d = l.length → (lineB (l.take k)).length ≤ (lineB l).length
  | 0, k, h => by rw [List.take_of_length_le (by omega)]; exact Nat.le_refl _
  | d + 1, k, h => by
    refine Nat.le_trans ?_ (lineB_take_le l d (k + 1) (by omega))
    rw [lineB_take l k (by omega)]
    split
    · rename_i h0; subst h0; simp [lineB]
    · simp
theorem lineB_len : ∀ (l : List (List UInt8)) (m : Nat), (∀ x ∈ l, x.length ≤ m) → (lineB l).length ≤ l.length * (m + 2)
  | [], _, _ => by simp [lineB]
  | [x], m, h => by have := h x (by simp); simp [lineB]; omega
  | x :: y :: t, m, h => by
    have h1 := h x (by simp)
    have h2 := lineB_len (y :: t) m (fun z hz => h z (by simp at hz ⊢; exact Or.inr hz))
    simp only [lineB, List.length_append, List.length_cons] at h2 ⊢
    have : (t.length + 1 + 1) * (m + 2) = (t.length + 1) * (m + 2) + (m + 2) := Nat.succ_mul _ _
    omega
end Go.Proofs.YtbaclgnohnmdgaaDoor
