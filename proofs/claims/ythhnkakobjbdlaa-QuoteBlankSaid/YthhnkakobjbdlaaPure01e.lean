/- Plain functions on lists of bytes: texts joined; few and short texts. No walk, no program. -/
import Derived.Test.YthhnkakobjbdlaaPure01c
set_option linter.unusedVariables false
set_option linter.unusedSimpArgs false
namespace Go.Proofs.Ythhnkakobjbdlaa

def joinB : List (List UInt8) → List UInt8
  | [] => []
  | [x] => x
  | x :: y :: t => x ++ 32 :: joinB (y :: t)
theorem joinB_snoc : ∀ (l : List (List UInt8)) (x : List UInt8), l ≠ [] → joinB (l ++ [x]) = joinB l ++ 32 :: x
  | [], _, h => absurd rfl h
  | [y], x, _ => rfl
  | y :: z :: t, x, _ => by
    have := joinB_snoc (z :: t) x (by simp)
    simp only [List.cons_append] at this
    simp only [List.cons_append, joinB, this, List.append_assoc]
theorem joinB_take (l : List (List UInt8)) (k : Nat) (h : k < l.length) : joinB (l.take (k + 1)) = if k = 0 then l[k] else joinB (l.take k) ++ 32 :: l[k] := by
  rw [List.take_succ_eq_append_getElem h]
  split
  · rename_i h0; subst h0; rfl
  · rename_i h0
    refine joinB_snoc _ _ ?_
    intro e
    have := congrArg List.length e
    simp at this
    rcases this with h1 | h1
    · exact h0 h1
    · rw [h1] at h; exact absurd h (by simp)
theorem joinB_take_le (l : List (List UInt8)) : ∀ (d k : Nat), k + d = l.length → (joinB (l.take k)).length ≤ (joinB l).length
  | 0, k, h => by rw [List.take_of_length_le (by omega)]; exact Nat.le_refl _
  | d + 1, k, h => by
    refine Nat.le_trans ?_ (joinB_take_le l d (k + 1) (by omega))
    rw [joinB_take l k (by omega)]
    split
    · rename_i h0; subst h0; simp [joinB]
    · simp
def fewB (l : List (List UInt8)) : Bool := (l.take 100).all (fun s => decide (s.length ≤ 300)) && decide (l.length ≤ 40)
theorem fewB_no {l : List (List UInt8)} {k : Nat} (h : k < l.length) (h1 : k < 100) (h2 : 300 < l[k].length) : fewB l = false := by
  rw [Bool.eq_false_iff]
  intro hb
  simp only [fewB, Bool.and_eq_true, List.all_eq_true] at hb
  have hk : k < (l.take 100).length := by simp; omega
  have := hb.1 (l.take 100)[k] (List.getElem_mem hk)
  simp at this
  omega
theorem fewB_yes {l : List (List UInt8)} {k : Nat} (h : ∀ j (hj : j < l.length), j < k → l[j].length ≤ 300) (h2 : ¬ (k < l.length ∧ k < 100)) : fewB l = decide (l.length ≤ 40) := by
  unfold fewB
  have : (l.take 100).all (fun s => decide (s.length ≤ 300)) = true := by
    rw [List.all_eq_true]
    intro s hs
    obtain ⟨j, hj, rfl⟩ := List.getElem_of_mem hs
    have hj2 : j < l.length ∧ j < 100 := by simp at hj; omega
    have := h j hj2.1 (by omega)
    simpa using this
  rw [this]; simp
theorem fewB_small {l : List (List UInt8)} (h : fewB l = true) : l.length ≤ 40 ∧ ∀ x ∈ l, x.length ≤ 300 := by
  simp only [fewB, Bool.and_eq_true, List.all_eq_true, decide_eq_true_eq] at h
  refine ⟨h.2, fun x hx => ?_⟩
  rw [List.take_of_length_le (by omega)] at h
  exact h.1 x hx
end Go.Proofs.Ythhnkakobjbdlaa
