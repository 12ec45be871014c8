/- Plain functions on lists of bytes: lines of words. No walk, no program. -/
import Derived.Test.YthhnkakobjbdlaaPure01b
set_option linter.unusedVariables false
set_option linter.unusedSimpArgs false
namespace Go.Proofs.Ythhnkakobjbdlaa

def consHead (p : List UInt8) : List (List UInt8) → List (List UInt8)
  | [] => [p]
  | h :: t => (p ++ h) :: t
/-- A line, cut at each blank that stands outside of marks. -/
def cutF : Bool → List UInt8 → List (List UInt8)
  | _, [] => [[]]
  | ins, c :: r => if c = 32 ∧ ins = false then [] :: cutF false r else consHead [c] (cutF (if c = 34 then !ins else ins) r)
def splitB (l : List UInt8) : Option (List (List UInt8)) := if l = [] then some [] else if (cutF false l).all wordB = true then some (cutF false l) else none

theorem consHead_append (p q : List UInt8) (l : List (List UInt8)) : consHead (p ++ q) l = consHead p (consHead q l) := by
  cases l <;> simp [consHead]
theorem consHead_nil (l : List (List UInt8)) (h : l ≠ []) : consHead [] l = l := by
  cases l with
  | nil => exact absurd rfl h
  | cons a t => simp [consHead]
theorem cutF_ne (ins : Bool) (l : List UInt8) : cutF ins l ≠ [] := by
  cases l with
  | nil => simp [cutF]
  | cons c r =>
    unfold cutF; split
    · simp
    · cases cutF (if c = 34 then !ins else ins) r <;> simp [consHead]
theorem cut_start (r : List UInt8) : cutF false r = consHead (r.take 0) (cutF false (r.drop 0)) := by simp [consHead_nil _ (cutF_ne _ _)]
theorem cut_keep {r : List UInt8} {i : Nat} {ins : Bool} {X : List (List UInt8)} (h : i < r.length) (hc : ¬ (r[i] = 32 ∧ ins = false)) (hX : X = consHead (r.take i) (cutF ins (r.drop i))) :
    X = consHead (r.take (i + 1)) (cutF (if r[i] = 34 then !ins else ins) (r.drop (i + 1))) := by
  rw [hX, List.take_succ_eq_append_getElem h, consHead_append, List.drop_eq_getElem_cons h, cutF, if_neg hc]
theorem cut_at {r : List UInt8} {i : Nat} {X : List (List UInt8)} (h : i < r.length) (hc : r[i] = 32) (hX : X = consHead (r.take i) (cutF false (r.drop i))) :
    X = r.take i :: cutF false (r.drop (i + 1)) := by
  rw [hX, List.drop_eq_getElem_cons h, cutF, if_pos ⟨hc, rfl⟩]; simp [consHead]
theorem cut_end {r : List UInt8} {ins : Bool} {X : List (List UInt8)} (hX : X = consHead (r.take r.length) (cutF ins (r.drop r.length))) : X = [r] := by
  rw [hX, List.drop_length]; simp [cutF, consHead]

theorem split_nil : splitB [] = some [] := rfl
theorem split_no {l : List UInt8} {ws t : List (List UInt8)} {x : List UInt8} (hl : l ≠ []) (h : cutF false l = ws ++ x :: t) (hx : wordB x = false) : splitB l = none := by
  unfold splitB
  rw [if_neg hl, if_neg]
  rw [h]; simp [hx]
theorem split_yes {l : List UInt8} {ws : List (List UInt8)} (hl : l ≠ []) (h : cutF false l = ws) (hw : ∀ x ∈ ws, wordB x = true) : splitB l = some ws := by
  unfold splitB
  rw [if_neg hl, if_pos, h]
  rw [h]; simpa using hw
end Go.Proofs.Ythhnkakobjbdlaa
