/- The words of the phrases, and what they are with operands in their signs' places (printed by tools/say18c.py); texts joined by blanks. No program's function. -/
import Derived.Test.YtbaclgnohnmdgaaDoorPure18b
import Derived.Lib.SplitLaws
set_option linter.unusedVariables false
set_option linter.unusedSimpArgs false
namespace Go.Proofs.YtbaclgnohnmdgaaDoor

def joinP : List (List UInt8) → List UInt8
  | [] => []
  | [x] => x
  | x :: y :: t => x ++ 32 :: joinP (y :: t)
theorem joinP_snoc : ∀ (l : List (List UInt8)) (x : List UInt8), l ≠ [] → joinP (l ++ [x]) = joinP l ++ 32 :: x
  | [], _, h => absurd rfl h
  | [y], x, _ => rfl
  | y :: z :: t, x, _ => by
    have := joinP_snoc (z :: t) x (by simp)
    simp only [List.cons_append] at this
    simp only [List.cons_append, joinP, this, List.append_assoc]
theorem joinP_take (l : List (List UInt8)) (k : Nat) (h : k < l.length) : joinP (l.take (k + 1)) = if k = 0 then l[k] else joinP (l.take k) ++ 32 :: l[k] := by
  rw [List.take_succ_eq_append_getElem h]
  split
  · rename_i h0; subst h0; rfl
  · rename_i h0
    refine joinP_snoc _ _ ?_
    intro e
    have := congrArg List.length e
    simp at this
    rcases this with h1 | h1
    · exact h0 h1
    · rw [h1] at h; exact absurd h (by simp)
theorem joinP_take_le (l : List (List UInt8)) : ∀ (d k : Nat), k + d = l.length → (joinP (l.take k)).length ≤ (joinP l).length
  | 0, k, h => by rw [List.take_of_length_le (by omega)]; exact Nat.le_refl _
  | d + 1, k, h => by
    refine Nat.le_trans ?_ (joinP_take_le l d (k + 1) (by omega))
    rw [joinP_take l k (by omega)]
    split
    · rename_i h0; subst h0; simp [joinP]
    · simp

/-- A word with its sign's text. -/
def fillW (a b m : List UInt8) : List UInt8 → List UInt8
  | [] => []
  | c :: r => if c = 65 then a ++ r else if c = 66 then b ++ r else if c = 69 then m ++ r else c :: r
/-- The words of a phrase. -/
def wordsP (what : Int) : List (List UInt8) :=
  if what = 1 then [[99, 97, 110, 110, 111, 116], [99, 114, 101, 97, 116, 101], [100, 105, 114, 101, 99, 116, 111, 114, 121], [65, 58], [69]]
  else if what = 2 then [[99, 97, 110, 110, 111, 116], [114, 101, 109, 111, 118, 101], [65, 58], [69]]
  else if what = 3 then [[114, 101, 102, 117, 115, 105, 110, 103], [116, 111], [114, 101, 109, 111, 118, 101], [34, 46, 34], [111, 114], [34, 46, 46, 34], [100, 105, 114, 101, 99, 116, 111, 114, 121, 58], [115, 107, 105, 112, 112, 105, 110, 103], [65]]
  else if what = 4 then [[105, 116], [105, 115], [100, 97, 110, 103, 101, 114, 111, 117, 115], [116, 111], [111, 112, 101, 114, 97, 116, 101], [114, 101, 99, 117, 114, 115, 105, 118, 101, 108, 121], [111, 110], [65]]
  else if what = 5 then [[102, 97, 105, 108, 101, 100], [116, 111], [97, 99, 99, 101, 115, 115], [65, 58], [69]]
  else if what = 6 then [[65, 58], [104, 97, 114, 100], [108, 105, 110, 107], [110, 111, 116], [97, 108, 108, 111, 119, 101, 100], [102, 111, 114], [100, 105, 114, 101, 99, 116, 111, 114, 121]]
  else if what = 7 then [[102, 97, 105, 108, 101, 100], [116, 111], [99, 114, 101, 97, 116, 101], [104, 97, 114, 100], [108, 105, 110, 107], [66, 58], [69]]
  else if what = 8 then [[102, 97, 105, 108, 101, 100], [116, 111], [99, 114, 101, 97, 116, 101], [115, 121, 109, 98, 111, 108, 105, 99], [108, 105, 110, 107], [66, 58], [69]]
  else if what = 9 then [[65], [97, 110, 100], [66], [97, 114, 101], [116, 104, 101], [115, 97, 109, 101], [102, 105, 108, 101]]
  else if what = 10 then [[116, 97, 114, 103, 101, 116], [65], [105, 115], [110, 111, 116], [97], [100, 105, 114, 101, 99, 116, 111, 114, 121]]
  else if what = 11 then [[99, 97, 110, 110, 111, 116], [115, 116, 97, 116], [65, 58], [69]]
  else if what = 12 then [[99, 97, 110, 110, 111, 116], [111, 118, 101, 114, 119, 114, 105, 116, 101], [110, 111, 110, 45, 100, 105, 114, 101, 99, 116, 111, 114, 121], [66], [119, 105, 116, 104], [100, 105, 114, 101, 99, 116, 111, 114, 121], [65]]
  else if what = 13 then [[99, 97, 110, 110, 111, 116], [111, 118, 101, 114, 119, 114, 105, 116, 101], [100, 105, 114, 101, 99, 116, 111, 114, 121], [66], [119, 105, 116, 104], [110, 111, 110, 45, 100, 105, 114, 101, 99, 116, 111, 114, 121], [65]]
  else if what = 14 then [[99, 97, 110, 110, 111, 116], [109, 111, 118, 101], [65], [116, 111], [97], [115, 117, 98, 100, 105, 114, 101, 99, 116, 111, 114, 121], [111, 102], [105, 116, 115, 101, 108, 102, 44], [66]]
  else if what = 15 then [[99, 97, 110, 110, 111, 116], [109, 111, 118, 101], [65], [116, 111], [66, 58], [69]]
  else if what = 16 then [[45, 114], [110, 111, 116], [115, 112, 101, 99, 105, 102, 105, 101, 100, 59], [111, 109, 105, 116, 116, 105, 110, 103], [100, 105, 114, 101, 99, 116, 111, 114, 121], [65]]
  else if what = 17 then [[99, 97, 110, 110, 111, 116], [99, 114, 101, 97, 116, 101], [114, 101, 103, 117, 108, 97, 114], [102, 105, 108, 101], [66, 58], [69]]
  else if what = 18 then [[99, 97, 110, 110, 111, 116], [99, 114, 101, 97, 116, 101], [115, 121, 109, 98, 111, 108, 105, 99], [108, 105, 110, 107], [66, 58], [69]]
  else if what = 19 then [[99, 97, 110, 110, 111, 116], [99, 111, 112, 121], [97], [100, 105, 114, 101, 99, 116, 111, 114, 121, 44], [65, 44], [105, 110, 116, 111], [105, 116, 115, 101, 108, 102, 44], [66]]
  else if what = 20 then [[110, 111, 116], [119, 114, 105, 116, 105, 110, 103], [116, 104, 114, 111, 117, 103, 104], [100, 97, 110, 103, 108, 105, 110, 103], [115, 121, 109, 108, 105, 110, 107], [66]]
  else if what = 21 then [[101, 114, 114, 111, 114], [119, 114, 105, 116, 105, 110, 103], [66, 58], [69]]
  else if what = 22 then [[99, 97, 110, 110, 111, 116], [99, 114, 101, 97, 116, 101], [100, 105, 114, 101, 99, 116, 111, 114, 121], [66, 58], [69]]
  else []
theorem fill_say {what : Int} (h : 1 ≤ what ∧ what ≤ 22) (a b m : List UInt8) : joinP ((wordsP what).map (fillW a b m)) = sayL what a b m := by
  rcases say_cases h with rfl | rfl | rfl | rfl | rfl | rfl | rfl | rfl | rfl | rfl | rfl | rfl | rfl | rfl | rfl | rfl | rfl | rfl | rfl | rfl | rfl | rfl
  all_goals simp [wordsP, fillW, joinP, sayL]
theorem words_all : ∀ n : Fin 22, ((wordsP (n.val + 1 : Nat)).all (fun x => decide (1 ≤ x.length ∧ x.length ≤ 40)) && decide (1 ≤ (wordsP (n.val + 1 : Nat)).length ∧ (wordsP (n.val + 1 : Nat)).length ≤ 20)) = true := by decide +kernel
theorem words_small {what : Int} (h : 1 ≤ what ∧ what ≤ 22) : (∀ x ∈ wordsP what, 1 ≤ x.length ∧ x.length ≤ 40) ∧ 1 ≤ (wordsP what).length ∧ (wordsP what).length ≤ 20 := by
  have := words_all ⟨(what - 1).toNat, by omega⟩
  rw [show (((⟨(what - 1).toNat, by omega⟩ : Fin 22).val + 1 : Nat) : Int) = what by simp; omega] at this
  simp only [Bool.and_eq_true, List.all_eq_true, decide_eq_true_eq] at this
  exact this
/-- The words are what strings.Split makes of the phrase. -/
def cutP (l : List UInt8) : List ByteArray := Lib.splitB ⟨#[32]⟩ 0 (Lib.countB ⟨l.toArray⟩ ⟨#[32]⟩) ⟨l.toArray⟩
theorem cut_all : ∀ n : Fin 22, (Lib.splitK [32] 0 (Lib.count (phraseL (n.val + 1 : Nat)) [32]) (phraseL (n.val + 1 : Nat)) == wordsP (n.val + 1 : Nat)) = true := by decide +kernel
theorem cut_words {what : Int} (h : 1 ≤ what ∧ what ≤ 22) : cutP (phraseL what) = (wordsP what).map fun l => (⟨l.toArray⟩ : ByteArray) := by
  have := cut_all ⟨(what - 1).toNat, by omega⟩
  rw [show (((⟨(what - 1).toNat, by omega⟩ : Fin 22).val + 1 : Nat) : Int) = what by simp; omega] at this
  rw [← eq_of_beq this]
  have hd := Lib.splitB_data ⟨#[32]⟩ 0 (Lib.countB ⟨(phraseL what).toArray⟩ ⟨#[32]⟩) ⟨(phraseL what).toArray⟩
  show Lib.splitB _ _ _ _ = _
  have hc : Lib.countB ⟨(phraseL what).toArray⟩ ⟨#[32]⟩ = Lib.count (phraseL what) [32] := rfl
  rw [hc] at hd ⊢
  rw [← show Lib.splitK (ByteArray.mk #[32]).data.toList 0 (Lib.count (phraseL what) [32]) (ByteArray.mk (phraseL what).toArray).data.toList = Lib.splitK [32] 0 (Lib.count (phraseL what) [32]) (phraseL what) from rfl, ← hd, List.map_map]
  refine (List.map_id _).symm.trans (List.map_congr_left fun x _ => ?_)
  show x = ⟨x.data.toList.toArray⟩
  simp
end Go.Proofs.YtbaclgnohnmdgaaDoor
