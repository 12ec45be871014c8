/- What the laws of stage 18 ask of phrases (printed by tools/say18.py). No program's function. -/
import Derived.Test.YtbaclgnohnmdgaaDoorPure18
set_option linter.unusedVariables false
set_option linter.unusedSimpArgs false
namespace Go.Proofs.YtbaclgnohnmdgaaDoor

def tellL (kind what : Int) (a b m : List UInt8) : List UInt8 := if nameK kind = [] ∨ sayL what (quoteB a) (quoteB b) m = [] then [] else nameK kind ++ [58, 32] ++ sayL what (quoteB a) (quoteB b) m
def phraseL (what : Int) : List UInt8 := sayL what [65] [66] [69]
theorem name_ne {k : Int} (h1 : 1 ≤ k) (h2 : k ≤ 5) : nameK k ≠ [] := by
  obtain rfl | rfl | rfl | rfl | rfl : k = 1 ∨ k = 2 ∨ k = 3 ∨ k = 4 ∨ k = 5 := by omega
  all_goals decide
theorem name_no {k : Int} (h : ¬ (1 ≤ k ∧ k ≤ 5)) : nameK k = [] := by
  unfold nameK
  repeat rw [if_neg (by omega)]
theorem quote_ne (a : List UInt8) : quoteB a ≠ [] := by unfold quoteB; simp
theorem say_ne {what : Int} (h : 1 ≤ what ∧ what ≤ 22) (a b m : List UInt8) : sayL what (quoteB a) (quoteB b) m ≠ [] := by
  rcases say_cases h with rfl | rfl | rfl | rfl | rfl | rfl | rfl | rfl | rfl | rfl | rfl | rfl | rfl | rfl | rfl | rfl | rfl | rfl | rfl | rfl | rfl | rfl
  all_goals (unfold quoteB; simp [sayL])
theorem tell_there (kind what : Int) (a b m : List UInt8) : (tellL kind what a b m ≠ []) ↔ (1 ≤ kind ∧ kind ≤ 5 ∧ 1 ≤ what ∧ what ≤ 22) := by
  unfold tellL
  by_cases hk : 1 ≤ kind ∧ kind ≤ 5
  · by_cases hw : 1 ≤ what ∧ what ≤ 22
    · rw [if_neg (fun c => c.elim (name_ne hk.1 hk.2) (say_ne hw a b m))]
      simp [hk, hw]
    · rw [if_pos (.inr (say_none hw _ _ _))]
      simp
      omega
  · rw [if_pos (.inl (name_no hk))]
    simp
    omega
theorem tell_of {kind what : Int} (hk : 1 ≤ kind ∧ kind ≤ 5) (hw : 1 ≤ what ∧ what ≤ 22) (a b m : List UInt8) : tellL kind what a b m = nameK kind ++ [58, 32] ++ sayL what (quoteB a) (quoteB b) m := by
  unfold tellL
  rw [if_neg (fun c => c.elim (name_ne hk.1 hk.2) (say_ne hw a b m))]

/-! ### Which operands a phrase names -/
def aloneB (p : List UInt8) (i : Nat) : Bool := (decide (i = 0) || p.getD (i - 1) 0 == 32) && (decide (i + 1 = p.length) || decide (p.getD (i + 1) 0 < 65))
def hasL (x : UInt8) (p : List UInt8) (n : Nat) : Bool := (List.range n).any fun i => aloneB p i && p.getD i 0 == x
theorem has_succ (x : UInt8) (p : List UInt8) (n : Nat) : hasL x p (n + 1) = (hasL x p n || (aloneB p n && p.getD n 0 == x)) := by
  unfold hasL; rw [List.range_succ, List.any_append]; simp
def hasA (what : Int) : Bool := what == 1 || what == 2 || what == 3 || what == 4 || what == 5 || what == 6 || what == 9 || what == 10 || what == 11 || what == 12 || what == 13 || what == 14 || what == 15 || what == 16 || what == 19
def hasB2 (what : Int) : Bool := what == 7 || what == 8 || what == 9 || what == 12 || what == 13 || what == 14 || what == 15 || what == 17 || what == 18 || what == 19 || what == 20 || what == 21 || what == 22
theorem has_a {what : Int} (h : 1 ≤ what ∧ what ≤ 22) : hasL 65 (phraseL what) (phraseL what).length = hasA what := by
  rcases say_cases h with rfl | rfl | rfl | rfl | rfl | rfl | rfl | rfl | rfl | rfl | rfl | rfl | rfl | rfl | rfl | rfl | rfl | rfl | rfl | rfl | rfl | rfl
  all_goals decide +kernel
theorem has_b {what : Int} (h : 1 ≤ what ∧ what ≤ 22) : hasL 66 (phraseL what) (phraseL what).length = hasB2 what := by
  rcases say_cases h with rfl | rfl | rfl | rfl | rfl | rfl | rfl | rfl | rfl | rfl | rfl | rfl | rfl | rfl | rfl | rfl | rfl | rfl | rfl | rfl | rfl | rfl
  all_goals decide +kernel
theorem quote_iff (a c : List UInt8) : quoteB a = quoteB c ↔ a = c := ⟨quoteB_inj, fun e => by rw [e]⟩
theorem say_a {what : Int} (h : 1 ≤ what ∧ what ≤ 22) (a b c m : List UInt8) : sayL what (quoteB a) (quoteB b) m = sayL what (quoteB c) (quoteB b) m ↔ (hasA what = false ∨ a = c) := by
  rcases say_cases h with rfl | rfl | rfl | rfl | rfl | rfl | rfl | rfl | rfl | rfl | rfl | rfl | rfl | rfl | rfl | rfl | rfl | rfl | rfl | rfl | rfl | rfl
  all_goals simp [sayL, hasA, quote_iff]
theorem say_b {what : Int} (h : 1 ≤ what ∧ what ≤ 22) (a b c m : List UInt8) : sayL what (quoteB a) (quoteB b) m = sayL what (quoteB a) (quoteB c) m ↔ (hasB2 what = false ∨ b = c) := by
  rcases say_cases h with rfl | rfl | rfl | rfl | rfl | rfl | rfl | rfl | rfl | rfl | rfl | rfl | rfl | rfl | rfl | rfl | rfl | rfl | rfl | rfl | rfl | rfl
  all_goals simp [sayL, hasB2, quote_iff]

/-! ### Signs and blanks alone -/
def lineC (c : UInt8) : Bool := decide (32 ≤ c.toNat) && decide (c.toNat ≤ 126)
def signL (l : List UInt8) : Bool := l.all lineC
theorem hexD_line_all : ∀ n : Fin 16, lineC (hexD n.val) = true := by decide
theorem formB_line (b : UInt8) : ∀ c ∈ formB b, lineC c = true := by
  intro c hc
  cases hb : bareB b
  · rw [formB_hex hb] at hc
    have h1 := hexD_line_all ⟨b.toNat / 16, by have := b.toNat_lt; omega⟩
    have h2 := hexD_line_all ⟨b.toNat % 16, by omega⟩
    simp at hc
    rcases hc with rfl | rfl | rfl | rfl
    · decide
    · decide
    · exact h1
    · exact h2
  · rw [formB_bare hb] at hc
    simp at hc
    subst hc
    simp only [bareB, Bool.and_eq_true] at hb
    simp only [lineC, Bool.and_eq_true]
    exact hb.1.1
theorem quoteB_line (l : List UInt8) : ∀ c ∈ quoteB l, lineC c = true := by
  intro c hc
  simp only [quoteB, List.mem_cons, List.mem_append, List.not_mem_nil, or_false] at hc
  rcases hc with rfl | h | rfl
  · decide
  · obtain ⟨b, _, hb⟩ := List.mem_flatMap.1 h
    exact formB_line b c hb
  · decide
theorem quote_line (l : List UInt8) : signL (quoteB l) = true := List.all_eq_true.2 fun c hc => quoteB_line l c hc
theorem line_append {a b : List UInt8} : signL (a ++ b) = (signL a && signL b) := List.all_append
theorem name_line (k : Int) : signL (nameK k) = true := by
  unfold nameK
  repeat' split
  all_goals decide
theorem say_line (what : Int) {a b m : List UInt8} (ha : signL a = true) (hb : signL b = true) (hm : signL m = true) : signL (sayL what a b m) = true := by
  by_cases h : 1 ≤ what ∧ what ≤ 22
  · rcases say_cases h with rfl | rfl | rfl | rfl | rfl | rfl | rfl | rfl | rfl | rfl | rfl | rfl | rfl | rfl | rfl | rfl | rfl | rfl | rfl | rfl | rfl | rfl
    all_goals simp only [sayL, line_append, ha, hb, hm, Bool.and_true, Bool.true_and, Int.reduceEq, if_true, if_false, reduceIte]
    all_goals decide
  · rw [say_none h]; rfl
theorem tell_line (kind what : Int) (a b : List UInt8) {m : List UInt8} (ha : signL (quoteB a) = true) (hb : signL (quoteB b) = true) (hm : signL m = true) : signL (tellL kind what a b m) = true := by
  unfold tellL
  split
  · rfl
  · rw [line_append, line_append, name_line, say_line what ha hb hm]; decide
end Go.Proofs.YtbaclgnohnmdgaaDoor
