/- Walks: the document's phrases and lines. -/
import Derived.Test.YtbaclgnohnmdgaaDoorPure18b
import Derived.Test.YtbaclgnohnmdgaaDoorWalkA17
import Derived.Test.YtbaclgnohnmdgaaDoorQuote17
import Derived.Test.YtbaclgnohnmdgaaDoorWalkB02
set_option linter.unusedVariables false
set_option linter.unusedSimpArgs false
namespace Go.Proofs.YtbaclgnohnmdgaaDoor
open Go.RowKit

set_option maxHeartbeats 4000000 in
theorem refsay_any (what : Int) (a b m : List UInt8) (w : World) (ha : a.length ≤ 1000000) (hb : b.length ≤ 1000000) (hm : m.length ≤ 1000000) :
    Calls Tryd.prog 15 #[.int .i64 what, .string ⟨a.toArray⟩, .string ⟨b.toArray⟩, .string ⟨m.toArray⟩] w fun e w' => e = .returned (.string ⟨(sayL what a b m).toArray⟩) ∧ w = w' := by
  by_cases h : 1 ≤ what ∧ what ≤ 22
  · rcases say_cases h with rfl | rfl | rfl | rfl | rfl | rfl | rfl | rfl | rfl | rfl | rfl | rfl | rfl | rfl | rfl | rfl | rfl | rfl | rfl | rfl | rfl | rfl
    all_goals clear h
    all_goals go_enter Tryd.func15, Tryd.ntmps15
    all_goals go_wp2
    all_goals go_ret
    all_goals exact ⟨by simp [sayL], rfl⟩
  · have HN := Lib.hid (say_none h a b m)
    have h1 : ∀ j : Int, 1 ≤ j → j ≤ 22 → (what == j) = false := fun j h1 h2 => by
      rw [beq_eq_false_iff_ne]; intro e; exact h ⟨by omega, by omega⟩
    have c1 := h1 1 (by decide) (by decide)
    have c2 := h1 2 (by decide) (by decide)
    have c3 := h1 3 (by decide) (by decide)
    have c4 := h1 4 (by decide) (by decide)
    have c5 := h1 5 (by decide) (by decide)
    have c6 := h1 6 (by decide) (by decide)
    have c7 := h1 7 (by decide) (by decide)
    have c8 := h1 8 (by decide) (by decide)
    have c9 := h1 9 (by decide) (by decide)
    have c10 := h1 10 (by decide) (by decide)
    have c11 := h1 11 (by decide) (by decide)
    have c12 := h1 12 (by decide) (by decide)
    have c13 := h1 13 (by decide) (by decide)
    have c14 := h1 14 (by decide) (by decide)
    have c15 := h1 15 (by decide) (by decide)
    have c16 := h1 16 (by decide) (by decide)
    have c17 := h1 17 (by decide) (by decide)
    have c18 := h1 18 (by decide) (by decide)
    have c19 := h1 19 (by decide) (by decide)
    have c20 := h1 20 (by decide) (by decide)
    have c21 := h1 21 (by decide) (by decide)
    have c22 := h1 22 (by decide) (by decide)
    clear h h1
    go_enter Tryd.func15, Tryd.ntmps15
    go_wp2
    go_ret
    exact ⟨by rw [HN.out]; rfl, rfl⟩

theorem say_len (what : Int) (a b m : List UInt8) : (sayL what a b m).length ≤ a.length + b.length + m.length + 200 := by
  by_cases h : 1 ≤ what ∧ what ≤ 22
  · rcases say_cases h with rfl | rfl | rfl | rfl | rfl | rfl | rfl | rfl | rfl | rfl | rfl | rfl | rfl | rfl | rfl | rfl | rfl | rfl | rfl | rfl | rfl | rfl
    all_goals simp [sayL]
    all_goals omega
  · rw [say_none h]; simp
theorem nameK_len (k : Int) : (nameK k).length ≤ 5 := by
  unfold nameK
  repeat' split
  all_goals decide

theorem refPhrase_any (what : Int) (w : World) :
    Calls Tryd.prog 10 #[.int .i64 what] w fun e w' => e = .returned (.string ⟨(phraseL what).toArray⟩) ∧ w = w' := by
  go_enter Tryd.func10, Tryd.ntmps10
  go_wp2_with fail
  refine (refsay_any what [65] [66] [69] _ (by decide) (by decide) (by decide)).mono ?_
  rintro e w2 ⟨rfl, rfl⟩
  go_wp2
  go_ret
  exact ⟨rfl, rfl⟩

set_option maxHeartbeats 2000000 in
theorem refTell_any (kind what : Int) (a b : List UInt8) (e : Int) (w : World) (ha : a.length ≤ 1000) (hb : b.length ≤ 1000) :
    Calls Tryd.prog 8 #[.int .i64 kind, .int .i64 what, .string ⟨a.toArray⟩, .string ⟨b.toArray⟩, .int .i64 e] w fun r w' => r = .returned (.string ⟨(tellL kind what a b (msgOf e)).toArray⟩) ∧ Below w.heap.size w w' := by
  have hqa := quoteB_len a
  have hqb := quoteB_len b
  have hms := msgOf_small e
  have hnl := nameK_len kind
  have hsl := say_len what (quoteB a) (quoteB b) (msgOf e)
  have hNm := refName_any kind w
  have hSy := fun W => refsay_any what (quoteB a) (quoteB b) (msgOf e) W (by omega) (by omega) (by omega)
  have hT : tellL kind what a b (msgOf e) = if nameK kind = [] ∨ sayL what (quoteB a) (quoteB b) (msgOf e) = [] then [] else nameK kind ++ [58, 32] ++ sayL what (quoteB a) (quoteB b) (msgOf e) := rfl
  generalize tellL kind what a b (msgOf e) = T at *
  generalize nameK kind = N at *
  generalize sayL what (quoteB a) (quoteB b) (msgOf e) = S at *
  have HT := Lib.hid hT
  clear hT
  have key : ∀ x : World, Below w.heap.size w x → True := fun _ _ => trivial
  clear key
  go_enter Tryd.func8, Tryd.ntmps8
  go_wp2_with fail
  refine hNm.mono ?_
  rintro r w1 ⟨rfl, b1⟩
  clear hNm
  go_wp2_with fail
  refine (refQuoteK_any a _ (by omega)).mono ?_
  rintro r w2 ⟨rfl, b2⟩
  replace b2 := b1.trans (b2.mono b1.size)
  clear b1
  go_wp2_with fail
  refine (refQuoteK_any b _ (by omega)).mono ?_
  rintro r w3 ⟨rfl, b3⟩
  replace b3 := b2.trans (b3.mono b2.size)
  clear b2
  go_wp2_with fail
  refine (refMessage_any e _).mono ?_
  rintro r w4 ⟨rfl, hw4⟩
  subst hw4
  go_wp2_with fail
  refine (hSy _).mono ?_
  rintro r w5 ⟨rfl, hw5⟩
  subst hw5
  clear hSy
  by_cases h1 : N = []
  · have HN : Hid (T = []) := by show _ = _; rw [HT.out, if_pos (.inl h1)]
    subst h1
    go_wp2
    go_ret
    exact ⟨by rw [HN.out]; rfl, b3⟩
  have h1b : (N == []) = false := by simpa using h1
  by_cases h2 : S = []
  · have HN : Hid (T = []) := by show _ = _; rw [HT.out, if_pos (.inr h2)]
    subst h2
    clear h1
    go_wp2
    go_ret
    exact ⟨by rw [HN.out]; rfl, b3⟩
  have h2b : (S == []) = false := by simpa using h2
  have HN : Hid (T = N ++ [58, 32] ++ S) := by show _ = _; rw [HT.out, if_neg (fun c => c.elim h1 h2)]
  clear h1 h2
  go_wp2
  go_ret
  exact ⟨by rw [HN.out]; simp, b3⟩
end Go.Proofs.YtbaclgnohnmdgaaDoor
