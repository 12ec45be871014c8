/- Walks: the program's Phrase. -/
import Derived.Test.YtbaclgnohnmdgaaDoorWalkM18
import Derived.Deep.Cut
import Derived.Laws.Tables
set_option linter.unusedVariables false
set_option linter.unusedSimpArgs false
namespace Go.Proofs.YtbaclgnohnmdgaaDoor
open Go.RowKit
set_option linter.unusedVariables false

/-- The table of the phrases, as the program builds it. -/
def phV : Array Value := #[.string ⟨#[]⟩, .string ⟨#[99, 97, 110, 110, 111, 116, 32, 99, 114, 101, 97, 116, 101, 32, 100, 105, 114, 101, 99, 116, 111, 114, 121, 32, 65, 58, 32, 69]⟩, .string ⟨#[99, 97, 110, 110, 111, 116, 32, 114, 101, 109, 111, 118, 101, 32, 65, 58, 32, 69]⟩, .string ⟨#[114, 101, 102, 117, 115, 105, 110, 103, 32, 116, 111, 32, 114, 101, 109, 111, 118, 101, 32, 34, 46, 34, 32, 111, 114, 32, 34, 46, 46, 34, 32, 100, 105, 114, 101, 99, 116, 111, 114, 121, 58, 32, 115, 107, 105, 112, 112, 105, 110, 103, 32, 65]⟩, .string ⟨#[105, 116, 32, 105, 115, 32, 100, 97, 110, 103, 101, 114, 111, 117, 115, 32, 116, 111, 32, 111, 112, 101, 114, 97, 116, 101, 32, 114, 101, 99, 117, 114, 115, 105, 118, 101, 108, 121, 32, 111, 110, 32, 65]⟩, .string ⟨#[102, 97, 105, 108, 101, 100, 32, 116, 111, 32, 97, 99, 99, 101, 115, 115, 32, 65, 58, 32, 69]⟩, .string ⟨#[65, 58, 32, 104, 97, 114, 100, 32, 108, 105, 110, 107, 32, 110, 111, 116, 32, 97, 108, 108, 111, 119, 101, 100, 32, 102, 111, 114, 32, 100, 105, 114, 101, 99, 116, 111, 114, 121]⟩, .string ⟨#[102, 97, 105, 108, 101, 100, 32, 116, 111, 32, 99, 114, 101, 97, 116, 101, 32, 104, 97, 114, 100, 32, 108, 105, 110, 107, 32, 66, 58, 32, 69]⟩, .string ⟨#[102, 97, 105, 108, 101, 100, 32, 116, 111, 32, 99, 114, 101, 97, 116, 101, 32, 115, 121, 109, 98, 111, 108, 105, 99, 32, 108, 105, 110, 107, 32, 66, 58, 32, 69]⟩, .string ⟨#[65, 32, 97, 110, 100, 32, 66, 32, 97, 114, 101, 32, 116, 104, 101, 32, 115, 97, 109, 101, 32, 102, 105, 108, 101]⟩, .string ⟨#[116, 97, 114, 103, 101, 116, 32, 65, 32, 105, 115, 32, 110, 111, 116, 32, 97, 32, 100, 105, 114, 101, 99, 116, 111, 114, 121]⟩, .string ⟨#[99, 97, 110, 110, 111, 116, 32, 115, 116, 97, 116, 32, 65, 58, 32, 69]⟩, .string ⟨#[99, 97, 110, 110, 111, 116, 32, 111, 118, 101, 114, 119, 114, 105, 116, 101, 32, 110, 111, 110, 45, 100, 105, 114, 101, 99, 116, 111, 114, 121, 32, 66, 32, 119, 105, 116, 104, 32, 100, 105, 114, 101, 99, 116, 111, 114, 121, 32, 65]⟩, .string ⟨#[99, 97, 110, 110, 111, 116, 32, 111, 118, 101, 114, 119, 114, 105, 116, 101, 32, 100, 105, 114, 101, 99, 116, 111, 114, 121, 32, 66, 32, 119, 105, 116, 104, 32, 110, 111, 110, 45, 100, 105, 114, 101, 99, 116, 111, 114, 121, 32, 65]⟩, .string ⟨#[99, 97, 110, 110, 111, 116, 32, 109, 111, 118, 101, 32, 65, 32, 116, 111, 32, 97, 32, 115, 117, 98, 100, 105, 114, 101, 99, 116, 111, 114, 121, 32, 111, 102, 32, 105, 116, 115, 101, 108, 102, 44, 32, 66]⟩, .string ⟨#[99, 97, 110, 110, 111, 116, 32, 109, 111, 118, 101, 32, 65, 32, 116, 111, 32, 66, 58, 32, 69]⟩, .string ⟨#[45, 114, 32, 110, 111, 116, 32, 115, 112, 101, 99, 105, 102, 105, 101, 100, 59, 32, 111, 109, 105, 116, 116, 105, 110, 103, 32, 100, 105, 114, 101, 99, 116, 111, 114, 121, 32, 65]⟩, .string ⟨#[99, 97, 110, 110, 111, 116, 32, 99, 114, 101, 97, 116, 101, 32, 114, 101, 103, 117, 108, 97, 114, 32, 102, 105, 108, 101, 32, 66, 58, 32, 69]⟩, .string ⟨#[99, 97, 110, 110, 111, 116, 32, 99, 114, 101, 97, 116, 101, 32, 115, 121, 109, 98, 111, 108, 105, 99, 32, 108, 105, 110, 107, 32, 66, 58, 32, 69]⟩, .string ⟨#[99, 97, 110, 110, 111, 116, 32, 99, 111, 112, 121, 32, 97, 32, 100, 105, 114, 101, 99, 116, 111, 114, 121, 44, 32, 65, 44, 32, 105, 110, 116, 111, 32, 105, 116, 115, 101, 108, 102, 44, 32, 66]⟩, .string ⟨#[110, 111, 116, 32, 119, 114, 105, 116, 105, 110, 103, 32, 116, 104, 114, 111, 117, 103, 104, 32, 100, 97, 110, 103, 108, 105, 110, 103, 32, 115, 121, 109, 108, 105, 110, 107, 32, 66]⟩, .string ⟨#[101, 114, 114, 111, 114, 32, 119, 114, 105, 116, 105, 110, 103, 32, 66, 58, 32, 69]⟩, .string ⟨#[99, 97, 110, 110, 111, 116, 32, 99, 114, 101, 97, 116, 101, 32, 100, 105, 114, 101, 99, 116, 111, 114, 121, 32, 66, 58, 32, 69]⟩]
theorem phV_all : ∀ n : Fin 23, (n.val = 0 ∨ phV[n.val]? = some (.string ⟨(phraseL (n.val : Nat)).toArray⟩)) := by
  intro ⟨n, hn⟩
  have hc : n = 0 ∨ n = 1 ∨ n = 2 ∨ n = 3 ∨ n = 4 ∨ n = 5 ∨ n = 6 ∨ n = 7 ∨ n = 8 ∨ n = 9 ∨ n = 10 ∨ n = 11 ∨ n = 12 ∨ n = 13 ∨ n = 14 ∨ n = 15 ∨ n = 16 ∨ n = 17 ∨ n = 18 ∨ n = 19 ∨ n = 20 ∨ n = 21 ∨ n = 22 := by omega
  rcases hc with rfl | rfl | rfl | rfl | rfl | rfl | rfl | rfl | rfl | rfl | rfl | rfl | rfl | rfl | rfl | rfl | rfl | rfl | rfl | rfl | rfl | rfl | rfl
  · exact Or.inl rfl
  all_goals (refine Or.inr ?_; show _ = _; kernel_rfl)
theorem grownBy_row (W : World) (g : Nat) (cs : Array Value) : W.grownBy (W.setRow g cs) (some g) :=
  ⟨rfl, rfl, rfl, Nat.le_of_eq (setRow_size W g cs).symm, fun k _ hk => setRow_other W g k cs (fun e => hk (by rw [e]))⟩

set_option maxHeartbeats 4000000 in
theorem Phrase_any (what : Int) (w : World) (hL : LaidD w) :
    Calls Tryd.prog 9 #[.int .i64 what] w fun r w' => r = .returned (.string ⟨(phraseL what).toArray⟩) ∧ Below w.heap.size w w' := by
  clear hL
  by_cases h : 1 ≤ what ∧ what ≤ 22
  · obtain ⟨n, rfl⟩ : ∃ n : Nat, what = n := ⟨what.toNat, by omega⟩
    obtain ⟨h1, h2⟩ := h
    have hc : phV[n]? = some (.string ⟨(phraseL n).toArray⟩) := (phV_all ⟨n, by omega⟩).resolve_left (by simp; omega)
    have hl : (phraseL n).length ≤ 100000000 := by have := say_len n [65] [66] [69]; unfold phraseL; simp at this; omega
    have hz : phV.size = 23 := rfl
    have ho : phV.all (·.oneCell') = true := by kernel_rfl
    go_enter Tryd.func9, Tryd.ntmps9
    go_upto_region 3 with fail
    go_step
    refine wpList_build rfl 33 _ rfl (by kernel_rfl) ?_
    rw [show Option.getD (Program.built _ _ _) _ = phV by kernel_rfl]
    generalize phV = V at *
    go_upto_region 4 with (refine wpList_store_row rfl 33 _ _ rfl w.heap.size V rfl rfl 33 _ (World.alloc_heap_new w _) (by rw [hz]; kernel_rfl) (by rw [hz]; rfl) ho ?_)
    generalize hw : World.setRow _ _ _ = w1
    have gr : Below w.heap.size w w1 := by
      rw [← hw]
      exact (below_new w _).grown (grownBy_row _ _ _) (by simp) (fun k hk => by simp at hk; omega)
    have c1 : w1.cell? ⟨w.heap.size, n, none⟩ = some (.string ⟨(phraseL n).toArray⟩) := by
      rw [← hw]
      exact (cell_setRow_same _ _ n _ V _ _ (World.alloc_heap_new w _)).trans hc
    clear hw hc hz ho
    go_wp2_with fail
    refine (Clone_any _ _ hl).mono ?_
    rintro e w2 ⟨rfl, b2⟩
    go_wp2
    go_ret
    exact ⟨rfl, gr.trans (b2.mono gr.size)⟩
  · have hn : phraseL what = [] := say_none h _ _ _
    rw [hn]
    clear hn
    by_cases h1 : what < 1
    · clear h
      go_enter Tryd.func9, Tryd.ntmps9
      go_wp2
      go_ret
      exact ⟨rfl, Below.refl _ _⟩
    · have h2 : 22 < what := by omega
      clear h
      go_enter Tryd.func9, Tryd.ntmps9
      go_wp2
      go_ret
      exact ⟨rfl, Below.refl _ _⟩
end Go.Proofs.YtbaclgnohnmdgaaDoor
