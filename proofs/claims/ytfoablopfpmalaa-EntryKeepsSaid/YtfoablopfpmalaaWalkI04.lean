/- Walks: awake. -/
import Derived.Test.YtfoablopfpmalaaWalkB04
import Derived.Test.YtfoablopfpmalaaWalkF04
import Derived.Test.YtfoablopfpmalaaWalkG04
import Derived.Test.YtfoablopfpmalaaWalkH04
namespace Go.Proofs.Ytfoablopfpmalaa
open Go.RowKit

abbrev awL : List Ent := [([97], 2), ([99], 3)]
abbrev awM : List Ent := [([97], 2), ([98], 5), ([99], 3)]
theorem aw_short (b : Nat) (hb : 1 ≤ b) : shortP b awL ∧ shortP b awM := by
  constructor <;> · intro e he; simp at he; rcases he with rfl | rfl | rfl <;> simpa using hb
theorem new_ents {w : World} {L : List Ent} {e : Ending} {w' : World} (h : NewEnts w L e w') (hl : L.length ≤ maxLen) : ∃ v, e = .returned v ∧ Ents w' v L ∧ Below w.heap.size w w' := by
  obtain ⟨g, rfl, _, hB, hb⟩ := h
  exact ⟨_, rfl, blk_ents hB hl, hb⟩
theorem aw_with (v : Value) (w : World) (hv : Ents w v awL) :
    Calls Try.prog 19 #[v, .string ⟨#[98]⟩, .int .i64 5] w fun e w' => ∃ x, e = .returned x ∧ Ents w' x awM ∧ Below w.heap.size w w' := by
  refine (With_any awL [98] 5 v w hv (by decide +kernel) (by decide) (aw_short _ (by decide)).1 (by decide)).mono ?_
  intro e w' h
  rw [show withB awL [98] 5 = awM from by decide +kernel] at h
  exact new_ents h (by decide)
theorem aw_without (v : Value) (w : World) (hv : Ents w v awM) :
    Calls Try.prog 16 #[v, .string ⟨#[98]⟩] w fun e w' => ∃ x, e = .returned x ∧ Ents w' x awL ∧ Below w.heap.size w w' := by
  refine (Without_any awM [98] v w hv (by decide +kernel) (by decide) (aw_short _ (by decide)).2).mono ?_
  intro e w' h
  rw [show withoutB awM [98] = awL from by decide +kernel] at h
  exact new_ents h (by decide)
theorem aw_findM (v : Value) (w : World) (hv : Ents w v awM) :
    Calls Try.prog 12 #[v, .string ⟨#[98]⟩] w fun e w' => e = .returned (.tuple #[.int .i64 5, .bool true]) ∧ Below w.heap.size w w' := by
  have := Find_any awM [98] v w hv (by decide +kernel) (by decide)
  rw [show numB awM [98] = 5 from by decide +kernel, show hasB awM [98] = true from by decide +kernel] at this
  exact this
theorem aw_findL (v : Value) (w : World) (hv : Ents w v awL) :
    Calls Try.prog 12 #[v, .string ⟨#[98]⟩] w fun e w' => e = .returned (.tuple #[.int .i64 0, .bool false]) ∧ Below w.heap.size w w' := by
  have := Find_any awL [98] v w hv (by decide +kernel) (by decide)
  rw [show numB awL [98] = 0 from by decide +kernel, show hasB awL [98] = false from by decide +kernel] at this
  exact this
theorem aw_rightM (v : Value) (w : World) (hv : Ents w v awM) :
    Calls Try.prog 10 #[v] w fun e w' => e = .returned (.bool true) ∧ Below w.heap.size w w' := by
  have := Right_any awM v w hv (aw_short _ (by decide)).2
  rw [show rightB awM = true from by decide +kernel] at this
  exact this
theorem aw_right0 (v : Value) (w : World) (hv : Ents w v [([97], 0)]) :
    Calls Try.prog 10 #[v] w fun e w' => e = .returned (.bool false) ∧ Below w.heap.size w w' := by
  have := Right_any [([97], 0)] v w hv (by intro e he; simp at he; subst he; simp)
  rw [show rightB [([97], 0)] = false from by decide +kernel] at this
  exact this
theorem aw_names (v : Value) (w : World) (hv : Ents w v awM) :
    Calls Try.prog 14 #[v] w fun e w' => ∃ a cap, e = .returned (.slice a 3 cap) ∧ Below w.heap.size w w' := by
  refine (Names_any awM v w hv (by decide) (aw_short _ (by decide)).2).mono ?_
  rintro e w' ⟨x, rfl, ⟨a, cap, rfl, _, _⟩, hb⟩
  exact ⟨a, cap, rfl, hb⟩
theorem lit_ents (w : World) (L : List Ent) (C : Array Value) (hC : C = (entsV L).toArray) (n : Nat) (hn : n = L.length) (hl : L.length ≤ maxLen) (t : TypeId) : Ents (w.alloc (.cells C t)) (.slice (some ⟨w.heap.size, 0, none⟩) n n) L := by
  subst hC hn
  exact blk_ents (Blk.new w t _) hl
theorem lit_below (w : World) (C : Array Value) (t : TypeId) : Below w.heap.size w (w.alloc (.cells C t)) := (Below.refl _ w).alloc (Nat.le_refl _) _

set_option maxHeartbeats 4000000 in
theorem awake_any (w : World) : Calls Try.prog 8 #[] w fun e w' => e = .returned (.bool true) ∧ Below w.heap.size w w' := by
  go_enter Try.func8, Try.ntmps8
  have sL := lit_ents w awL #[.string ⟨#[97]⟩, .int .i64 2, .string ⟨#[99]⟩, .int .i64 3] rfl 2 rfl (by decide) 30
  have h1 := lit_below w #[.string ⟨#[97]⟩, .int .i64 2, .string ⟨#[99]⟩, .int .i64 3] 30
  go_wp2_with fail
  refine (aw_with _ _ sL).mono ?_
  rintro e W2 ⟨x, rfl, ⟨am, cm, rfl, m1, m2, m3⟩, b⟩
  have sM : Ents W2 (.slice am 3 cm) awM := ⟨am, cm, rfl, m1, m2, m3⟩
  clear m1 m2 m3
  replace sL := sL.below b
  replace h1 := h1.trans (b.mono h1.size)
  clear b
  go_wp2_with fail
  refine (aw_findM _ _ sM).mono ?_
  rintro e W3 ⟨rfl, b⟩
  replace sL := sL.below b
  replace sM := sM.below b
  replace h1 := h1.trans (b.mono h1.size)
  clear b
  go_wp2_with fail
  refine (aw_findL _ _ sL).mono ?_
  rintro e W4 ⟨rfl, b⟩
  replace sL := sL.below b
  replace sM := sM.below b
  replace h1 := h1.trans (b.mono h1.size)
  clear b
  have s3 := lit_ents W4 awM #[.string ⟨#[97]⟩, .int .i64 2, .string ⟨#[98]⟩, .int .i64 5, .string ⟨#[99]⟩, .int .i64 3] rfl 3 rfl (by decide) 30
  have b := lit_below W4 #[.string ⟨#[97]⟩, .int .i64 2, .string ⟨#[98]⟩, .int .i64 5, .string ⟨#[99]⟩, .int .i64 3] 30
  go_wp2_with fail
  replace sL := sL.below b
  replace sM := sM.below b
  replace h1 := h1.trans (b.mono h1.size)
  clear b
  refine (refSame_any _ _ _ _ _ sM s3).mono ?_
  rintro e W5 ⟨rfl, b⟩
  replace sL := sL.below b
  replace sM := sM.below b
  replace h1 := h1.trans (b.mono h1.size)
  clear b s3
  rw [show decide (awM = awM) = true from decide_eq_true rfl]
  go_wp2_with fail
  refine (aw_without _ _ sM).mono ?_
  rintro e W6 ⟨x, rfl, ⟨aw, cw, rfl, m1, m2, m3⟩, b⟩
  have sW : Ents W6 (.slice aw 2 cw) awL := ⟨aw, cw, rfl, m1, m2, m3⟩
  clear m1 m2 m3
  replace sL := sL.below b
  replace sM := sM.below b
  replace h1 := h1.trans (b.mono h1.size)
  clear b
  go_wp2_with fail
  refine (refSame_any _ _ _ _ _ sW sL).mono ?_
  rintro e W7 ⟨rfl, b⟩
  replace sM := sM.below b
  replace h1 := h1.trans (b.mono h1.size)
  clear b sL sW
  rw [show decide (awL = awL) = true from decide_eq_true rfl]
  go_wp2_with fail
  refine (aw_rightM _ _ sM).mono ?_
  rintro e W8 ⟨rfl, b⟩
  replace sM := sM.below b
  replace h1 := h1.trans (b.mono h1.size)
  clear b
  have s0 := lit_ents W8 [([97], 0)] #[.string ⟨#[97]⟩, .int .i64 0] rfl 1 rfl (by decide) 30
  have b := lit_below W8 #[.string ⟨#[97]⟩, .int .i64 0] 30
  go_wp2_with fail
  replace sM := sM.below b
  replace h1 := h1.trans (b.mono h1.size)
  clear b
  refine (aw_right0 _ _ s0).mono ?_
  rintro e W9 ⟨rfl, b⟩
  replace sM := sM.below b
  replace h1 := h1.trans (b.mono h1.size)
  clear b s0
  go_wp2_with fail
  refine (aw_names _ _ sM).mono ?_
  rintro e W10 ⟨an, cn, rfl, b⟩
  replace h1 := h1.trans (b.mono h1.size)
  clear b
  go_wp2
  go_ret
  exact ⟨rfl, h1⟩
end Go.Proofs.Ytfoablopfpmalaa
