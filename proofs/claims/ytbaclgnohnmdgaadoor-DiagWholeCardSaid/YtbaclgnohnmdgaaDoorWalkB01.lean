/- Walks: the document's forms, and plain words. -/
import Derived.Test.YtbaclgnohnmdgaaDoorPure01
import Derived.Test.YtbaclgnohnmdgaaDoorAid
import Derived.Test.YtbaclgnohnmdgaaDoorRows
import Derived.StillTailTactics
import Derived.Deep.QuietTactic
import Derived.BigQuiet
set_option linter.unusedVariables false
set_option linter.unusedSimpArgs false
namespace Go.Proofs.YtbaclgnohnmdgaaDoor
open Go.RowKit

set_option maxHeartbeats 800000 in
set_option maxRecDepth 100000 in
theorem Byte_any (c : UInt8) (w : World) :
    Calls Tryd.prog 23 #[.int .u8 (c.toNat : Int)] w fun e w' => e = .returned (.string ⟨(formB c).toArray⟩) ∧ Below w.heap.size w w' := by
  have h0 : (0 : Int) ≤ c.toNat := by omega
  have hc := c.toNat_lt
  have q0 : (0 : Int) ≤ (c.toNat : Int) / 16 := by omega
  have q1 : (c.toNat : Int) / 16 < 16 := by omega
  have r0 : (0 : Int) ≤ (c.toNat : Int) % 16 := by omega
  have r1 : (c.toNat : Int) % 16 < 16 := by omega
  have e1 : IntKind.u8.wrap ((c.toNat : Int) / 16) = (c.toNat : Int) / 16 := IntWalk.u8_in _ (by omega)
  have e2 : ((c.toNat : Int).tmod 16) = (c.toNat : Int) % 16 := IntWalk.rem_in _ _ h0
  by_cases b1 : (32 : Int) ≤ c.toNat
  · by_cases b2 : (c.toNat : Int) ≤ 126
    · cases b3 : ((c.toNat : Int) != 34)
      · (have hb : bareB c = false := by (rw [Bool.eq_false_iff]; simp [bareB]; simp at b3; omega)); have hf := Lib.hid (formB_hex hb); have g1 := Lib.hid (hex_atN (c.toNat / 16) (by simp [hexDigits]; omega)); have g2 := Lib.hid (hex_atN (c.toNat % 16) (by simp [hexDigits]; omega)); go_enter Tryd.func23, Tryd.ntmps23; go_wp2; go_still_tail 6, (by kernel_rfl); change wpList _ _ _ _ _ w.drew; generalize hwd : w.drew = w2; have hB : Below w.heap.size w w2 := (by rw [← hwd]; exact (Below.refl _ _).drew); clear hwd; have hcv := run_new_string (P := Tryd.prog) w2 38 9 Tryd.underlying38 Tryd.underlying5 Tryd.underlying9 [92, 120, hexDigits[c.toNat / 16]'(by simp [hexDigits]; omega), hexDigits[c.toNat % 16]'(by simp [hexDigits]; omega)] #[.int .u8 92, .int .u8 120, .int .u8 ((hexDigits[c.toNat / 16]'(by simp [hexDigits]; omega)).toNat : Int), .int .u8 ((hexDigits[c.toNat % 16]'(by simp [hexDigits]; omega)).toNat : Int)] rfl 4 rfl; unfold hexDigits at hcv; go_wp2; clear hcv; go_ret; exact ⟨by (rw [hf.out, ← g1.out, ← g2.out]; rfl), hB.alloc hB.size _⟩
      · cases b4 : ((c.toNat : Int) != 92)
        · (have hb : bareB c = false := by (rw [Bool.eq_false_iff]; simp [bareB]; simp at b4; omega)); have hf := Lib.hid (formB_hex hb); have g1 := Lib.hid (hex_atN (c.toNat / 16) (by simp [hexDigits]; omega)); have g2 := Lib.hid (hex_atN (c.toNat % 16) (by simp [hexDigits]; omega)); go_enter Tryd.func23, Tryd.ntmps23; go_wp2; go_still_tail 6, (by kernel_rfl); change wpList _ _ _ _ _ w.drew; generalize hwd : w.drew = w2; have hB : Below w.heap.size w w2 := (by rw [← hwd]; exact (Below.refl _ _).drew); clear hwd; have hcv := run_new_string (P := Tryd.prog) w2 38 9 Tryd.underlying38 Tryd.underlying5 Tryd.underlying9 [92, 120, hexDigits[c.toNat / 16]'(by simp [hexDigits]; omega), hexDigits[c.toNat % 16]'(by simp [hexDigits]; omega)] #[.int .u8 92, .int .u8 120, .int .u8 ((hexDigits[c.toNat / 16]'(by simp [hexDigits]; omega)).toNat : Int), .int .u8 ((hexDigits[c.toNat % 16]'(by simp [hexDigits]; omega)).toNat : Int)] rfl 4 rfl; unfold hexDigits at hcv; go_wp2; clear hcv; go_ret; exact ⟨by (rw [hf.out, ← g1.out, ← g2.out]; rfl), hB.alloc hB.size _⟩
        · have hb : bareB c = true := by simp [bareB]; simp at b3 b4; omega
          have hf := Lib.hid (formB_bare hb)
          go_enter Tryd.func23, Tryd.ntmps23
          have hcv := run_new_string (P := Tryd.prog) w 38 9 Tryd.underlying38 Tryd.underlying5 Tryd.underlying9 [c] #[.int .u8 (c.toNat : Int)] rfl 1 rfl
          go_wp2
          go_ret
          exact ⟨by (rw [hf.out]; rfl), (Below.refl _ _).alloc (Nat.le_refl _) _⟩
    · (have hb : bareB c = false := by (rw [Bool.eq_false_iff]; simp [bareB]; simp at b2; omega)); have hf := Lib.hid (formB_hex hb); have g1 := Lib.hid (hex_atN (c.toNat / 16) (by simp [hexDigits]; omega)); have g2 := Lib.hid (hex_atN (c.toNat % 16) (by simp [hexDigits]; omega)); go_enter Tryd.func23, Tryd.ntmps23; go_wp2; go_still_tail 6, (by kernel_rfl); change wpList _ _ _ _ _ w.drew; generalize hwd : w.drew = w2; have hB : Below w.heap.size w w2 := (by rw [← hwd]; exact (Below.refl _ _).drew); clear hwd; have hcv := run_new_string (P := Tryd.prog) w2 38 9 Tryd.underlying38 Tryd.underlying5 Tryd.underlying9 [92, 120, hexDigits[c.toNat / 16]'(by simp [hexDigits]; omega), hexDigits[c.toNat % 16]'(by simp [hexDigits]; omega)] #[.int .u8 92, .int .u8 120, .int .u8 ((hexDigits[c.toNat / 16]'(by simp [hexDigits]; omega)).toNat : Int), .int .u8 ((hexDigits[c.toNat % 16]'(by simp [hexDigits]; omega)).toNat : Int)] rfl 4 rfl; unfold hexDigits at hcv; go_wp2; clear hcv; go_ret; exact ⟨by (rw [hf.out, ← g1.out, ← g2.out]; rfl), hB.alloc hB.size _⟩
  · (have hb : bareB c = false := by (rw [Bool.eq_false_iff]; simp [bareB]; simp at b1; omega)); have hf := Lib.hid (formB_hex hb); have g1 := Lib.hid (hex_atN (c.toNat / 16) (by simp [hexDigits]; omega)); have g2 := Lib.hid (hex_atN (c.toNat % 16) (by simp [hexDigits]; omega)); go_enter Tryd.func23, Tryd.ntmps23; go_wp2; go_still_tail 6, (by kernel_rfl); change wpList _ _ _ _ _ w.drew; generalize hwd : w.drew = w2; have hB : Below w.heap.size w w2 := (by rw [← hwd]; exact (Below.refl _ _).drew); clear hwd; have hcv := run_new_string (P := Tryd.prog) w2 38 9 Tryd.underlying38 Tryd.underlying5 Tryd.underlying9 [92, 120, hexDigits[c.toNat / 16]'(by simp [hexDigits]; omega), hexDigits[c.toNat % 16]'(by simp [hexDigits]; omega)] #[.int .u8 92, .int .u8 120, .int .u8 ((hexDigits[c.toNat / 16]'(by simp [hexDigits]; omega)).toNat : Int), .int .u8 ((hexDigits[c.toNat % 16]'(by simp [hexDigits]; omega)).toNat : Int)] rfl 4 rfl; unfold hexDigits at hcv; go_wp2; clear hcv; go_ret; exact ⟨by (rw [hf.out, ← g1.out, ← g2.out]; rfl), hB.alloc hB.size _⟩

end Go.Proofs.YtbaclgnohnmdgaaDoor
