/- Walks: the document's forms, and plain words. -/
import Derived.Test.YthhnkakobjbdlaaPure01
import Derived.Test.YthhnkakobjbdlaaAid
import Derived.Test.YthhnkakobjbdlaaRows
import Derived.StillTailTactics
import Derived.Deep.QuietTactic
import Derived.BigQuiet
set_option linter.unusedVariables false
set_option linter.unusedSimpArgs false
namespace Go.Proofs.Ythhnkakobjbdlaa
open Go.RowKit

set_option maxHeartbeats 800000 in
set_option maxRecDepth 100000 in
theorem Byte_any (c : UInt8) (w : World) :
    Calls Try.prog 22 #[.int .u8 (c.toNat : Int)] w fun e w' => e = .returned (.string ⟨(formB c).toArray⟩) ∧ Below w.heap.size w w' := by
  have h0 : (0 : Int) ≤ c.toNat := by omega
  have hc := c.toNat_lt
  have q0 : (0 : Int) ≤ (c.toNat : Int) / 16 := by omega
  have q1 : (c.toNat : Int) / 16 < 16 := by omega
  have r0 : (0 : Int) ≤ (c.toNat : Int) % 16 := by omega
  have r1 : (c.toNat : Int) % 16 < 16 := by omega
  have e1 : IntKind.u8.wrap ((c.toNat : Int) / 16) = (c.toNat : Int) / 16 := IntWalk.u8_in _ (by omega)
  have e2 : ((c.toNat : Int).tmod 16) = (c.toNat : Int) % 16 := IntWalk.rem_in _ _ h0
  by_cases b1 : (32 : Int) ≤ c.toNat
  · by_cases b2 : (c.toNat : Int) ≤ 126
    · cases b3 : ((c.toNat : Int) != 34)
      · (have hb : bareB c = false := by (rw [Bool.eq_false_iff]; simp [bareB]; simp at b3; omega)); have hf := Lib.hid (formB_hex hb); have g1 := Lib.hid (hex_atN (c.toNat / 16) (by simp [hexDigits]; omega)); have g2 := Lib.hid (hex_atN (c.toNat % 16) (by simp [hexDigits]; omega)); go_enter Try.func22, Try.ntmps22; go_wp2; go_still_tail 6, (by kernel_rfl); change wpList _ _ _ _ _ w.drew; generalize hwd : w.drew = w2; have hB : Below w.heap.size w w2 := (by rw [← hwd]; exact (Below.refl _ _).drew); clear hwd; have hcv := run_new_string (P := Try.prog) w2 36 9 Try.underlying36 Try.underlying5 Try.underlying9 [92, 120, hexDigits[c.toNat / 16]'(by simp [hexDigits]; omega), hexDigits[c.toNat % 16]'(by simp [hexDigits]; omega)] #[.int .u8 92, .int .u8 120, .int .u8 ((hexDigits[c.toNat / 16]'(by simp [hexDigits]; omega)).toNat : Int), .int .u8 ((hexDigits[c.toNat % 16]'(by simp [hexDigits]; omega)).toNat : Int)] rfl 4 rfl; unfold hexDigits at hcv; go_wp2; clear hcv; go_ret; exact ⟨by (rw [hf.out, ← g1.out, ← g2.out]; rfl), hB.alloc hB.size _⟩
      · cases b4 : ((c.toNat : Int) != 92)
        · (have hb : bareB c = false := by (rw [Bool.eq_false_iff]; simp [bareB]; simp at b4; omega)); have hf := Lib.hid (formB_hex hb); have g1 := Lib.hid (hex_atN (c.toNat / 16) (by simp [hexDigits]; omega)); have g2 := Lib.hid (hex_atN (c.toNat % 16) (by simp [hexDigits]; omega)); go_enter Try.func22, Try.ntmps22; go_wp2; go_still_tail 6, (by kernel_rfl); change wpList _ _ _ _ _ w.drew; generalize hwd : w.drew = w2; have hB : Below w.heap.size w w2 := (by rw [← hwd]; exact (Below.refl _ _).drew); clear hwd; have hcv := run_new_string (P := Try.prog) w2 36 9 Try.underlying36 Try.underlying5 Try.underlying9 [92, 120, hexDigits[c.toNat / 16]'(by simp [hexDigits]; omega), hexDigits[c.toNat % 16]'(by simp [hexDigits]; omega)] #[.int .u8 92, .int .u8 120, .int .u8 ((hexDigits[c.toNat / 16]'(by simp [hexDigits]; omega)).toNat : Int), .int .u8 ((hexDigits[c.toNat % 16]'(by simp [hexDigits]; omega)).toNat : Int)] rfl 4 rfl; unfold hexDigits at hcv; go_wp2; clear hcv; go_ret; exact ⟨by (rw [hf.out, ← g1.out, ← g2.out]; rfl), hB.alloc hB.size _⟩
        · have hb : bareB c = true := by simp [bareB]; simp at b3 b4; omega
          have hf := Lib.hid (formB_bare hb)
          go_enter Try.func22, Try.ntmps22
          have hcv := run_new_string (P := Try.prog) w 36 9 Try.underlying36 Try.underlying5 Try.underlying9 [c] #[.int .u8 (c.toNat : Int)] rfl 1 rfl
          go_wp2
          go_ret
          exact ⟨by (rw [hf.out]; rfl), (Below.refl _ _).alloc (Nat.le_refl _) _⟩
    · (have hb : bareB c = false := by (rw [Bool.eq_false_iff]; simp [bareB]; simp at b2; omega)); have hf := Lib.hid (formB_hex hb); have g1 := Lib.hid (hex_atN (c.toNat / 16) (by simp [hexDigits]; omega)); have g2 := Lib.hid (hex_atN (c.toNat % 16) (by simp [hexDigits]; omega)); go_enter Try.func22, Try.ntmps22; go_wp2; go_still_tail 6, (by kernel_rfl); change wpList _ _ _ _ _ w.drew; generalize hwd : w.drew = w2; have hB : Below w.heap.size w w2 := (by rw [← hwd]; exact (Below.refl _ _).drew); clear hwd; have hcv := run_new_string (P := Try.prog) w2 36 9 Try.underlying36 Try.underlying5 Try.underlying9 [92, 120, hexDigits[c.toNat / 16]'(by simp [hexDigits]; omega), hexDigits[c.toNat % 16]'(by simp [hexDigits]; omega)] #[.int .u8 92, .int .u8 120, .int .u8 ((hexDigits[c.toNat / 16]'(by simp [hexDigits]; omega)).toNat : Int), .int .u8 ((hexDigits[c.toNat % 16]'(by simp [hexDigits]; omega)).toNat : Int)] rfl 4 rfl; unfold hexDigits at hcv; go_wp2; clear hcv; go_ret; exact ⟨by (rw [hf.out, ← g1.out, ← g2.out]; rfl), hB.alloc hB.size _⟩
  · (have hb : bareB c = false := by (rw [Bool.eq_false_iff]; simp [bareB]; simp at b1; omega)); have hf := Lib.hid (formB_hex hb); have g1 := Lib.hid (hex_atN (c.toNat / 16) (by simp [hexDigits]; omega)); have g2 := Lib.hid (hex_atN (c.toNat % 16) (by simp [hexDigits]; omega)); go_enter Try.func22, Try.ntmps22; go_wp2; go_still_tail 6, (by kernel_rfl); change wpList _ _ _ _ _ w.drew; generalize hwd : w.drew = w2; have hB : Below w.heap.size w w2 := (by rw [← hwd]; exact (Below.refl _ _).drew); clear hwd; have hcv := run_new_string (P := Try.prog) w2 36 9 Try.underlying36 Try.underlying5 Try.underlying9 [92, 120, hexDigits[c.toNat / 16]'(by simp [hexDigits]; omega), hexDigits[c.toNat % 16]'(by simp [hexDigits]; omega)] #[.int .u8 92, .int .u8 120, .int .u8 ((hexDigits[c.toNat / 16]'(by simp [hexDigits]; omega)).toNat : Int), .int .u8 ((hexDigits[c.toNat % 16]'(by simp [hexDigits]; omega)).toNat : Int)] rfl 4 rfl; unfold hexDigits at hcv; go_wp2; clear hcv; go_ret; exact ⟨by (rw [hf.out, ← g1.out, ← g2.out]; rfl), hB.alloc hB.size _⟩

theorem Plain_any (l : List UInt8) (w : World) (hl : l.length ≤ 1000000) :
    Calls Try.prog 12 #[.string ⟨l.toArray⟩] w fun e w' => e = .returned (.bool (plainB l)) ∧ w = w' := by
  go_enter Try.func12, Try.ntmps12
  go_wp2
  go_loop [6] (fun i => ∃ k : Nat, k ≤ l.length ∧ i = .int .i64 k ∧ (l.take k).all plainC = true) (fun i => l.length - (intOf i).toNat)
  case atStart => exact ⟨0, Nat.zero_le _, rfl, rfl⟩
  case round =>
    obtain ⟨k, hk, rfl, ht⟩ := hrel
    have HT := Lib.hid ht
    clear ht
    by_cases hlt : k < l.length
    · have hs := plain_step l k hlt
      by_cases b1 : (33 : Int) ≤ l[k].toNat
      · by_cases b2 : (l[k].toNat : Int) ≤ 126
        · cases b3 : ((l[k].toNat : Int) == 34)
          · have hp : plainC l[k] = true := by simp [plainC]; simp at b3; omega
            have H3 := Lib.hid (hs HT.out hp)
            clear hs
            go_wp2
            go_round
            case rel => exact ⟨k + 1, by omega, by go_num, H3.out⟩
            case measure => simp [intOf]; omega
          · (have hp : plainC l[k] = false := by (rw [Bool.eq_false_iff]; simp [plainC]; simp at b3; omega)); have HP := Lib.hid (plain_no l k hlt hp); clear hp hs; go_wp2; go_ret; exact ⟨ret_bool (by rw [HP.out]), rfl⟩
        · (have hp : plainC l[k] = false := by (rw [Bool.eq_false_iff]; simp [plainC]; simp at b2; omega)); have HP := Lib.hid (plain_no l k hlt hp); clear hp hs; go_wp2; go_ret; exact ⟨ret_bool (by rw [HP.out]), rfl⟩
      · (have hp : plainC l[k] = false := by (rw [Bool.eq_false_iff]; simp [plainC]; simp at b1; omega)); have HP := Lib.hid (plain_no l k hlt hp); clear hp hs; go_wp2; go_ret; exact ⟨ret_bool (by rw [HP.out]), rfl⟩
    · obtain rfl : k = l.length := by omega
      rw [List.take_length] at HT
      have hq : plainB l = !l.isEmpty := by simp [plainB, HT.out]
      have HQ := Lib.hid hq
      clear hq hlt
      go_wp2
      go_ret
      exact ⟨ret_bool (by rw [HQ.out]), rfl⟩

theorem refPlain_any (l : List UInt8) (w : World) (hl : l.length ≤ 1000000) :
    Calls Try.prog 13 #[.string ⟨l.toArray⟩] w fun e w' => e = .returned (.bool (plainB l)) ∧ w = w' := by
  go_enter Try.func13, Try.ntmps13
  go_wp2
  go_loop [3] (fun i => ∃ k : Nat, k ≤ l.length ∧ i = .int .i64 k ∧ (l.take k).all plainC = true) (fun i => l.length - (intOf i).toNat)
  case atStart => exact ⟨0, Nat.zero_le _, rfl, rfl⟩
  case round =>
    obtain ⟨k, hk, rfl, ht⟩ := hrel
    have HT := Lib.hid ht
    clear ht
    by_cases hlt : k < l.length
    · have hs := plain_step l k hlt
      by_cases b1 : (33 : Int) ≤ l[k].toNat
      · by_cases b2 : (l[k].toNat : Int) ≤ 126
        · cases b3 : ((l[k].toNat : Int) == 34)
          · have hp : plainC l[k] = true := by simp [plainC]; simp at b3; omega
            have H3 := Lib.hid (hs HT.out hp)
            clear hs
            go_wp2
            go_round
            case rel => exact ⟨k + 1, by omega, by go_num, H3.out⟩
            case measure => simp [intOf]; omega
          · (have hp : plainC l[k] = false := by (rw [Bool.eq_false_iff]; simp [plainC]; simp at b3; omega)); have HP := Lib.hid (plain_no l k hlt hp); clear hp hs; go_wp2; go_ret; exact ⟨ret_bool (by rw [HP.out]), rfl⟩
        · (have hp : plainC l[k] = false := by (rw [Bool.eq_false_iff]; simp [plainC]; simp at b2; omega)); have HP := Lib.hid (plain_no l k hlt hp); clear hp hs; go_wp2; go_ret; exact ⟨ret_bool (by rw [HP.out]), rfl⟩
      · (have hp : plainC l[k] = false := by (rw [Bool.eq_false_iff]; simp [plainC]; simp at b1; omega)); have HP := Lib.hid (plain_no l k hlt hp); clear hp hs; go_wp2; go_ret; exact ⟨ret_bool (by rw [HP.out]), rfl⟩
    · obtain rfl : k = l.length := by omega
      rw [List.take_length] at HT
      have hq : plainB l = decide (0 < l.length) := by rw [Bool.eq_iff_iff]; simp [plainB, List.length_pos_iff]; exact fun _ => by simpa using HT.out
      have HQ := Lib.hid hq
      clear hq hlt
      go_wp2
      go_ret
      exact ⟨ret_bool (by rw [HQ.out]), rfl⟩

end Go.Proofs.Ythhnkakobjbdlaa
