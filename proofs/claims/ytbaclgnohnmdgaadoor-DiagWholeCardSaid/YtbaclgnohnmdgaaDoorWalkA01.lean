/- Walks: package quote's bytes and forms. -/
import Derived.Test.YtbaclgnohnmdgaaDoorPure01
import Derived.Test.YtbaclgnohnmdgaaDoorAid
import Derived.Test.YtbaclgnohnmdgaaDoorRows
import Derived.StillTailTactics
import Derived.Deep.QuietTactic
import Derived.BigQuiet
import Derived.Deep.RegionLaw
import Derived.Deep.RegionHeld3
set_option linter.unusedVariables false
set_option linter.unusedSimpArgs false
namespace Go.Proofs.YtbaclgnohnmdgaaDoor
open Go.RowKit

theorem bare_any (c : UInt8) (w : World) :
    Calls Tryd.prog 26 #[.int .u8 (c.toNat : Int)] w fun e w' => e = .returned (.bool (bareB c)) ∧ w = w' := by
  have h0 : (0 : Int) ≤ c.toNat := by omega
  go_enter Tryd.func26, Tryd.ntmps26
  go_wp2
  all_goals (go_ret; refine ⟨ret_bool ?_, rfl⟩; rw [Bool.eq_iff_iff]; simp [bareB]; omega)

theorem Tryd.info5 : (Tryd.prog.info? 5).map (fun i => (i.zero, i.size, i.bytes)) = some (some (.int .u8 0), 1, 1) := by kernel_rfl

set_option maxHeartbeats 1000000 in
theorem Quote_any (l : List UInt8) (w : World) (hl : l.length ≤ 1000000) :
    Calls Tryd.prog 20 #[.string ⟨l.toArray⟩] w fun e w' => e = .returned (.string ⟨(quoteB l).toArray⟩) ∧ Below w.heap.size w w' := by
  obtain ⟨i0, hi, hz0, hz1, hz2⟩ := info_parts Tryd.info5
  go_enter Tryd.func20, Tryd.ntmps20
  go_wp2_with (first | (at_make; (refine wpList_make_own _ rfl _ _ 38 rfl w.heap.size 5 i0 (.int .u8 0) 1 Tryd.underlying38 hi hz0 hz1 _ _ _ (l.length + 2) rfl rfl (by omega) (by rw [hz2]; omega) (by unfold maxLen; omega) (Nat.le_refl _) ?_); intro w1 hown1 hgr1) | (at_builtin; (refine wpList_append_new rfl (.tmp 9) (.tmp 10) 38 5 rfl Tryd.underlying38 hi hz0 hz1 hz2 rfl (by decide) (by decide) w.heap.size _ 1 rfl rfl hown1 rfl (by simp [Value.oneCell']) (by omega) hgr1.size ?_); intro v2 w2 hown2 hgr2))
  have B2 : Below w.heap.size w w2 := ((Below.refl _ _).grown hgr1 (Nat.le_refl _) (by simp)).trans hgr2
  simp only [Nat.zero_add, List.nil_append] at hown2
  clear hown1 hgr1 hgr2
  go_loopw [3, 14] (fun v i wr => ∃ k : Nat, k ≤ l.length ∧ i = .int .i64 k ∧ wr.ownsRow w.heap.size 5 1 v (1 + (formsB (l.take k)).length) (bytesV (34 :: formsB (l.take k))) ∧ Below w.heap.size w wr) (fun _ i _ => l.length - (intOf i).toNat)
  case atStart => exact ⟨0, Nat.zero_le _, rfl, hown2, B2⟩
  case round =>
    obtain ⟨k, hk, rfl, hown, hb⟩ := hrel
    by_cases hlt : k < l.length
    · have hsn := Lib.hid (formsB_snoc l k hlt)
      have hfl := formsB_take_len l k
      have hc := l[k].toNat_lt
      have q0 : (0 : Int) ≤ (l[k].toNat : Int) / 16 := by omega
      have q1 : (l[k].toNat : Int) / 16 < 16 := by omega
      have e15 := bits_and15 l[k].toNat hc
      have r0 : (0 : Int) ≤ (l[k].toNat : Int) % 16 := by omega
      have r1 : (l[k].toNat : Int) % 16 < 16 := by omega
      cases hbk : bareB l[k]
      · go_wp2_with (first | (go_at_call 26; refine (bare_any _ _).mono ?_; rintro e w' ⟨rfl, rfl⟩))
        go_region_held3 (fun w' => True) (exact trivial) ((refine step_append_own (by rfl) (.tmp 27) (.tmp 38) 38 5 (by rfl) Tryd.underlying38 hi hz0 hz1 hz2 rfl (by decide) (by decide) w.heap.size _ 4 _ (by rfl) (by rfl) (hown.alloc _).drew (by rfl) (cells_block _ _ _) (by simp [Value.oneCell']) (by omega) (by have := hb.size; simp; omega) ?_; intro v3 w3 hown3 hb3))
        all_goals
          go_wp2
          go_roundw
          case rel =>
            have g1 := hex_at (l[k].toNat / 16) ((l[k].toNat : Int) / 16) (by omega) (by simp [hexDigits]; omega)
            have g2 := hex_at (l[k].toNat % 16) ((l[k].toNat : Int) % 16) (by omega) (by simp [hexDigits]; omega)
            unfold hexDigits at g1 g2
            rw [g1, g2] at hown3
            refine ⟨k + 1, by omega, by go_num, ?_, hb.trans (((Below.refl _ _).alloc hb.size _).drew.trans hb3)⟩
            rw [hsn.out, formB_hex hbk]; simpa [bytesV, Nat.add_assoc] using hown3
          case measure => simp [intOf]; omega
      · go_wp2_with (first | (go_at_call 26; refine (bare_any _ _).mono ?_; rintro e w' ⟨rfl, rfl⟩) | (at_builtin; refine wpList_append_new rfl (.tmp 21) (.tmp 25) 38 5 rfl Tryd.underlying38 hi hz0 hz1 hz2 rfl (by decide) (by decide) w.heap.size _ 1 rfl rfl hown rfl (by simp [Value.oneCell']) (by omega) hb.size ?_; intro v3 w3 hown3 hb3))
        go_roundw
        case rel => exact ⟨k + 1, by omega, by go_num, by rw [hsn.out, formB_bare hbk]; simpa [bytesV, Nat.add_assoc] using hown3, hb.trans hb3⟩
        case measure => simp [intOf]; omega
    · obtain rfl : k = l.length := by omega
      rw [List.take_length] at hown
      have hfl := formsB_len l
      go_wp2_with (first | (at_builtin; refine wpList_append_new rfl (.tmp 41) (.tmp 42) 38 5 rfl Tryd.underlying38 hi hz0 hz1 hz2 rfl (by decide) (by decide) w.heap.size _ 1 rfl rfl hown rfl (by simp [Value.oneCell']) (by omega) hb.size ?_; intro v3 w3 hown3 hb3; have hcv := run_own_string (P := Tryd.prog) (l := quoteB l) 38 9 Tryd.underlying38 Tryd.underlying5 Tryd.underlying9 (by simpa [bytesV, quoteB] using hown3)))
      go_ret
      exact ⟨rfl, hb.trans hb3⟩

end Go.Proofs.YtbaclgnohnmdgaaDoor
