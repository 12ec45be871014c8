import Derived.Test.YtkipplkaffpkjaaGreatQMWalkD04
import Derived.Test.YtkipplkaffpkjaaGreatQMWalkJ03
set_option linter.unusedVariables false
set_option linter.unusedSimpArgs false
/- Walks: May, Under, Plain. -/
set_option linter.unusedVariables false
set_option linter.unusedSimpArgs false
namespace Go.Proofs.YtkipplkaffpkjaaGreat
open Go.RowKit

theorem field1 (a s : Bool) (v : Value) (w : World) : (Instr.field 78 (.agg (pathV a v s)) 1).run Tryz.prog w = .ok v w := by kernel_rfl

set_option maxHeartbeats 2000000 in
theorem Plain_any (p : List UInt8) (w : World) (hp : p.length ≤ 100000) :
    Calls Tryz.prog 96 #[.string ⟨p.toArray⟩] w (PlainPost w (plainB p)) := by
  go_enter Tryz.func96, Tryz.ntmps96
  go_wp2_with fail; refine (Read_any p (by omega) _).mono ?_; rintro e w1 ⟨v, rfl, hown, h1⟩
  have hs := own_strs hown
  have hsz := Lib.hid (namesB_size p)
  have hct := namesB_count p
  have htot := Lib.hid (namesB_total p)
  clear hown
  obtain ⟨ad, ca, rfl, hm, HA0⟩ := hs
  have HA := Lib.hid HA0
  have HM := Lib.hid hm
  clear HA0 hm
  have hF := field1 (absB p) (slashB p) (.slice ad (namesB p).length ca) w1
  go_wp2
  clear hF
  go_loopw [12] (fun i wr => ∃ k : Nat, k ≤ (namesB p).length ∧ i = .int .i64 k ∧ Aside (∀ j (hj : j < (namesB p).length), j < k → mayB (namesB p)[j] = true) ∧ Below w1.heap.size w1 wr) (fun i _ => (namesB p).length - (intOf i).toNat)
  case atStart => exact ⟨0, Nat.zero_le _, rfl, fun j hj h => absurd h (by omega), Below.refl _ _⟩
  case round =>
    obtain ⟨k, hk, rfl, HT, hBl⟩ := hrel
    by_cases hlt : k < (namesB p).length
    · obtain ⟨ba, oa, rfl, hba, hca⟩ := HA.out (by omega)
      have c1 : wr.cell? ⟨ba, oa + k, none⟩ = some (.string ⟨(namesB p)[k].toArray⟩) := (hBl.cell (p := ⟨ba, oa + k, none⟩) hba).trans (hca k hlt)
      clear hca
      have hks := hsz.out _ (List.getElem_mem hlt)
      go_wp2_with fail; refine (May_any (namesB p)[k] _ (by omega)).mono ?_; rintro e w2 ⟨rfl, hB2⟩
      have hB3 := hBl.trans (hB2.mono hBl.size)
      cases hmk : mayB (namesB p)[k]
      · have HN := Lib.hid (plainB_bad hlt hmk)
        go_wp2
        go_ret2
        exact PlainPost.none_ HN.out rfl (h1.trans (hB3.mono h1.size))
      · have HT2 : Hid (∀ j (hj : j < (namesB p).length), j < k + 1 → mayB (namesB p)[j] = true) := by
          intro j hj h
          rcases Nat.lt_or_ge j k with h' | h'
          · exact HT.out j hj h'
          · obtain rfl : j = k := by omega
            exact hmk
        go_wp2
        go_roundw
        case rel => exact ⟨k + 1, by omega, by go_num, HT2.out, hB3⟩
        case measure => simp [intOf]; omega
    · obtain rfl : k = (namesB p).length := by omega
      have HP := Lib.hid (plainB_ok (l := p) (fun n hn => by
        obtain ⟨j, hj, rfl⟩ := List.getElem_of_mem hn
        exact HT.out j hj hj))
      have hsr : Strs wr (.slice ad (namesB p).length ca) (namesB p) := Strs.below ⟨ad, ca, rfl, HM.out, HA.out⟩ hBl
      go_wp2_with fail; refine (Join_any (namesB p) _ _ hsr (by omega) (by have := htot.out; omega)).mono ?_; rintro e w2 ⟨rfl, hB2⟩
      have hB3 := hBl.trans (hB2.mono hBl.size)
      have hs2 := hsr.below hB2
      cases hj : (joinB (namesB p) == p)
      · have HN : Hid (plainB p = none) := by (show _ = _); rw [HP.out, hj]; rfl
        go_wp2
        go_ret2
        exact PlainPost.none_ HN.out rfl (h1.trans (hB3.mono h1.size))
      · have HN : Hid (plainB p = some (namesB p)) := by (show _ = _); rw [HP.out, hj]; rfl
        go_wp2
        go_ret2
        exact ⟨_, by rw [HN.out]; rfl, by rw [HN.out]; exact hs2, h1.trans (hB3.mono h1.size)⟩
end Go.Proofs.YtkipplkaffpkjaaGreat
