/- Walks: Right, the program's and the document's. -/
import Derived.Test.YtobepdmpacdakaaGreatQ
import Derived.Test.YtobepdmpacdakaaGreatQMay
import Derived.Deep.Cut
set_option linter.unusedVariables false
set_option linter.unusedSimpArgs false
namespace Go.Proofs.YtobepdmpacdakaaGreat
open Go.RowKit

theorem ent_bad {e : Ent} (h : mayB e.1 = false) : goodE e = false := by unfold goodE; rw [h]; rfl
theorem ent_low {e : Ent} (h : e.2 ≤ 0) : goodE e = false := by
  unfold goodE; rw [decide_eq_false (by omega), Bool.and_false]
theorem ent_good {e : Ent} (h : mayB e.1 = true) (h2 : 0 < e.2) : goodE e = true := by
  unfold goodE; rw [h, decide_eq_true h2]; rfl

set_option maxHeartbeats 1000000 in
theorem refRight_any (l : List Ent) (v : Value) (w : World) (hv : Ents w v l) (hsh : shortP 1000000 l) :
    Calls Tryz.prog 74 #[v] w fun e w' => e = .returned (.bool (rightB l)) ∧ Below w.heap.size w w' := by
  obtain ⟨a, ca, rfl, hc, hm, HA0⟩ := hv
  unfold maxLen at hm
  have HA := Lib.hid HA0
  clear HA0
  go_enter Tryz.func74, Tryz.ntmps74
  go_wp2
  go_loopw [3] (fun i wr => ∃ k : Nat, k ≤ l.length ∧ i = .int .i64 k ∧ Aside (rightP (l.take k)) ∧ Below w.heap.size w wr) (fun i _ => l.length - (intOf i).toNat)
  case atStart => exact ⟨0, Nat.zero_le _, rfl, by (show _ ∧ _); simp [rightP, sortP], Below.refl _ _⟩
  case round =>
    obtain ⟨k, hk, rfl, HT, hbA⟩ := hrel
    by_cases hlt : k < l.length
    · obtain ⟨b, o, rfl, hb, hcl⟩ := HA.out (by omega)
      have c1 : wr.cell? ⟨b, o + k * 2, none⟩ = some (.string ⟨l[k].1.toArray⟩) := (hbA.cell (p := ⟨b, o + k * 2, none⟩) hb).trans (hcl k hlt).1
      have c2 : wr.cell? ⟨b, o + k * 2 + 1, none⟩ = some (.int .i64 l[k].2) := (hbA.cell (p := ⟨b, o + k * 2 + 1, none⟩) hb).trans (hcl k hlt).2
      have hks := hsh _ (List.getElem_mem hlt)
      go_wp2_with fail; refine (refMay_any l[k].1 _ hks).mono ?_; rintro e w2 ⟨rfl, rfl⟩
      cases hmk : mayB l[k].1
      · have HN := Lib.hid (right_bad hlt (ent_bad hmk))
        go_wp2
        go_ret
        exact ⟨ret_bool HN.out.symm, hbA⟩
      · by_cases hp : l[k].2 < 1
        · have HN := Lib.hid (right_bad hlt (ent_low (by omega)))
          go_wp2
          go_ret
          exact ⟨ret_bool HN.out.symm, hbA⟩
        · have hg := ent_good hmk (by omega)
          by_cases h0 : k = 0
          · have HT2 := Lib.hid (right_next hlt HT.out hg (fun j hj h => by omega))
            have hk0 : decide (0 < k) = false := decide_eq_false (by omega)
            have HK0 := Lib.hid h0
            clear h0
            go_wp2
            go_quiet (fail)
            go_wp2
            go_roundw
            case rel => exact ⟨k + 1, by omega, by go_num, HT2.out, below_drewN hbA _⟩
            case measure => simp [intOf]; omega
          · have c0 : wr.cell? ⟨b, o + (k - 1) * 2, none⟩ = some (.string ⟨(l[k - 1]'(by omega)).1.toArray⟩) := (hbA.cell (p := ⟨b, o + (k - 1) * 2, none⟩) hb).trans (hcl (k - 1) (by omega)).1
            have k0 : decide (0 < k) = true := decide_eq_true (by omega)
            have k1 : (0 : Int) ≤ (k : Int) - 1 := by omega
            have k2 : (k : Int) - 1 < (l.length : Int) := by omega
            have k3 : ((k : Int) - 1).toNat = k - 1 := by omega
            clear hcl
            cases hl1 : ltB (l[k - 1]'(by omega)).1 l[k].1
            · have HN : Hid (rightB l = false) := by
                have := @right_unsorted l (k - 1) (by omega)
                simp only [show k - 1 + 1 = k from by omega] at this
                exact this hl1
              go_wp2
              go_quiet (fail)
              go_wp2
              go_ret
              exact ⟨ret_bool HN.out.symm, below_drewN hbA _⟩
            · have HT2 := Lib.hid (right_next hlt HT.out hg (fun j hj h => by
                obtain rfl : j = k - 1 := by omega
                exact hl1))
              go_wp2
              go_quiet (fail)
              go_wp2
              go_roundw
              case rel => exact ⟨k + 1, by omega, by go_num, HT2.out, below_drewN hbA _⟩
              case measure => simp [intOf]; omega
    · obtain rfl : k = l.length := by omega
      have HY := Lib.hid (right_end HT.out)
      go_wp2
      go_ret
      exact ⟨ret_bool HY.out.symm, hbA⟩
end Go.Proofs.YtobepdmpacdakaaGreat
