/- The document's Few: few texts, none of them long. -/
import Derived.Test.YtgonjgbdggpedaaStrs
import Derived.Test.YtgonjgbdggpedaaChecked
import Derived.Deep.LoopGhost
namespace Go.Proofs.Ytgonjgbdggpedaa
open Go.RowKit
def fewB (l : List (List UInt8)) : Bool := (l.take 100).all (fun s => decide (s.length ≤ 300)) && decide (l.length ≤ 40)
theorem fewB_no {l : List (List UInt8)} {k : Nat} (h : k < l.length) (h1 : k < 100) (h2 : 300 < l[k].length) : fewB l = false := by
  rw [Bool.eq_false_iff]
  intro hb
  simp only [fewB, Bool.and_eq_true, List.all_eq_true] at hb
  have hk : k < (l.take 100).length := by simp; omega
  have := hb.1 (l.take 100)[k] (List.getElem_mem hk)
  simp at this
  omega
theorem fewB_yes {l : List (List UInt8)} {k : Nat} (h : ∀ j (hj : j < l.length), j < k → l[j].length ≤ 300) (h2 : ¬ (k < l.length ∧ k < 100)) : fewB l = decide (l.length ≤ 40) := by
  unfold fewB
  have : (l.take 100).all (fun s => decide (s.length ≤ 300)) = true := by
    rw [List.all_eq_true]
    intro s hs
    obtain ⟨j, hj, rfl⟩ := List.getElem_of_mem hs
    have hj2 : j < l.length ∧ j < 100 := by simp at hj; omega
    have := h j hj2.1 (by omega)
    simpa using this
  rw [this]; simp
theorem fewB_small {l : List (List UInt8)} (h : fewB l = true) : l.length ≤ 40 ∧ ∀ x ∈ l, x.length ≤ 300 := by
  simp only [fewB, Bool.and_eq_true, List.all_eq_true, decide_eq_true_eq] at h
  refine ⟨h.2, fun x hx => ?_⟩
  rw [List.take_of_length_le (by omega)] at h
  exact h.1 x hx
theorem Few_any (l : List (List UInt8)) (v : Value) (w : World) (hv : Strs w v l) :
    Calls Try.prog 15 #[v] w fun e w' => e = .returned (.bool (fewB l)) ∧ w = w' := by
  obtain ⟨a, ca, rfl, hm, HA0⟩ := hv
  unfold maxLen at hm
  have HA := Lib.hid HA0
  clear HA0
  go_enter Try.func15, Try.ntmps15
  go_wp2
  go_loop [3] (fun i => ∃ k : Nat, k ≤ 100 ∧ i = .int .i64 k ∧ Aside (∀ j (hj : j < l.length), j < k → l[j].length ≤ 300)) (fun i => 100 - (intOf i).toNat)
  case atStart => exact ⟨0, Nat.zero_le _, rfl, fun j hj h => absurd h (by omega)⟩
  case round =>
    obtain ⟨k, hk, rfl, HT⟩ := hrel
    by_cases hlt : k < l.length
    · by_cases h100 : k < 100
      · obtain ⟨b, o, rfl, hb, hc⟩ := HA.out (by omega)
        have c1 : w.cell? ⟨b, o + k, none⟩ = some (.string ⟨l[k].toArray⟩) := hc k hlt
        clear hc
        by_cases h3 : l[k].length ≤ 300
        · have HT2 : Hid (∀ j (hj : j < l.length), j < k + 1 → l[j].length ≤ 300) := by
            intro j hj h
            rcases Nat.lt_or_ge j k with h' | h'
            · exact HT.out j hj h'
            · obtain rfl : j = k := by omega
              exact h3
          go_wp2
          go_round
          case rel => exact ⟨k + 1, by omega, by go_num, HT2.out⟩
          case measure => simp [intOf]; omega
        · have HN := Lib.hid (fewB_no hlt h100 (by omega))
          go_wp2
          go_ret
          exact ⟨by rw [HN.out]; rfl, rfl⟩
      · have HY := Lib.hid (fewB_yes HT.out (fun h => h100 h.2))
        go_wp2
        go_ret
        exact ⟨ret_bool (by rw [HY.out]; simp; omega), rfl⟩
    · have HY := Lib.hid (fewB_yes HT.out (fun h => hlt h.1))
      go_wp2
      go_ret
      exact ⟨ret_bool (by rw [HY.out]; simp; omega), rfl⟩

end Go.Proofs.Ytgonjgbdggpedaa
