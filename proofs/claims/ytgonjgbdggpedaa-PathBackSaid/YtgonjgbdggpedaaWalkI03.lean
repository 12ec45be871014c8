/- Walks: the document's Long, May, Under, Plain, Read. -/
import Derived.Test.YtgonjgbdggpedaaWalkH03
import Derived.Test.YtgonjgbdggpedaaWalkF03
namespace Go.Proofs.Ytgonjgbdggpedaa
open Go.RowKit

theorem refLong_any (p : List UInt8) (w : World) (hp : p.length ≤ 1000000) :
    Calls Try.prog 23 #[.string ⟨p.toArray⟩] w fun e w' => e = .returned (.bool (longB p)) ∧ Below w.heap.size w w' := by
  have hct := namesB_count p
  go_enter Try.func23, Try.ntmps23
  go_wp2_with fail; refine (refNames_any p _ hp).mono ?_; rintro e w1 ⟨v, rfl, hown, h1⟩
  obtain ⟨ad, ca, rfl, hm, HA0⟩ := own_strs hown
  have HA := Lib.hid HA0
  clear HA0 hm hown
  go_wp2
  go_loop [4] (fun i => ∃ k : Nat, k ≤ (namesB p).length ∧ i = .int .i64 k ∧ Aside (∀ j (hj : j < (namesB p).length), j < k → (namesB p)[j].length ≤ 255)) (fun i => (namesB p).length - (intOf i).toNat)
  case atStart => exact ⟨0, Nat.zero_le _, rfl, fun j hj h => absurd h (by omega)⟩
  case round =>
    obtain ⟨k, hk, rfl, HT⟩ := hrel
    by_cases hlt : k < (namesB p).length
    · obtain ⟨ba, oa, rfl, hba, hca⟩ := HA.out (by omega)
      have c1 : w1.cell? ⟨ba, oa + k, none⟩ = some (.string ⟨(namesB p)[k].toArray⟩) := hca k hlt
      clear hca
      by_cases h3 : (namesB p)[k].length ≤ 255
      · have HT2 : Hid (∀ j (hj : j < (namesB p).length), j < k + 1 → (namesB p)[j].length ≤ 255) := by
          intro j hj h
          rcases Nat.lt_or_ge j k with h' | h'
          · exact HT.out j hj h'
          · obtain rfl : j = k := by omega
            exact h3
        go_wp2
        go_round
        case rel => exact ⟨k + 1, by omega, by go_num, HT2.out⟩
        case measure => simp [intOf]; omega
      · have HN : Hid (longB p = true) := by
          (show _ = _); simp only [longB, Bool.or_eq_true, List.any_eq_true, decide_eq_true_eq]
          exact .inr ⟨_, List.getElem_mem hlt, by omega⟩
        go_wp2
        go_ret
        exact ⟨ret_bool (by rw [HN.out]), h1⟩
    · have HN : Hid (longB p = decide (4095 < p.length)) := by
        have : (namesB p).any (fun n => decide (255 < n.length)) = false := by
          simp only [List.any_eq_false, decide_eq_true_eq]
          intro n hn
          obtain ⟨j, hj, rfl⟩ := List.getElem_of_mem hn
          have := HT.out j hj (by omega)
          omega
        (show _ = _); unfold longB; rw [this, Bool.or_false]
      go_wp2
      go_ret
      exact ⟨ret_bool (by rw [HN.out]; simp; try omega), h1⟩

theorem any_hit_at {l : List UInt8} {k : Nat} (h : k < l.length) (hc : hitB l[k] = true) : mayB l = false := by
  by_cases h0 : l = []
  · subst h0; simp at h
  by_cases h1 : l = [46]
  · subst h1; rfl
  by_cases h2 : l = [46, 46]
  · subst h2; rfl
  by_cases h3 : l.length ≤ 255
  · rw [mayB_hit l h0 h1 h2 h3, hits_found h hc]; rfl
  · have : decide (l.length ≤ 255) = false := decide_eq_false h3
    unfold mayB; rw [this]; simp

set_option maxHeartbeats 1000000 in
theorem refMay_any (l : List UInt8) (w : World) (hl : l.length ≤ 1000000) :
    Calls Try.prog 21 #[.string ⟨l.toArray⟩] w fun e w' => e = .returned (.bool (mayB l)) ∧ w = w' := by
  go_enter Try.func21, Try.ntmps21
  go_wp2
  go_loop [3] (fun i => ∃ k : Nat, k ≤ l.length ∧ i = .int .i64 k ∧ Aside ((l.take k).any hitB = false)) (fun i => l.length - (intOf i).toNat)
  case atStart => exact ⟨0, Nat.zero_le _, rfl, by (show _ = _); simp⟩
  case round =>
    obtain ⟨k, hk, rfl, HT⟩ := hrel
    by_cases hlt : k < l.length
    · cases h47 : ((l[k].toNat : Int) == 47)
      · cases h00 : ((l[k].toNat : Int) == 0)
        · have hh : hitB l[k] = false := by
            unfold hitB
            rw [Bool.or_eq_false_iff, beq_eq_false_iff_ne, beq_eq_false_iff_ne]
            constructor
            · intro e; rw [e] at h47; exact absurd h47 (by decide)
            · intro e; rw [e] at h00; exact absurd h00 (by decide)
          have HT2 : Hid ((l.take (k + 1)).any hitB = false) := hits_next HT.out (by omega) (fun j hj a b => by
            obtain rfl : j = k := by omega
            exact hh)
          go_wp2
          go_round
          case rel => exact ⟨k + 1, by omega, by go_num, HT2.out⟩
          case measure => simp [intOf]; omega
        · have hh : hitB l[k] = true := by
            have : l[k] = 0 := UInt8.toNat_inj.1 (by simp at h00; simp; omega)
            rw [this]; rfl
          have HN := Lib.hid (any_hit_at hlt hh)
          go_wp2
          go_ret
          exact ⟨ret_bool (by rw [HN.out]), rfl⟩
      · have hh : hitB l[k] = true := by
          have : l[k] = 47 := UInt8.toNat_inj.1 (by simp at h47; simp; omega)
          rw [this]; rfl
        have HN := Lib.hid (any_hit_at hlt hh)
        go_wp2
        go_ret
        exact ⟨ret_bool (by rw [HN.out]), rfl⟩
    · obtain rfl : k = l.length := by omega
      have hno : l.any hitB = false := by have := HT.out; rwa [List.take_length] at this
      by_cases h0 : l = []
      · subst h0
        go_wp2
        go_ret
        exact ⟨rfl, rfl⟩
      by_cases h1 : l = [46]
      · subst h1
        go_wp2
        go_ret
        exact ⟨rfl, rfl⟩
      by_cases h2 : l = [46, 46]
      · subst h2
        go_wp2
        go_ret
        exact ⟨rfl, rfl⟩
      have hpos : 1 ≤ l.length := List.length_pos_iff.2 h0
      have e1 : (l == [46]) = false := by simpa using h1
      have e2 : (l == [46, 46]) = false := by simpa using h2
      by_cases h3 : l.length ≤ 255
      · have HM := Lib.hid ((mayB_hit l h0 h1 h2 h3).trans (by rw [hno]))
        clear h0 h1 h2 hno
        go_wp2
        go_ret
        exact ⟨ret_bool (by rw [HM.out]; rfl), rfl⟩
      · have HM : Hid (mayB l = false) := by
          have : decide (l.length ≤ 255) = false := decide_eq_false h3
          (show _ = _); unfold mayB; rw [this]; simp
        clear h0 h1 h2 hno
        go_wp2
        go_ret
        exact ⟨ret_bool (by rw [HM.out]), rfl⟩
end Go.Proofs.Ytgonjgbdggpedaa
