/- May: the program's and the document's: a name that may be. (wip/src/may) -/
import Derived.Test.YtobepdmpacdakaaGreatQ
import Derived.Test.YtobepdmpacdakaaGreatChecked
import Derived.Test.YtobepdmpacdakaaGreatQAnyOf
set_option linter.unusedVariables false
set_option linter.unusedSimpArgs false
namespace Go.Proofs.YtobepdmpacdakaaGreat
open Go.RowKit

theorem mayB_hit (n : List UInt8) (h0 : n ≠ []) (h1 : n ≠ [46]) (h2 : n ≠ [46, 46]) (h3 : n.length ≤ 255) : mayB n = !n.any hitB := by
  have e0 : n.isEmpty = false := by simpa using h0
  have e1 : (n != [46]) = true := by simpa using h1
  have e2 : (n != [46, 46]) = true := by simpa using h2
  have key : n.any hitB = (n.contains 47 || n.contains 0) := by
    clear h0 h1 h2 h3 e0 e1 e2
    induction n with
    | nil => rfl
    | cons c n ih =>
      rw [List.any_cons, ih, List.contains_cons, List.contains_cons]
      unfold hitB
      rw [BEq.comm (a := c) (b := 47), BEq.comm (a := c) (b := 0)]
      cases (47 == c) <;> cases (0 == c) <;> cases n.contains 47 <;> cases n.contains 0 <;> rfl
  unfold mayB
  rw [e0, e1, e2, key, decide_eq_true h3]
  cases n.contains 47 <;> cases n.contains 0 <;> rfl

theorem May_any (l : List UInt8) (w : World) (hl : l.length ≤ 1000000) :
    Calls Tryz.prog 39 #[.string ⟨l.toArray⟩] w fun e w' => e = .returned (.bool (mayB l)) ∧ Below w.heap.size w w' := by
  by_cases h0 : l = []
  · subst h0
    go_enter Tryz.func39, Tryz.ntmps39
    go_wp2
    go_ret
    exact ⟨rfl, Below.refl _ _⟩
  by_cases h1 : l = [46]
  · subst h1
    go_enter Tryz.func39, Tryz.ntmps39
    go_wp2
    go_ret
    exact ⟨rfl, Below.refl _ _⟩
  by_cases h2 : l = [46, 46]
  · subst h2
    go_enter Tryz.func39, Tryz.ntmps39
    go_wp2
    go_ret
    exact ⟨rfl, Below.refl _ _⟩
  by_cases h3 : l.length ≤ 255
  · have HM := Lib.hid (mayB_hit l h0 h1 h2 h3)
    have e0 : l.isEmpty = false := by simpa using h0
    have e1 : (l == [46]) = false := by simpa using h1
    have e2 : (l == [46, 46]) = false := by simpa using h2
    clear h0 h1 h2
    go_enter Tryz.func39, Tryz.ntmps39
    go_wp2_with fail; refine (ContainsAny_any l _ hl).mono ?_; rintro e w' ⟨rfl, hB⟩
    go_wp2
    go_ret
    exact ⟨ret_bool (by rw [HM.out]), hB⟩
  · have HM : Hid (mayB l = false) := by
      have : decide (l.length ≤ 255) = false := decide_eq_false h3
      (show _ = _); unfold mayB; rw [this]; simp
    have e0 : l.isEmpty = false := by simpa using h0
    have e1 : (l == [46]) = false := by simpa using h1
    have e2 : (l == [46, 46]) = false := by simpa using h2
    clear h0 h1 h2
    go_enter Tryz.func39, Tryz.ntmps39
    go_wp2
    go_ret
    exact ⟨ret_bool (by rw [HM.out]), Below.refl _ _⟩

theorem any_hit_at {l : List UInt8} {k : Nat} (h : k < l.length) (hc : hitB l[k] = true) : mayB l = false := by
  by_cases h0 : l = []
  · subst h0; simp at h
  by_cases h1 : l = [46]
  · subst h1; rfl
  by_cases h2 : l = [46, 46]
  · subst h2; rfl
  by_cases h3 : l.length ≤ 255
  · rw [mayB_hit l h0 h1 h2 h3, hits_found h hc]; rfl
  · have : decide (l.length ≤ 255) = false := decide_eq_false h3
    unfold mayB; rw [this]; simp

set_option maxHeartbeats 1000000 in
theorem refMay_all (l : List UInt8) (w : World) (hl : l.length ≤ 9223372036854775807) :
    Calls Tryz.prog 42 #[.string ⟨l.toArray⟩] w fun e w' => e = .returned (.bool (mayB l)) ∧ w = w' := by
  go_enter Tryz.func42, Tryz.ntmps42
  go_wp2
  go_loop [3] (fun i => ∃ k : Nat, k ≤ l.length ∧ i = .int .i64 k ∧ Aside ((l.take k).any hitB = false)) (fun i => l.length - (intOf i).toNat)
  case atStart => exact ⟨0, Nat.zero_le _, rfl, by (show _ = _); simp⟩
  case round =>
    obtain ⟨k, hk, rfl, HT⟩ := hrel
    by_cases hlt : k < l.length
    · cases h47 : ((l[k].toNat : Int) == 47)
      · cases h00 : ((l[k].toNat : Int) == 0)
        · have hh : hitB l[k] = false := by
            unfold hitB
            rw [Bool.or_eq_false_iff, beq_eq_false_iff_ne, beq_eq_false_iff_ne]
            constructor
            · intro e; rw [e] at h47; exact absurd h47 (by decide)
            · intro e; rw [e] at h00; exact absurd h00 (by decide)
          have HT2 : Hid ((l.take (k + 1)).any hitB = false) := hits_next HT.out (by omega) (fun j hj a b => by
            obtain rfl : j = k := by omega
            exact hh)
          go_wp2
          go_round
          case rel => exact ⟨k + 1, by omega, by go_num, HT2.out⟩
          case measure => simp [intOf]; omega
        · have hh : hitB l[k] = true := by
            have : l[k] = 0 := UInt8.toNat_inj.1 (by simp at h00; simp; omega)
            rw [this]; rfl
          have HN := Lib.hid (any_hit_at hlt hh)
          go_wp2
          go_ret
          exact ⟨ret_bool (by rw [HN.out]), rfl⟩
      · have hh : hitB l[k] = true := by
          have : l[k] = 47 := UInt8.toNat_inj.1 (by simp at h47; simp; omega)
          rw [this]; rfl
        have HN := Lib.hid (any_hit_at hlt hh)
        go_wp2
        go_ret
        exact ⟨ret_bool (by rw [HN.out]), rfl⟩
    · obtain rfl : k = l.length := by omega
      have hno : l.any hitB = false := by have := HT.out; rwa [List.take_length] at this
      by_cases h0 : l = []
      · subst h0
        go_wp2
        go_ret
        exact ⟨rfl, rfl⟩
      by_cases h1 : l = [46]
      · subst h1
        go_wp2
        go_ret
        exact ⟨rfl, rfl⟩
      by_cases h2 : l = [46, 46]
      · subst h2
        go_wp2
        go_ret
        exact ⟨rfl, rfl⟩
      have hpos : 1 ≤ l.length := List.length_pos_iff.2 h0
      have e1 : (l == [46]) = false := by simpa using h1
      have e2 : (l == [46, 46]) = false := by simpa using h2
      by_cases h3 : l.length ≤ 255
      · have HM := Lib.hid ((mayB_hit l h0 h1 h2 h3).trans (by rw [hno]))
        clear h0 h1 h2 hno
        go_wp2
        go_ret
        exact ⟨ret_bool (by rw [HM.out]; rfl), rfl⟩
      · have HM : Hid (mayB l = false) := by
          have : decide (l.length ≤ 255) = false := decide_eq_false h3
          (show _ = _); unfold mayB; rw [this]; simp
        clear h0 h1 h2 hno
        go_wp2
        go_ret
        exact ⟨ret_bool (by rw [HM.out]), rfl⟩
theorem refMay_any (l : List UInt8) (w : World) (hl : l.length ≤ 1000000) :
    Calls Tryz.prog 42 #[.string ⟨l.toArray⟩] w fun e w' => e = .returned (.bool (mayB l)) ∧ w = w' := refMay_all l w (by omega)
end Go.Proofs.YtobepdmpacdakaaGreat
