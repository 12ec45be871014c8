/- Walks: the statements' few, the document's Find. -/
import Derived.Test.YtfoablopfpmalaaEnts04
import Derived.Test.YtfoablopfpmalaaChecked
import Derived.BigQuiet
import Derived.Deep.LoopGhost
namespace Go.Proofs.Ytfoablopfpmalaa
open Go.RowKit

theorem few_any (l : List Ent) (v : Value) (w : World) (hv : Ents w v l) :
    Calls Try.prog 9 #[v] w fun e w' => e = .returned (.bool (fewE l)) ∧ w = w' := by
  obtain ⟨a, ca, rfl, hc, hm, HA0⟩ := hv
  unfold maxLen at hm
  have HA := Lib.hid HA0
  clear HA0
  go_enter Try.func9, Try.ntmps9
  go_wp2
  go_loop [3] (fun i => ∃ k : Nat, k ≤ 100 ∧ i = .int .i64 k ∧ Aside (∀ j (hj : j < l.length), j < k → l[j].1.length ≤ 300)) (fun i => 100 - (intOf i).toNat)
  case atStart => exact ⟨0, Nat.zero_le _, rfl, fun j hj h => absurd h (by omega)⟩
  case round =>
    obtain ⟨k, hk, rfl, HT⟩ := hrel
    by_cases hlt : k < l.length
    · by_cases h100 : k < 100
      · obtain ⟨b, o, rfl, hb, hcl⟩ := HA.out (by omega)
        obtain ⟨c1, c2⟩ := hcl k hlt
        clear hcl
        by_cases h3 : l[k].1.length ≤ 300
        · have HT2 : Hid (∀ j (hj : j < l.length), j < k + 1 → l[j].1.length ≤ 300) := by
            intro j hj h
            rcases Nat.lt_or_ge j k with h' | h'
            · exact HT.out j hj h'
            · obtain rfl : j = k := by omega
              exact h3
          go_wp2
          go_round
          case rel => exact ⟨k + 1, by omega, by go_num, HT2.out⟩
          case measure => simp [intOf]; omega
        · have HN := Lib.hid (fewE_no hlt h100 (by omega))
          go_wp2
          go_ret
          exact ⟨by rw [HN.out]; rfl, rfl⟩
      · have HY := Lib.hid (fewE_yes HT.out (fun h => h100 h.2))
        go_wp2
        go_ret
        exact ⟨ret_bool (by rw [HY.out]; simp; omega), rfl⟩
    · have HY := Lib.hid (fewE_yes HT.out (fun h => hlt h.1))
      go_wp2
      go_ret
      exact ⟨ret_bool (by rw [HY.out]; simp; omega), rfl⟩

theorem refFind_any (l : List Ent) (n : List UInt8) (v : Value) (w : World) (hv : Ents w v l) :
    Calls Try.prog 13 #[v, .string ⟨n.toArray⟩] w fun e w' => e = .returned (.tuple #[.int .i64 (numB l n), .bool (hasB l n)]) ∧ w = w' := by
  obtain ⟨a, ca, rfl, hc, hm, HA0⟩ := hv
  unfold maxLen at hm
  have HA := Lib.hid HA0
  clear HA0
  go_enter Try.func13, Try.ntmps13
  go_wp2
  go_loop [6] (fun i => ∃ k : Nat, k ≤ l.length ∧ i = .int .i64 k ∧ Aside ((l.take k).any (fun e => e.1 == n) = false)) (fun i => l.length - (intOf i).toNat)
  case atStart => exact ⟨0, Nat.zero_le _, rfl, by (show _ = _); simp⟩
  case round =>
    obtain ⟨k, hk, rfl, HT⟩ := hrel
    by_cases hlt : k < l.length
    · obtain ⟨b, o, rfl, hb, hcl⟩ := HA.out (by omega)
      obtain ⟨c1, c2⟩ := hcl k hlt
      clear hcl
      cases he : (l[k].1 == n)
      · have HT2 := Lib.hid (any_next hlt HT.out (by simpa using he))
        go_wp2
        go_round
        case rel => exact ⟨k + 1, by omega, by go_num, HT2.out⟩
        case measure => simp [intOf]; omega
      · have HF := Lib.hid (find_at hlt HT.out (by simpa using he))
        go_wp2
        go_ret2
        exact ⟨by rw [HF.out.1, HF.out.2]; rfl, rfl⟩
    · obtain rfl : k = l.length := by omega
      have HF := Lib.hid (find_none (l := l) (n := n) (by have := HT.out; rwa [List.take_length] at this))
      go_wp2
      go_ret2
      exact ⟨by rw [HF.out.1, HF.out.2]; rfl, rfl⟩
end Go.Proofs.Ytfoablopfpmalaa
