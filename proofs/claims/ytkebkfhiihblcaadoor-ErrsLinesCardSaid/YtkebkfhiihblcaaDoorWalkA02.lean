/- Walks: the table in memory; errs.Message, errs.Find. -/
import Derived.Test.YtkebkfhiihblcaaDoorPure02
import Derived.Test.YtkebkfhiihblcaaDoorClone
import Derived.Deep.LoopGhost
namespace Go.Proofs.YtkebkfhiihblcaaDoor
open Go.RowKit

/-- The table of the messages lies in memory. -/
def Laid (w : World) : Prop := 0 < w.heap.size ∧ ∀ i, i < 14 → w.cell? ⟨0, i, none⟩ = some (.string ⟨(msgAt i).toArray⟩)
theorem Laid.below {w w' : World} {n : Nat} (h : Laid w) (hb : Below n w w') (hn : 0 < n) : Laid w' :=
  ⟨Nat.lt_of_lt_of_le h.1 hb.size, fun i hi => (hb.cell (p := ⟨0, i, none⟩) hn).trans (h.2 i hi)⟩
theorem Laid.next {w w' : World} (h : Laid w) (hb : Below w.heap.size w w') : Laid w' := h.below hb h.1

theorem Message_any (e : Int) (w : World) (hL : Laid w) :
    Calls Tryd.prog 8 #[.int .i64 e] w fun r w' => r = .returned (.string ⟨(msgOf e).toArray⟩) ∧ Below w.heap.size w w' := by
  by_cases h0 : e < 0
  · rw [msgOf_no (Or.inl h0)]
    clear hL
    go_enter Tryd.func8, Tryd.ntmps8
    go_wp2_with fail
    refine (Clone_any unknownM _ (by decide)).mono ?_
    rintro e w' ⟨rfl, hB⟩
    go_wp2
    go_ret
    exact ⟨rfl, hB⟩
  · by_cases h1 : 13 < e
    · rw [msgOf_no (Or.inr h1)]
      clear hL
      go_enter Tryd.func8, Tryd.ntmps8
      go_wp2_with fail
      refine (Clone_any unknownM _ (by decide)).mono ?_
      rintro e w' ⟨rfl, hB⟩
      go_wp2
      go_ret
      exact ⟨rfl, hB⟩
    · obtain ⟨k, rfl⟩ : ∃ k : Nat, e = k := ⟨e.toNat, by omega⟩
      have hk : k < 14 := by omega
      have c := hL.2 k hk
      have hs := msgAt_small k hk
      rw [msgOf_nat k hk]
      clear hL
      go_enter Tryd.func8, Tryd.ntmps8
      go_wp2_with fail
      refine (Clone_any _ _ (by omega)).mono ?_
      rintro e w' ⟨rfl, hB⟩
      go_wp2
      go_ret
      exact ⟨rfl, hB⟩

/-- The table as one value. -/
def tabV : Value := .agg #[.string ⟨(msgAt 0).toArray⟩, .string ⟨(msgAt 1).toArray⟩, .string ⟨(msgAt 2).toArray⟩, .string ⟨(msgAt 3).toArray⟩, .string ⟨(msgAt 4).toArray⟩, .string ⟨(msgAt 5).toArray⟩, .string ⟨(msgAt 6).toArray⟩, .string ⟨(msgAt 7).toArray⟩, .string ⟨(msgAt 8).toArray⟩, .string ⟨(msgAt 9).toArray⟩, .string ⟨(msgAt 10).toArray⟩, .string ⟨(msgAt 11).toArray⟩, .string ⟨(msgAt 12).toArray⟩, .string ⟨(msgAt 13).toArray⟩]

theorem Find_any (s : List UInt8) (w : World) (hL : Laid w) :
    Calls Tryd.prog 10 #[.string ⟨s.toArray⟩] w fun r w' => r = .returned (.tuple #[.int .i64 ((findM s).getD 0 : Nat), .bool (findM s).isSome]) ∧ w = w' := by
  have c0 := hL.2 0 (by decide)
  have c1 := hL.2 1 (by decide)
  have c2 := hL.2 2 (by decide)
  have c3 := hL.2 3 (by decide)
  have c4 := hL.2 4 (by decide)
  have c5 := hL.2 5 (by decide)
  have c6 := hL.2 6 (by decide)
  have c7 := hL.2 7 (by decide)
  have c8 := hL.2 8 (by decide)
  have c9 := hL.2 9 (by decide)
  have c10 := hL.2 10 (by decide)
  have c11 := hL.2 11 (by decide)
  have c12 := hL.2 12 (by decide)
  have c13 := hL.2 13 (by decide)
  clear hL
  have hidx : ∀ (k : Nat) (h : k < 14) (u : World), (Instr.index 36 tabV (.int .i64 (k : Int))).run Tryd.prog u = .ok (.string ⟨(msgAt k).toArray⟩) u := by
    intro k h u
    have hc : k = 0 ∨ k = 1 ∨ k = 2 ∨ k = 3 ∨ k = 4 ∨ k = 5 ∨ k = 6 ∨ k = 7 ∨ k = 8 ∨ k = 9 ∨ k = 10 ∨ k = 11 ∨ k = 12 ∨ k = 13 := by omega
    rcases hc with rfl | rfl | rfl | rfl | rfl | rfl | rfl | rfl | rfl | rfl | rfl | rfl | rfl | rfl <;> (show _ = _; kernel_rfl)
  unfold tabV at hidx
  have HI := Lib.hid hidx
  clear hidx
  go_enter Tryd.func10, Tryd.ntmps10
  go_wp2
  go_loop [7] (fun i => ∃ k : Nat, k ≤ 14 ∧ i = .int .i64 k ∧ Aside (∀ j, j < k → msgAt j ≠ s)) (fun i => 14 - (intOf i).toNat)
  case atStart => exact ⟨0, Nat.zero_le _, rfl, fun j h => absurd h (by omega)⟩
  case round =>
    clear c0 c1 c2 c3 c4 c5 c6 c7 c8 c9 c10 c11 c12 c13
    obtain ⟨k, hk, rfl, HT⟩ := hrel
    by_cases hlt : k < 14
    · have hx := HI.out k hlt w
      cases he : msgAt k == s
      · have HT2 : Hid (∀ j, j < k + 1 → msgAt j ≠ s) := by
          intro j h
          rcases Nat.lt_or_ge j k with h' | h'
          · exact HT.out j h'
          · obtain rfl : j = k := by omega
            simpa using he
        go_wp2
        go_round
        case rel => exact ⟨k + 1, by omega, by go_num, HT2.out⟩
        case measure => simp [intOf]; omega
      · have HF := Lib.hid (findM_at hlt HT.out (by simpa using he))
        go_wp2
        go_ret2
        exact ⟨by rw [HF.out]; rfl, rfl⟩
    · obtain rfl : k = 14 := by omega
      have HN := Lib.hid (findM_none (s := s) (fun i hi => HT.out i hi))
      clear HT
      go_wp2
      go_ret2
      exact ⟨by rw [HN.out]; rfl, rfl⟩
end Go.Proofs.YtkebkfhiihblcaaDoor
