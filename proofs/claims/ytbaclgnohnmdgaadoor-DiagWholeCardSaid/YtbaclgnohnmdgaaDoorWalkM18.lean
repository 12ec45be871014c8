/- Walks: where the program's tables lie; args.Name; quote.Join. -/
import Derived.Test.YtbaclgnohnmdgaaDoorWalkA18
import Derived.Test.YtbaclgnohnmdgaaDoorWalkN18
import Derived.Test.YtbaclgnohnmdgaaDoorWalkA01
import Derived.Test.YtbaclgnohnmdgaaDoorBlk
import Derived.Test.YtbaclgnohnmdgaaDoorBld
import Derived.Lib.AppendStr
set_option linter.unusedVariables false
set_option linter.unusedSimpArgs false
namespace Go.Proofs.YtbaclgnohnmdgaaDoor
open Go.RowKit
set_option linter.unusedVariables false

/-- The names of the commands lie in memory. -/
def LaidN (w : World) : Prop := 0 < w.heap.size ∧ ∀ i : Nat, i < 6 → w.cell? ⟨0, i * 4, none⟩ = some (.string ⟨(nameK (i : Int)).toArray⟩)
theorem LaidN.next {w w' : World} (h : LaidN w) (hb : Below w.heap.size w w') : LaidN w' :=
  ⟨Nat.lt_of_lt_of_le h.1 hb.size, fun i hi => (hb.cell (p := ⟨0, i * 4, none⟩) h.1).trans (h.2 i hi)⟩
/-- The tables of errs and of args lie in memory. -/
def LaidD (w : World) : Prop := Laid w ∧ LaidN w
theorem LaidD.next {w w' : World} (h : LaidD w) (hb : Below w.heap.size w w') : LaidD w' := ⟨h.1.next hb, h.2.next hb⟩

theorem Name18_any (k : Int) (w : World) (hL : LaidN w) : Calls Tryd.prog 11 #[.int .i64 k] w fun e w' => e = .returned (.string ⟨(nameK k).toArray⟩) ∧ Below w.heap.size w w' := by
  by_cases h : 1 ≤ k ∧ k ≤ 5
  · obtain ⟨n, rfl⟩ : ∃ n : Nat, k = n := ⟨k.toNat, by omega⟩
    have c := hL.2 n (by omega)
    have hs := nameK_len (n : Int)
    clear hL
    go_enter Tryd.func11, Tryd.ntmps11
    go_wp2_with fail
    refine (Clone_any _ _ (by omega)).mono ?_
    rintro e w' ⟨rfl, hB⟩
    go_wp2
    go_ret
    exact ⟨rfl, hB⟩
  · rw [name_no h]
    clear hL
    by_cases h1 : k < 1
    · go_enter Tryd.func11, Tryd.ntmps11
      go_wp2
      go_ret
      exact ⟨rfl, Below.refl _ _⟩
    · have h2 : 5 < k := by omega
      go_enter Tryd.func11, Tryd.ntmps11
      go_wp2
      go_ret
      exact ⟨rfl, Below.refl _ _⟩

set_option maxHeartbeats 800000 in
theorem JoinP_any (l : List (List UInt8)) (v : Value) (w : World) (hv : Strs w v l) (hl : l.length ≤ 1000001) (hj : (joinP l).length ≤ 1000000) :
    Calls Tryd.prog 22 #[v] w fun e w' => e = .returned (.string ⟨(joinP l).toArray⟩) ∧ Below w.heap.size w w' := by
  obtain ⟨a, ca, rfl, hm, HA0⟩ := hv
  have HA := Lib.hid HA0
  clear HA0 hm
  have hg0 := bld_new w
  have B0 : Below w.heap.size w (w.alloc (.cells #[.pointer none, .slice none 0 0] 49)) := (Below.refl _ w).alloc (Nat.le_refl _) _
  go_enter Tryd.func22, Tryd.ntmps22
  go_wp2
  go_loopw [8] (fun i wr => ∃ k : Nat, k ≤ l.length ∧ i = .int .i64 k ∧ BldW w.heap.size w.heap.size (joinP (l.take k)) wr ∧ Below w.heap.size w wr) (fun i _ => l.length - (intOf i).toNat)
  case atStart => exact ⟨0, Nat.zero_le _, rfl, hg0, B0⟩
  case round =>
    obtain ⟨k, hk, rfl, hown, hb⟩ := hrel
    by_cases hlt : k < l.length
    · obtain ⟨ba, oa, rfl, hba, hca⟩ := HA.out (by omega)
      have c1 : wr.cell? ⟨ba, oa + k, none⟩ = some (.string ⟨l[k].toArray⟩) := (hb.cell (p := ⟨ba, oa + k, none⟩) hba).trans (hca k hlt)
      clear hca
      have hjt := Lib.hid (joinP_take l k hlt)
      have hj1 := joinP_take_le l (l.length - (k + 1)) (k + 1) (by omega)
      have hj0 := joinP_take_le l (l.length - k) k (by omega)
      by_cases h0 : k = 0
      · subst h0
        have hsz : l[0].length ≤ 1000000 := by rw [hjt.out, if_pos rfl] at hj1; omega
        clear hj1 hj0
        have hown' : BldW w.heap.size w.heap.size [] wr := by simpa [joinP] using hown
        clear hown
        simp only [Nat.add_zero] at c1
        go_wp2_with fail
        refine (bldText_any w.heap.size w.heap.size [] l[0] _ hown' (by simp; omega) hb.size).mono ?_
        rintro e w3 ⟨rfl, hown3, hb3⟩
        go_wp2
        go_roundw
        case rel => exact ⟨1, by omega, rfl, by (show BldW _ _ (joinP (l.take (0 + 1))) _); rw [hjt.out]; simpa using hown3, hb.trans hb3⟩
        case measure => simp [intOf]; omega
      · have hk0 : (0 : Int) < (k : Int) := by omega
        have hsz : (joinP (l.take k)).length + l[k].length + 1 ≤ 1000000 := by rw [hjt.out, if_neg h0] at hj1; simp at hj1; omega
        clear hj1
        have HKZ := Lib.hid h0
        clear h0
        go_wp2_with fail
        refine (bldByte_any w.heap.size w.heap.size _ 32 _ hown (by omega) hb.size).mono ?_
        rintro e w3 ⟨rfl, hown3, hb3⟩
        have hbl := hb.trans hb3
        have c2 := (hb3.cell (p := ⟨ba, oa + k, none⟩) hba).trans c1
        clear c1 hown
        go_wp2_with fail
        refine (bldText_any w.heap.size w.heap.size _ l[k] _ hown3 (by simp; omega) hbl.size).mono ?_
        rintro e w4 ⟨rfl, hown4, hb4⟩
        go_wp2
        go_roundw
        case rel => exact ⟨k + 1, by omega, by go_num, by rw [hjt.out, if_neg HKZ.out]; simpa using hown4, hbl.trans hb4⟩
        case measure => simp [intOf]; omega
    · obtain rfl : k = l.length := by omega
      rw [List.take_length] at hown
      go_wp2_with fail
      refine (bldString_any w.heap.size w.heap.size _ _ hown hb.size).mono ?_
      rintro e w2 ⟨rfl, b2⟩
      go_wp2
      go_ret
      exact ⟨rfl, hb.trans b2⟩
end Go.Proofs.YtbaclgnohnmdgaaDoor
