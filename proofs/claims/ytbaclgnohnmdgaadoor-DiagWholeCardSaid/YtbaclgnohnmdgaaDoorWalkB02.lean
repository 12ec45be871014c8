/- Walks: errs.Line, the document's Message and Line, awake. -/
import Derived.Test.YtbaclgnohnmdgaaDoorWalkA02
import Derived.Test.YtbaclgnohnmdgaaDoorFew
set_option linter.unusedVariables false
set_option linter.unusedSimpArgs false
namespace Go.Proofs.YtbaclgnohnmdgaaDoor
open Go.RowKit

theorem Tryd.info8 : (Tryd.prog.info? 5).map (fun i => (i.zero, i.size, i.bytes)) = some (some (.int .u8 0), 1, 1) := by kernel_rfl

set_option maxHeartbeats 800000 in
theorem Line_any (l : List (List UInt8)) (v : Value) (w : World) (hv : Strs w v l) (hl : l.length ≤ 1000001) (hj : (lineB l).length ≤ 1000000) :
    Calls Tryd.prog 12 #[v] w fun e w' => e = .returned (.string ⟨(lineB l).toArray⟩) ∧ Below w.heap.size w w' := by
  obtain ⟨a, ca, rfl, hm, HA0⟩ := hv
  have HA := Lib.hid HA0
  clear HA0 hm
  obtain ⟨i0, hi, hz0, hz1, hz2⟩ := info_parts Tryd.info8
  go_enter Tryd.func12, Tryd.ntmps12
  go_wp2
  go_loopw [3, 8] (fun s i wr => ∃ k : Nat, k ≤ l.length ∧ i = .int .i64 k ∧ wr.ownsRow w.heap.size 5 1 s (lineB (l.take k)).length (bytesV (lineB (l.take k))) ∧ Below w.heap.size w wr) (fun _ i _ => l.length - (intOf i).toNat)
  case atStart => exact ⟨0, Nat.zero_le _, rfl, World.ownsRow_nil _ _ _ _, Below.refl _ _⟩
  case round =>
    obtain ⟨k, hk, rfl, hown, hb⟩ := hrel
    by_cases hlt : k < l.length
    · obtain ⟨ba, oa, rfl, hba, hca⟩ := HA.out (by omega)
      have c1 : wr.cell? ⟨ba, oa + k, none⟩ = some (.string ⟨l[k].toArray⟩) := (hb.cell (p := ⟨ba, oa + k, none⟩) hba).trans (hca k hlt)
      clear hca
      have hjt := Lib.hid (lineB_take l k hlt)
      have hj1 := lineB_take_le l (l.length - (k + 1)) (k + 1) (by omega)
      by_cases h0 : k = 0
      · subst h0
        have hsz : l[0].length ≤ 1000000 := by rw [hjt.out, if_pos rfl] at hj1; omega
        clear hj1
        simp only [List.take_zero] at hown
        have hown' : wr.ownsRow w.heap.size 5 1 u3 0 [] := by simpa [lineB, bytesV] using hown
        clear hown
        simp only [Nat.add_zero] at c1
        go_wp2_with (at_builtin; (refine Lib.wpList_append_own_string _ rfl (.tmp 17) (.tmp 18) 38 9 rfl w.heap.size 5 i0 Tryd.underlying38 Tryd.underlying9 hi hz0 hz1 hz2 _ _ _ rfl hown' _ rfl (by simp [ByteArray.size, maxLen]; omega) (by simp [ByteArray.size]; omega) hb.size ?_); intro v3 w3 hown3 hg3 _)
        have hb3 := own_below hown' hg3 hb.size
        go_roundw
        case rel => exact ⟨1, by omega, rfl, by rw [hjt.out, if_pos rfl]; simpa [bytesV_str, ByteArray.size] using hown3, hb.trans hb3⟩
        case measure => simp [intOf]; omega
      · have hk0 : (0 : Int) < (k : Int) := by omega
        have hsz : (lineB (l.take k)).length + l[k].length + 2 ≤ 1000000 := by rw [hjt.out, if_neg h0] at hj1; simp at hj1; omega
        clear hj1
        have e3 : (lineB (l.take k)).length + (ByteArray.mk #[58, 32]).size = (lineB (l.take k)).length + 2 := rfl
        go_wp2_with (first | (at_builtin; (refine Lib.wpList_append_own_string _ rfl (.tmp 15) (.const (.string ⟨#[58, 32]⟩)) 38 9 rfl w.heap.size 5 i0 Tryd.underlying38 Tryd.underlying9 hi hz0 hz1 hz2 _ _ _ rfl hown _ rfl (by simp [ByteArray.size, maxLen]; omega) (by simp [ByteArray.size]; omega) hb.size ?_); intro v3 w3 hown3 hg3 _) | (at_builtin; (refine Lib.wpList_append_own_string _ rfl (.tmp 17) (.tmp 18) 38 9 rfl w.heap.size 5 i0 Tryd.underlying38 Tryd.underlying9 hi hz0 hz1 hz2 _ _ _ rfl hown3 _ rfl (by simp [ByteArray.size, maxLen]; omega) (by simp [ByteArray.size]; omega) (hb.trans (own_below hown hg3 hb.size)).size ?_); intro v4 w4 hown4 hg4 _))
        have hb3 := own_below hown hg3 hb.size
        have hb4 := own_below hown3 hg4 (hb.trans hb3).size
        go_roundw
        case rel => exact ⟨k + 1, by omega, by go_num, by (rw [hjt.out, if_neg h0]; have e : (lineB (l.take k) ++ [58, 32] ++ l[k]).length = (lineB (l.take k)).length + 2 + l[k].length := by (simp; omega)); rw [e]; simpa [bytesV, bytesV_str, ByteArray.size, Lib.strCells] using hown4, (hb.trans hb3).trans hb4⟩
        case measure => simp [intOf]; omega
    · obtain rfl : k = l.length := by omega
      rw [List.take_length] at hown
      have hcv := run_own_string (P := Tryd.prog) (l := lineB l) 38 9 Tryd.underlying38 Tryd.underlying5 Tryd.underlying9 hown
      go_wp2
      go_ret
      exact ⟨rfl, hb⟩

attribute [go_sem] ByteArray.mk_append_mk

theorem refMessage_any (e : Int) (w : World) :
    Calls Tryd.prog 17 #[.int .i64 e] w fun r w' => r = .returned (.string ⟨(msgOf e).toArray⟩) ∧ w = w' := by
  by_cases h : 0 ≤ e ∧ e ≤ 13
  · obtain ⟨k, rfl⟩ : ∃ k : Nat, e = k := ⟨e.toNat, by omega⟩
    have hc : k = 0 ∨ k = 1 ∨ k = 2 ∨ k = 3 ∨ k = 4 ∨ k = 5 ∨ k = 6 ∨ k = 7 ∨ k = 8 ∨ k = 9 ∨ k = 10 ∨ k = 11 ∨ k = 12 ∨ k = 13 := by omega
    clear h
    rcases hc with rfl | rfl | rfl | rfl | rfl | rfl | rfl | rfl | rfl | rfl | rfl | rfl | rfl | rfl <;>
      (go_enter Tryd.func17, Tryd.ntmps17; go_wp2; go_ret; exact ⟨rfl, rfl⟩)
  · rw [msgOf_no (by omega)]
    have n0 : e ≠ 0 := by omega
    have n1 : e ≠ 1 := by omega
    have n2 : e ≠ 2 := by omega
    have n3 : e ≠ 3 := by omega
    have n4 : e ≠ 4 := by omega
    have n5 : e ≠ 5 := by omega
    have n6 : e ≠ 6 := by omega
    have n7 : e ≠ 7 := by omega
    have n8 : e ≠ 8 := by omega
    have n9 : e ≠ 9 := by omega
    have n10 : e ≠ 10 := by omega
    have n11 : e ≠ 11 := by omega
    have n12 : e ≠ 12 := by omega
    have n13 : e ≠ 13 := by omega
    clear h
    go_enter Tryd.func17, Tryd.ntmps17
    go_wp2
    go_ret
    exact ⟨rfl, rfl⟩
end Go.Proofs.YtbaclgnohnmdgaaDoor
