/- Walks: namesOf, absolute, Long, Base. -/
import Derived.Test.YtbdgcpimnkieiaaQWalkA03
import Derived.Test.YtbdgcpimnkieiaaQ
namespace Go.Proofs.Ytbdgcpimnkieiaa
open Go.RowKit Go.Shelf
attribute [local go_sem] Oper.semAt_some

set_option maxHeartbeats 1000000 in
theorem namesOf_in (p : List UInt8) (w : World) :
    CallsIn Fence.wide (3 - 1) Try.prog 63 #[.string ⟨p.toArray⟩] w fun e w' => e = .returned (.func (.func 76) #[] #[.pointer (some ⟨w.heap.size, 0, none⟩)]) ∧ w' = w.alloc (.cells #[.string ⟨p.toArray⟩] 9) := by
  refine callsIn_of_wp Try.func63 rfl trivial ?_ rfl
  simp only [Try.ntmps63, List.size_toArray, List.length_cons, List.length_nil, Nat.reduceAdd, Nat.reduceSub, Array.replicate_succ, Array.replicate_zero, List.push_toArray, List.append_toArray, List.nil_append, List.cons_append]
  gi_wp2
  go_ret
  exact ⟨rfl, rfl⟩

theorem names_stops (B : Nat) (p : List UInt8) (hp : p.length ≤ 1000000) (w : World) (hB : B < w.heap.size) (hc : w.cell? ⟨B, 0, none⟩ = some (.string ⟨p.toArray⟩)) :
    SeqStopsK Fence.wide (3 - 1) Try.prog 76 #[.pointer (some ⟨B, 0, none⟩)] txtV (fun _ _ => True) (fun ys => ys.map (·.1) = namesB p) (fun pre => pre.map (·.1) <+: namesB p) (p.length + 1) w := fun l J Jx W hW hJ _ hY h0 =>
  namesOf1_in l B p hp J Jx
    (fun s A q h => hJ s A (A.drewN q) none h ⟨rfl, rfl, rfl, Nat.le_refl _, fun _ _ _ => rfl⟩ (fun r e => by cases e)) hY W ((hW.cell (p := ⟨B, 0, none⟩) hB).trans hc) h0

theorem absB_prefix (l : List UInt8) : Lib.hasPrefix l [47] = absB l := by
  cases l with
  | nil => rfl
  | cons c r => simp [Lib.hasPrefix, absB, List.isPrefixOf, eq_comm, BEq.comm]
theorem absolute_any (p : List UInt8) (w : World) : Calls Try.prog 62 #[.string ⟨p.toArray⟩] w fun e w' => e = .returned (.bool (absB p)) ∧ w = w' := by
  go_enter Try.func62, Try.ntmps62
  go_wp2_with fail; refine (Try.strings_HasPrefix ⟨p.toArray⟩ ⟨#[47]⟩ _).mono ?_; rintro e w' ⟨rfl, rfl⟩
  go_wp2
  go_ret
  exact ⟨ret_bool (absB_prefix p), rfl⟩

end Go.Proofs.Ytbdgcpimnkieiaa
