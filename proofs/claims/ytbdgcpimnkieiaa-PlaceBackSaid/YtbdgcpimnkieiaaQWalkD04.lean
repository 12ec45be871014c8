/- Walks: Find; what stands ahead of a name's place, and behind it. -/
import Derived.Test.YtbdgcpimnkieiaaQWalkC04
import Derived.BigQuiet
namespace Go.Proofs.Ytbdgcpimnkieiaa
open Go.RowKit

theorem Find_any (l : List Ent) (n : List UInt8) (v : Value) (w : World) (hv : Ents w v l) (hs : sortP l) (hl : l.length ≤ 1000000) :
    Calls Try.prog 27 #[v, .string ⟨n.toArray⟩] w fun e w' => e = .returned (.tuple #[.int .i64 (numB l n), .bool (hasB l n)]) ∧ Below w.heap.size w w' := by
  obtain ⟨a, ca, rfl, hc, hm, HA0⟩ := id hv
  unfold maxLen at hm
  have HA := Lib.hid HA0
  clear HA0
  go_enter Try.func27, Try.ntmps27
  go_wp2_with fail; refine (search_any l n _ _ hv hs hl).mono ?_; rintro e w1 ⟨lo, rfl, hS, hb⟩
  cases hh : hasB l n
  · have HF := Lib.hid (find_none hh)
    go_wp2
    go_ret2
    exact ⟨by rw [HF.out.1, HF.out.2]; rfl, hb⟩
  · obtain ⟨hk, hn⟩ := find_srch hS hh
    have HN := Lib.hid hn
    clear hn
    obtain ⟨b, o, rfl, hbl, hcl⟩ := HA.out (by omega)
    have c2 : w1.cell? ⟨b, o + lo * 2 + 1, none⟩ = some (.int .i64 l[lo].2) := (hb.cell (p := ⟨b, o + lo * 2 + 1, none⟩) hbl).trans (hcl _ hk).2
    clear hcl hS
    go_wp2
    go_ret2
    exact ⟨by rw [HN.out, hh]; rfl, hb⟩

def TwoEnts (w : World) (A B : List Ent) (e : Ending) (w' : World) : Prop := ∃ x y, e = .returned (.tuple #[x, y]) ∧ Ents w' x A ∧ Ents w' y B ∧ Below w.heap.size w w'

set_option maxHeartbeats 2000000 in
theorem around_any (l : List Ent) (n : List UInt8) (v : Value) (w : World) (hv : Ents w v l) (hs : sortP l) (hl : l.length ≤ 1000000) :
    Calls Try.prog 55 #[v, .string ⟨n.toArray⟩] w (TwoEnts w (aheadB l n) (behindB l n)) := by
  obtain ⟨a, ca, rfl, hc, hm, HA0⟩ := id hv
  have HM := Lib.hid hm
  unfold maxLen at hm
  clear HA0
  go_enter Try.func55, Try.ntmps55
  go_wp2_with fail; refine (search_any l n _ _ hv hs hl).mono ?_; rintro e w1 ⟨lo, rfl, hS, hb⟩
  have HV := Lib.hid (hv.below hb)
  have HS := Lib.hid hS
  have hlo := hS.1
  have h0 : (0 : Int) ≤ (lo : Int) := by omega
  have h1 : (lo : Int) ≤ (l.length : Int) := by omega
  have h2 : (lo : Int) ≤ (ca : Int) := by omega
  clear hv hS
  have hbd : ∀ q, Below w.heap.size w (w1.drewN q) := fun q => below_drewN hb q
  have HT := Lib.hid HS.out.2.1
  cases hh : hasB l n
  · have HB := Lib.hid (HS.out.2.2.2 hh)
    go_wp2
    go_quiet (fail)
    all_goals go_wp2
    all_goals go_ret2
    all_goals refine ⟨_, _, rfl, ?_, ?_, hbd _⟩
    all_goals first
      | (rw [← HT.out]; exact Ents.head (HV.out.below (below_drewN (Below.refl _ _) _)) lo _ hlo (by omega) (by have := HM.out; omega))
      | (rw [← HB.out]; exact Ents.tail (HV.out.below (below_drewN (Below.refl _ _) _)) lo _ _ _ hlo rfl (by omega) (by have := HM.out; omega) (fun h => by first | rfl | omega))
  · obtain ⟨hk, _, hB⟩ := HS.out.2.2.1 hh
    have HB := Lib.hid hB
    clear hB
    have h3 : (lo : Int) + 1 ≤ (l.length : Int) := by omega
    have h4 : (lo : Int) + 1 ≤ (ca : Int) := by omega
    have h5 : ((lo : Int) + 1).toNat = lo + 1 := by omega
    go_wp2
    go_quiet (fail)
    all_goals go_wp2
    all_goals go_ret2
    all_goals refine ⟨_, _, rfl, ?_, ?_, hbd _⟩
    all_goals first
      | (rw [← HT.out]; exact Ents.head (HV.out.below (below_drewN (Below.refl _ _) _)) lo _ hlo (by omega) (by have := HM.out; omega))
      | (rw [← HB.out]; exact Ents.tail (HV.out.below (below_drewN (Below.refl _ _) _)) (lo + 1) _ _ _ hk rfl (by omega) (by have := HM.out; omega) (fun h => by first | rfl | omega))
end Go.Proofs.Ytbdgcpimnkieiaa
