/- Walks: the document's Plain. -/
import Derived.Test.YtobepdmpacdakaaGreatQ
import Derived.Test.YtobepdmpacdakaaGreatQMay
set_option linter.unusedVariables false
set_option linter.unusedSimpArgs false
namespace Go.Proofs.YtobepdmpacdakaaGreat
open Go.RowKit

def PlainPost (w : World) (o : Option (List (List UInt8))) (e : Ending) (w' : World) : Prop :=
  ∃ v, e = .returned (.tuple #[v, .bool o.isSome]) ∧ Strs w' v (o.getD []) ∧ Below w.heap.size w w'
theorem PlainPost.none_ {w w' : World} {o : Option (List (List UInt8))} {e : Ending} (h : o = none) (he : e = .returned (.tuple #[.slice none 0 0, .bool false])) (hb : Below w.heap.size w w') : PlainPost w o e w' :=
  ⟨.slice none 0 0, by rw [he, h]; rfl, by rw [h]; exact Strs.nil_ _, hb⟩

set_option maxHeartbeats 1000000 in
theorem refPlain_any (p : List UInt8) (w : World) (hp : p.length ≤ 100000) :
    Calls Tryz.prog 102 #[.string ⟨p.toArray⟩] w (PlainPost w (plainB p)) := by
  have hsz := Lib.hid (namesB_size p)
  have hct := namesB_count p
  have htl : (tailB (namesB p)).length ≤ 100000000 := by
    have := namesA_total p []
    simp [namesB] at *; omega
  go_enter Tryz.func102, Tryz.ntmps102
  go_wp2_with fail; refine (refNames_any p _ (by omega)).mono ?_; rintro e w1 ⟨v, rfl, hown, h1⟩
  have hs := own_strs hown
  have HS := Lib.hid hs
  obtain ⟨ad, ca, rfl, hm, HA0⟩ := hs
  have HA := Lib.hid HA0
  clear HA0 hm hown
  go_wp2
  go_loop [5] (fun i => ∃ k : Nat, k ≤ (namesB p).length ∧ i = .int .i64 k ∧ Aside (∀ j (hj : j < (namesB p).length), j < k → mayB (namesB p)[j] = true)) (fun i => (namesB p).length - (intOf i).toNat)
  case atStart => exact ⟨0, Nat.zero_le _, rfl, fun j hj h => absurd h (by omega)⟩
  case round =>
    obtain ⟨k, hk, rfl, HT⟩ := hrel
    by_cases hlt : k < (namesB p).length
    · obtain ⟨ba, oa, rfl, hba, hca⟩ := HA.out (by omega)
      have c1 : w1.cell? ⟨ba, oa + k, none⟩ = some (.string ⟨(namesB p)[k].toArray⟩) := hca k hlt
      clear hca
      have hks := hsz.out _ (List.getElem_mem hlt)
      go_wp2_with fail; refine (refMay_any (namesB p)[k] _ (by omega)).mono ?_; rintro e w2 ⟨rfl, rfl⟩
      cases hmk : mayB (namesB p)[k]
      · have HN := Lib.hid (plainB_bad hlt hmk)
        go_wp2
        go_ret2
        exact PlainPost.none_ HN.out rfl h1
      · have HT2 : Hid (∀ j (hj : j < (namesB p).length), j < k + 1 → mayB (namesB p)[j] = true) := by
          intro j hj h
          rcases Nat.lt_or_ge j k with h' | h'
          · exact HT.out j hj h'
          · obtain rfl : j = k := by omega
            exact hmk
        go_wp2
        go_round
        case rel => exact ⟨k + 1, by omega, by go_num, HT2.out⟩
        case measure => simp [intOf]; omega
    · obtain rfl : k = (namesB p).length := by omega
      have HP := Lib.hid (plainB_ok (l := p) (fun n hn => by
        obtain ⟨j, hj, rfl⟩ := List.getElem_of_mem hn
        exact HT.out j hj hj))
      go_wp2_with fail; refine (refJoin_any (namesB p) _ _ HS.out (by omega) htl).mono ?_; rintro e w2 ⟨rfl, rfl⟩
      cases hj : (joinB (namesB p) == p)
      · have HN : Hid (plainB p = none) := by (show _ = _); rw [HP.out, hj]; rfl
        go_wp2
        go_ret2
        exact PlainPost.none_ HN.out rfl h1
      · have HN : Hid (plainB p = some (namesB p)) := by (show _ = _); rw [HP.out, hj]; rfl
        go_wp2
        go_ret2
        exact ⟨_, by rw [HN.out]; rfl, by rw [HN.out]; exact HS.out, h1⟩
/-- The same, the names' slice being the call's own. -/
def PlainO (w : World) (o : Option (List (List UInt8))) (e : Ending) (w' : World) : Prop :=
  ∃ v, e = .returned (.tuple #[v, .bool o.isSome]) ∧ w'.ownsRow w.heap.size 9 1 v (o.getD []).length (strsV (o.getD [])) ∧ Below w.heap.size w w'
theorem PlainO.none_ {w w' : World} {o : Option (List (List UInt8))} {e : Ending} (h : o = none) (he : e = .returned (.tuple #[.slice none 0 0, .bool false])) (hb : Below w.heap.size w w') : PlainO w o e w' :=
  ⟨.slice none 0 0, by rw [he, h]; rfl, by rw [h]; exact World.ownsRow_nil _ _ _ _, hb⟩
set_option maxHeartbeats 1000000 in
theorem refPlainO_any (p : List UInt8) (w : World) (hp : p.length ≤ 100000) :
    Calls Tryz.prog 102 #[.string ⟨p.toArray⟩] w (PlainO w (plainB p)) := by
  have hsz := Lib.hid (namesB_size p)
  have hct := namesB_count p
  have htl : (tailB (namesB p)).length ≤ 100000000 := by
    have := namesA_total p []
    simp [namesB] at *; omega
  go_enter Tryz.func102, Tryz.ntmps102
  go_wp2_with fail; refine (refNames_any p _ (by omega)).mono ?_; rintro e w1 ⟨v, rfl, hown, h1⟩
  have hs := own_strs hown
  have HS := Lib.hid hs
  obtain ⟨ad, ca, rfl, hm, HA0⟩ := hs
  have HA := Lib.hid HA0
  have HOW := Lib.hid hown
  clear HA0 hm hown
  go_wp2
  go_loop [5] (fun i => ∃ k : Nat, k ≤ (namesB p).length ∧ i = .int .i64 k ∧ Aside (∀ j (hj : j < (namesB p).length), j < k → mayB (namesB p)[j] = true)) (fun i => (namesB p).length - (intOf i).toNat)
  case atStart => exact ⟨0, Nat.zero_le _, rfl, fun j hj h => absurd h (by omega)⟩
  case round =>
    obtain ⟨k, hk, rfl, HT⟩ := hrel
    by_cases hlt : k < (namesB p).length
    · obtain ⟨ba, oa, rfl, hba, hca⟩ := HA.out (by omega)
      have c1 : w1.cell? ⟨ba, oa + k, none⟩ = some (.string ⟨(namesB p)[k].toArray⟩) := hca k hlt
      clear hca
      have hks := hsz.out _ (List.getElem_mem hlt)
      go_wp2_with fail; refine (refMay_any (namesB p)[k] _ (by omega)).mono ?_; rintro e w2 ⟨rfl, rfl⟩
      cases hmk : mayB (namesB p)[k]
      · have HN := Lib.hid (plainB_bad hlt hmk)
        go_wp2
        go_ret2
        exact PlainO.none_ HN.out rfl h1
      · have HT2 : Hid (∀ j (hj : j < (namesB p).length), j < k + 1 → mayB (namesB p)[j] = true) := by
          intro j hj h
          rcases Nat.lt_or_ge j k with h' | h'
          · exact HT.out j hj h'
          · obtain rfl : j = k := by omega
            exact hmk
        go_wp2
        go_round
        case rel => exact ⟨k + 1, by omega, by go_num, HT2.out⟩
        case measure => simp [intOf]; omega
    · obtain rfl : k = (namesB p).length := by omega
      have HP := Lib.hid (plainB_ok (l := p) (fun n hn => by
        obtain ⟨j, hj, rfl⟩ := List.getElem_of_mem hn
        exact HT.out j hj hj))
      go_wp2_with fail; refine (refJoin_any (namesB p) _ _ HS.out (by omega) htl).mono ?_; rintro e w2 ⟨rfl, rfl⟩
      cases hj : (joinB (namesB p) == p)
      · have HN : Hid (plainB p = none) := by (show _ = _); rw [HP.out, hj]; rfl
        go_wp2
        go_ret2
        exact PlainO.none_ HN.out rfl h1
      · have HN : Hid (plainB p = some (namesB p)) := by (show _ = _); rw [HP.out, hj]; rfl
        go_wp2
        go_ret2
        exact ⟨_, by rw [HN.out]; rfl, by rw [HN.out]; exact HOW.out, h1⟩
end Go.Proofs.YtobepdmpacdakaaGreat
