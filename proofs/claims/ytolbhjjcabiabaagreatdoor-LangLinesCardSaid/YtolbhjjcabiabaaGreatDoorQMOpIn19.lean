/- Texts put together: May, Plain03, WalkJ03, WalkA19, WalkB19, WalkC19, WalkD19, WalkF03, OpIn19. -/
import Derived.Test.YtolbhjjcabiabaaGreatDoorQMWalkB03
import Derived.Test.YtolbhjjcabiabaaGreatDoorChecked
import Derived.Test.YtolbhjjcabiabaaGreatDoorQAnyOf
import Derived.Deep.LoopGhost
import Derived.Laws.StructEq
import Derived.BigQuiet
import Derived.Test.YtolbhjjcabiabaaGreatDoorQMPure20d
import Derived.ProofKit
set_option linter.unusedVariables false
set_option linter.unusedSimpArgs false
/- May: the program's and the document's: a name that may be. (wip/src/may) -/
set_option linter.unusedVariables false
set_option linter.unusedSimpArgs false
namespace Go.Proofs.YtolbhjjcabiabaaGreatDoor
open Go.RowKit

theorem mayB_hit (n : List UInt8) (h0 : n ≠ []) (h1 : n ≠ [46]) (h2 : n ≠ [46, 46]) (h3 : n.length ≤ 255) : mayB n = !n.any hitB := by
  have e0 : n.isEmpty = false := by simpa using h0
  have e1 : (n != [46]) = true := by simpa using h1
  have e2 : (n != [46, 46]) = true := by simpa using h2
  have key : n.any hitB = (n.contains 47 || n.contains 0) := by
    clear h0 h1 h2 h3 e0 e1 e2
    induction n with
    | nil => rfl
    | cons c n ih =>
      rw [List.any_cons, ih, List.contains_cons, List.contains_cons]
      unfold hitB
      rw [BEq.comm (a := c) (b := 47), BEq.comm (a := c) (b := 0)]
      cases (47 == c) <;> cases (0 == c) <;> cases n.contains 47 <;> cases n.contains 0 <;> rfl
  unfold mayB
  rw [e0, e1, e2, key, decide_eq_true h3]
  cases n.contains 47 <;> cases n.contains 0 <;> rfl

theorem May_any (l : List UInt8) (w : World) (hl : l.length ≤ 1000000) :
    Calls Tryz.prog 98 #[.string ⟨l.toArray⟩] w fun e w' => e = .returned (.bool (mayB l)) ∧ Below w.heap.size w w' := by
  by_cases h0 : l = []
  · subst h0
    go_enter Tryz.func98, Tryz.ntmps98
    go_wp2
    go_ret
    exact ⟨rfl, Below.refl _ _⟩
  by_cases h1 : l = [46]
  · subst h1
    go_enter Tryz.func98, Tryz.ntmps98
    go_wp2
    go_ret
    exact ⟨rfl, Below.refl _ _⟩
  by_cases h2 : l = [46, 46]
  · subst h2
    go_enter Tryz.func98, Tryz.ntmps98
    go_wp2
    go_ret
    exact ⟨rfl, Below.refl _ _⟩
  by_cases h3 : l.length ≤ 255
  · have HM := Lib.hid (mayB_hit l h0 h1 h2 h3)
    have e0 : l.isEmpty = false := by simpa using h0
    have e1 : (l == [46]) = false := by simpa using h1
    have e2 : (l == [46, 46]) = false := by simpa using h2
    clear h0 h1 h2
    go_enter Tryz.func98, Tryz.ntmps98
    go_wp2_with fail; refine (ContainsAny_any l _ hl).mono ?_; rintro e w' ⟨rfl, hB⟩
    go_wp2
    go_ret
    exact ⟨ret_bool (by rw [HM.out]), hB⟩
  · have HM : Hid (mayB l = false) := by
      have : decide (l.length ≤ 255) = false := decide_eq_false h3
      (show _ = _); unfold mayB; rw [this]; simp
    have e0 : l.isEmpty = false := by simpa using h0
    have e1 : (l == [46]) = false := by simpa using h1
    have e2 : (l == [46, 46]) = false := by simpa using h2
    clear h0 h1 h2
    go_enter Tryz.func98, Tryz.ntmps98
    go_wp2
    go_ret
    exact ⟨ret_bool (by rw [HM.out]), Below.refl _ _⟩

theorem any_hit_at {l : List UInt8} {k : Nat} (h : k < l.length) (hc : hitB l[k] = true) : mayB l = false := by
  by_cases h0 : l = []
  · subst h0; simp at h
  by_cases h1 : l = [46]
  · subst h1; rfl
  by_cases h2 : l = [46, 46]
  · subst h2; rfl
  by_cases h3 : l.length ≤ 255
  · rw [mayB_hit l h0 h1 h2 h3, hits_found h hc]; rfl
  · have : decide (l.length ≤ 255) = false := decide_eq_false h3
    unfold mayB; rw [this]; simp

set_option maxHeartbeats 1000000 in
theorem refMay_all (l : List UInt8) (w : World) (hl : l.length ≤ 9223372036854775807) :
    Calls Tryz.prog 76 #[.string ⟨l.toArray⟩] w fun e w' => e = .returned (.bool (mayB l)) ∧ w = w' := by
  go_enter Tryz.func76, Tryz.ntmps76
  go_wp2
  go_loop [3] (fun i => ∃ k : Nat, k ≤ l.length ∧ i = .int .i64 k ∧ Aside ((l.take k).any hitB = false)) (fun i => l.length - (intOf i).toNat)
  case atStart => exact ⟨0, Nat.zero_le _, rfl, by (show _ = _); simp⟩
  case round =>
    obtain ⟨k, hk, rfl, HT⟩ := hrel
    by_cases hlt : k < l.length
    · cases h47 : ((l[k].toNat : Int) == 47)
      · cases h00 : ((l[k].toNat : Int) == 0)
        · have hh : hitB l[k] = false := by
            unfold hitB
            rw [Bool.or_eq_false_iff, beq_eq_false_iff_ne, beq_eq_false_iff_ne]
            constructor
            · intro e; rw [e] at h47; exact absurd h47 (by decide)
            · intro e; rw [e] at h00; exact absurd h00 (by decide)
          have HT2 : Hid ((l.take (k + 1)).any hitB = false) := hits_next HT.out (by omega) (fun j hj a b => by
            obtain rfl : j = k := by omega
            exact hh)
          go_wp2
          go_round
          case rel => exact ⟨k + 1, by omega, by go_num, HT2.out⟩
          case measure => simp [intOf]; omega
        · have hh : hitB l[k] = true := by
            have : l[k] = 0 := UInt8.toNat_inj.1 (by simp at h00; simp; omega)
            rw [this]; rfl
          have HN := Lib.hid (any_hit_at hlt hh)
          go_wp2
          go_ret
          exact ⟨ret_bool (by rw [HN.out]), rfl⟩
      · have hh : hitB l[k] = true := by
          have : l[k] = 47 := UInt8.toNat_inj.1 (by simp at h47; simp; omega)
          rw [this]; rfl
        have HN := Lib.hid (any_hit_at hlt hh)
        go_wp2
        go_ret
        exact ⟨ret_bool (by rw [HN.out]), rfl⟩
    · obtain rfl : k = l.length := by omega
      have hno : l.any hitB = false := by have := HT.out; rwa [List.take_length] at this
      by_cases h0 : l = []
      · subst h0
        go_wp2
        go_ret
        exact ⟨rfl, rfl⟩
      by_cases h1 : l = [46]
      · subst h1
        go_wp2
        go_ret
        exact ⟨rfl, rfl⟩
      by_cases h2 : l = [46, 46]
      · subst h2
        go_wp2
        go_ret
        exact ⟨rfl, rfl⟩
      have hpos : 1 ≤ l.length := List.length_pos_iff.2 h0
      have e1 : (l == [46]) = false := by simpa using h1
      have e2 : (l == [46, 46]) = false := by simpa using h2
      by_cases h3 : l.length ≤ 255
      · have HM := Lib.hid ((mayB_hit l h0 h1 h2 h3).trans (by rw [hno]))
        clear h0 h1 h2 hno
        go_wp2
        go_ret
        exact ⟨ret_bool (by rw [HM.out]; rfl), rfl⟩
      · have HM : Hid (mayB l = false) := by
          have : decide (l.length ≤ 255) = false := decide_eq_false h3
          (show _ = _); unfold mayB; rw [this]; simp
        clear h0 h1 h2 hno
        go_wp2
        go_ret
        exact ⟨ret_bool (by rw [HM.out]), rfl⟩
theorem refMay_any (l : List UInt8) (w : World) (hl : l.length ≤ 1000000) :
    Calls Tryz.prog 76 #[.string ⟨l.toArray⟩] w fun e w' => e = .returned (.bool (mayB l)) ∧ w = w' := refMay_all l w (by omega)
end Go.Proofs.YtolbhjjcabiabaaGreatDoor

/- Walks: the document's Plain. -/
set_option linter.unusedVariables false
set_option linter.unusedSimpArgs false
namespace Go.Proofs.YtolbhjjcabiabaaGreatDoor
open Go.RowKit

def PlainPost (w : World) (o : Option (List (List UInt8))) (e : Ending) (w' : World) : Prop :=
  ∃ v, e = .returned (.tuple #[v, .bool o.isSome]) ∧ Strs w' v (o.getD []) ∧ Below w.heap.size w w'
theorem PlainPost.none_ {w w' : World} {o : Option (List (List UInt8))} {e : Ending} (h : o = none) (he : e = .returned (.tuple #[.slice none 0 0, .bool false])) (hb : Below w.heap.size w w') : PlainPost w o e w' :=
  ⟨.slice none 0 0, by rw [he, h]; rfl, by rw [h]; exact Strs.nil_ _, hb⟩

set_option maxHeartbeats 1000000 in
theorem refPlain_any (p : List UInt8) (w : World) (hp : p.length ≤ 100000) :
    Calls Tryz.prog 46 #[.string ⟨p.toArray⟩] w (PlainPost w (plainB p)) := by
  have hsz := Lib.hid (namesB_size p)
  have hct := namesB_count p
  have htl : (tailB (namesB p)).length ≤ 100000000 := by
    have := namesA_total p []
    simp [namesB] at *; omega
  go_enter Tryz.func46, Tryz.ntmps46
  go_wp2_with fail; refine (refNames_any p _ (by omega)).mono ?_; rintro e w1 ⟨v, rfl, hown, h1⟩
  have hs := own_strs hown
  have HS := Lib.hid hs
  obtain ⟨ad, ca, rfl, hm, HA0⟩ := hs
  have HA := Lib.hid HA0
  clear HA0 hm hown
  go_wp2
  go_loop [5] (fun i => ∃ k : Nat, k ≤ (namesB p).length ∧ i = .int .i64 k ∧ Aside (∀ j (hj : j < (namesB p).length), j < k → mayB (namesB p)[j] = true)) (fun i => (namesB p).length - (intOf i).toNat)
  case atStart => exact ⟨0, Nat.zero_le _, rfl, fun j hj h => absurd h (by omega)⟩
  case round =>
    obtain ⟨k, hk, rfl, HT⟩ := hrel
    by_cases hlt : k < (namesB p).length
    · obtain ⟨ba, oa, rfl, hba, hca⟩ := HA.out (by omega)
      have c1 : w1.cell? ⟨ba, oa + k, none⟩ = some (.string ⟨(namesB p)[k].toArray⟩) := hca k hlt
      clear hca
      have hks := hsz.out _ (List.getElem_mem hlt)
      go_wp2_with fail; refine (refMay_any (namesB p)[k] _ (by omega)).mono ?_; rintro e w2 ⟨rfl, rfl⟩
      cases hmk : mayB (namesB p)[k]
      · have HN := Lib.hid (plainB_bad hlt hmk)
        go_wp2
        go_ret2
        exact PlainPost.none_ HN.out rfl h1
      · have HT2 : Hid (∀ j (hj : j < (namesB p).length), j < k + 1 → mayB (namesB p)[j] = true) := by
          intro j hj h
          rcases Nat.lt_or_ge j k with h' | h'
          · exact HT.out j hj h'
          · obtain rfl : j = k := by omega
            exact hmk
        go_wp2
        go_round
        case rel => exact ⟨k + 1, by omega, by go_num, HT2.out⟩
        case measure => simp [intOf]; omega
    · obtain rfl : k = (namesB p).length := by omega
      have HP := Lib.hid (plainB_ok (l := p) (fun n hn => by
        obtain ⟨j, hj, rfl⟩ := List.getElem_of_mem hn
        exact HT.out j hj hj))
      go_wp2_with fail; refine (refJoin_any (namesB p) _ _ HS.out (by omega) htl).mono ?_; rintro e w2 ⟨rfl, rfl⟩
      cases hj : (joinB (namesB p) == p)
      · have HN : Hid (plainB p = none) := by (show _ = _); rw [HP.out, hj]; rfl
        go_wp2
        go_ret2
        exact PlainPost.none_ HN.out rfl h1
      · have HN : Hid (plainB p = some (namesB p)) := by (show _ = _); rw [HP.out, hj]; rfl
        go_wp2
        go_ret2
        exact ⟨_, by rw [HN.out]; rfl, by rw [HN.out]; exact HS.out, h1⟩
/-- The same, the names' slice being the call's own. -/
def PlainO (w : World) (o : Option (List (List UInt8))) (e : Ending) (w' : World) : Prop :=
  ∃ v, e = .returned (.tuple #[v, .bool o.isSome]) ∧ w'.ownsRow w.heap.size 9 1 v (o.getD []).length (strsV (o.getD [])) ∧ Below w.heap.size w w'
theorem PlainO.none_ {w w' : World} {o : Option (List (List UInt8))} {e : Ending} (h : o = none) (he : e = .returned (.tuple #[.slice none 0 0, .bool false])) (hb : Below w.heap.size w w') : PlainO w o e w' :=
  ⟨.slice none 0 0, by rw [he, h]; rfl, by rw [h]; exact World.ownsRow_nil _ _ _ _, hb⟩
set_option maxHeartbeats 1000000 in
theorem refPlainO_any (p : List UInt8) (w : World) (hp : p.length ≤ 100000) :
    Calls Tryz.prog 46 #[.string ⟨p.toArray⟩] w (PlainO w (plainB p)) := by
  have hsz := Lib.hid (namesB_size p)
  have hct := namesB_count p
  have htl : (tailB (namesB p)).length ≤ 100000000 := by
    have := namesA_total p []
    simp [namesB] at *; omega
  go_enter Tryz.func46, Tryz.ntmps46
  go_wp2_with fail; refine (refNames_any p _ (by omega)).mono ?_; rintro e w1 ⟨v, rfl, hown, h1⟩
  have hs := own_strs hown
  have HS := Lib.hid hs
  obtain ⟨ad, ca, rfl, hm, HA0⟩ := hs
  have HA := Lib.hid HA0
  have HOW := Lib.hid hown
  clear HA0 hm hown
  go_wp2
  go_loop [5] (fun i => ∃ k : Nat, k ≤ (namesB p).length ∧ i = .int .i64 k ∧ Aside (∀ j (hj : j < (namesB p).length), j < k → mayB (namesB p)[j] = true)) (fun i => (namesB p).length - (intOf i).toNat)
  case atStart => exact ⟨0, Nat.zero_le _, rfl, fun j hj h => absurd h (by omega)⟩
  case round =>
    obtain ⟨k, hk, rfl, HT⟩ := hrel
    by_cases hlt : k < (namesB p).length
    · obtain ⟨ba, oa, rfl, hba, hca⟩ := HA.out (by omega)
      have c1 : w1.cell? ⟨ba, oa + k, none⟩ = some (.string ⟨(namesB p)[k].toArray⟩) := hca k hlt
      clear hca
      have hks := hsz.out _ (List.getElem_mem hlt)
      go_wp2_with fail; refine (refMay_any (namesB p)[k] _ (by omega)).mono ?_; rintro e w2 ⟨rfl, rfl⟩
      cases hmk : mayB (namesB p)[k]
      · have HN := Lib.hid (plainB_bad hlt hmk)
        go_wp2
        go_ret2
        exact PlainO.none_ HN.out rfl h1
      · have HT2 : Hid (∀ j (hj : j < (namesB p).length), j < k + 1 → mayB (namesB p)[j] = true) := by
          intro j hj h
          rcases Nat.lt_or_ge j k with h' | h'
          · exact HT.out j hj h'
          · obtain rfl : j = k := by omega
            exact hmk
        go_wp2
        go_round
        case rel => exact ⟨k + 1, by omega, by go_num, HT2.out⟩
        case measure => simp [intOf]; omega
    · obtain rfl : k = (namesB p).length := by omega
      have HP := Lib.hid (plainB_ok (l := p) (fun n hn => by
        obtain ⟨j, hj, rfl⟩ := List.getElem_of_mem hn
        exact HT.out j hj hj))
      go_wp2_with fail; refine (refJoin_any (namesB p) _ _ HS.out (by omega) htl).mono ?_; rintro e w2 ⟨rfl, rfl⟩
      cases hj : (joinB (namesB p) == p)
      · have HN : Hid (plainB p = none) := by (show _ = _); rw [HP.out, hj]; rfl
        go_wp2
        go_ret2
        exact PlainO.none_ HN.out rfl h1
      · have HN : Hid (plainB p = some (namesB p)) := by (show _ = _); rw [HP.out, hj]; rfl
        go_wp2
        go_ret2
        exact ⟨_, by rw [HN.out]; rfl, by rw [HN.out]; exact HOW.out, h1⟩
end Go.Proofs.YtolbhjjcabiabaaGreatDoor

/- Walks: the document's Under, Plain, Read. -/
set_option linter.unusedVariables false
set_option linter.unusedSimpArgs false
namespace Go.Proofs.YtolbhjjcabiabaaGreatDoor
open Go.RowKit

theorem prefix_at {a b : List (List UInt8)} (h : b.length ≤ a.length) : b.isPrefixOf a = decide (∀ j (hj : j < b.length), a[j]'(by omega) = b[j]) := by
  rw [Bool.eq_iff_iff, List.isPrefixOf_iff_prefix, decide_eq_true_eq, List.prefix_iff_eq_take]
  constructor
  · intro e j hj
    have : (a.take b.length)[j]'(by simp; omega) = b[j] := by congr 1; exact e.symm
    rw [← this, List.getElem_take]
  · intro e
    apply List.ext_getElem
    · simp; omega
    · intro i h1 h2
      rw [List.getElem_take, e i h1]

set_option maxHeartbeats 1000000 in
theorem refLies_any (p q : List UInt8) (w : World) (hp : p.length ≤ 1000000) (hq : q.length ≤ 1000000) :
    Calls Tryz.prog 30 #[.string ⟨p.toArray⟩, .string ⟨q.toArray⟩] w fun e w' => e = .returned (.bool ((namesB q).isPrefixOf (namesB p))) ∧ Below w.heap.size w w' := by
  go_enter Tryz.func30, Tryz.ntmps30
  go_wp2_with fail; refine (refNames_any p _ hp).mono ?_; rintro e w1 ⟨va, rfl, owna, h1⟩
  have sa := own_strs owna
  go_wp2_with fail; refine (refNames_any q _ hq).mono ?_; rintro e w2 ⟨vb, rfl, ownb, h2⟩
  have sa2 := sa.below h2
  replace h2 := h1.trans (h2.mono h1.size)
  have sb := own_strs ownb
  clear sa owna ownb h1
  have hca := namesB_count p
  have hcb := namesB_count q
  generalize hA : namesB p = A at *
  generalize hB : namesB q = B at *
  have HAe := Lib.hid hA
  have HBe := Lib.hid hB
  clear hA hB
  obtain ⟨aa, ca, rfl, _, HA0⟩ := sa2
  obtain ⟨ab, cb, rfl, _, HB0⟩ := sb
  have HA := Lib.hid HA0
  have HB := Lib.hid HB0
  clear HA0 HB0
  by_cases hl : B.length ≤ A.length
  · have HP := Lib.hid (prefix_at hl)
    go_wp2
    go_loopw [7] (fun i wr => ∃ k : Nat, k ≤ B.length ∧ i = .int .i64 k ∧ Aside (∀ j (hj : j < B.length), j < k → A[j]'(by omega) = B[j]) ∧ Below w2.heap.size w2 wr) (fun i _ => B.length - (intOf i).toNat)
    case atStart => exact ⟨0, Nat.zero_le _, rfl, fun j hj h => absurd h (by omega), Below.refl _ _⟩
    case round =>
      obtain ⟨k, hk, rfl, HT, hbw⟩ := hrel
      by_cases hlt : k < B.length
      · have hlta : k < A.length := by omega
        obtain ⟨ba, oa, rfl, hba, hxa⟩ := HA.out (by omega)
        obtain ⟨bb, ob, rfl, hbb, hxb⟩ := HB.out (by omega)
        have c1 : wr.cell? ⟨ba, oa + k, none⟩ = some (.string ⟨A[k].toArray⟩) := (hbw.cell (p := ⟨ba, oa + k, none⟩) hba).trans (hxa k hlta)
        have c2 : wr.cell? ⟨bb, ob + k, none⟩ = some (.string ⟨B[k].toArray⟩) := (hbw.cell (p := ⟨bb, ob + k, none⟩) hbb).trans (hxb k hlt)
        clear hxa hxb
        have k0 : (0 : Int) ≤ (k : Int) := by omega
        have k1 : (k : Int) < (A.length : Int) := by omega
        have k2 : (k : Int) < (B.length : Int) := by omega
        cases he : A[k] == B[k]
        · have hne2 : Hid (B.isPrefixOf A = false) := by
            (show _ = _); rw [HP.out, decide_eq_false_iff_not]
            intro h
            rw [h k hlt] at he
            simp at he
          go_wp2
          go_quiet (fail)
          go_wp2
          go_ret
          exact ⟨ret_bool (by rw [HAe.out, HBe.out, hne2.out]), h2.trans ((below_drewN hbw _).mono h2.size)⟩
        · have HT2 : Hid (∀ j (hj : j < B.length), j < k + 1 → A[j]'(by omega) = B[j]) := by
            intro j hj h
            rcases Nat.lt_or_ge j k with h' | h'
            · exact HT.out j hj h'
            · obtain rfl : j = k := by omega
              exact beq_iff_eq.1 he
          go_wp2
          go_quiet (fail)
          go_wp2
          go_roundw
          case rel => exact ⟨k + 1, by omega, by go_num, HT2.out, below_drewN hbw _⟩
          case measure => simp [intOf]; omega
      · have hy : Hid (B.isPrefixOf A = true) := by
          (show _ = _); rw [HP.out, decide_eq_true_eq]
          intro j hj
          exact HT.out j hj (by omega)
        go_wp2
        go_ret
        exact ⟨ret_bool (by rw [HAe.out, HBe.out, hy.out]), h2.trans (hbw.mono h2.size)⟩
  · have hn : Hid (B.isPrefixOf A = false) := by
      (show _ = _); rw [Bool.eq_false_iff, ne_eq, List.isPrefixOf_iff_prefix]
      intro h; exact hl h.length_le
    go_wp2
    go_ret
    exact ⟨ret_bool (by rw [HAe.out, HBe.out, hn.out]), h2⟩

theorem absB_at {p : List UInt8} (h : 0 < p.length) : absB p = ((p[0].toNat : Int) == 47) := by
  cases p with
  | nil => simp at h
  | cons c r =>
    rw [Bool.eq_iff_iff]
    simp [absB]
    constructor
    · rintro rfl; rfl
    · intro e; exact UInt8.toNat_inj.1 (by simp; omega)
theorem endB_at {p : List UInt8} (h : 0 < p.length) : endB p = ((p[p.length - 1].toNat : Int) == 47) := by
  unfold endB
  rw [List.getLast?_eq_getElem?, List.getElem?_eq_getElem (by omega), Bool.eq_iff_iff]
  simp
  constructor
  · intro e; rw [e]; rfl
  · intro e; exact UInt8.toNat_inj.1 (by simp; omega)

theorem read_close {w w1 : World} {t : TypeId} {a s : Bool} {v : Value} {ns : List (List UInt8)} (hb : Blk w1 w.heap.size t (pathR false (.slice none 0 0) false)) (hB : Below w.heap.size w w1) (hs : Strs w1 v ns) :
    ∃ W, W = ((((w1.setCell ⟨w.heap.size, 0, none⟩ (.bool a)).setCell ⟨w.heap.size, 1, none⟩ v).setCell ⟨w.heap.size, 2, none⟩ (.bool s)).alloc (.cells (pathR a v s) t)) ∧
      Blk W w.heap.size t (pathR a v s) ∧ Strs W v ns ∧ Below w.heap.size w W := by
  refine ⟨_, rfl, ?_, ?_, ?_⟩
  · simpa [pathR] using (((hb.set 0 (.bool a)).set 1 v).set 2 (.bool s)).alloc (.cells (pathR a v s) t)
  · obtain ⟨ad, cap, rfl, hm, h1⟩ := hs
    refine ⟨ad, cap, rfl, hm, fun hl => ?_⟩
    obtain ⟨b, off, rfl, hlt, hc⟩ := h1 hl
    have hne : b ≠ w.heap.size := by
      rintro rfl
      have := hc 0 hl
      rw [hb.cell] at this
      rcases Nat.lt_or_ge (off + 0) 3 with h | h
      · have : off + 0 = 0 ∨ off + 0 = 1 ∨ off + 0 = 2 := by omega
        rcases this with e | e | e <;> simp_all [pathR]
      · have hn3 : (pathR false (.slice none 0 0) false)[off + 0]? = none := Array.getElem?_eq_none h
        rw [hn3] at this; cases this
    refine ⟨b, off, rfl, by simp [World.setCell]; omega, fun i hi => ?_⟩
    have hbl : ((((w1.setCell ⟨w.heap.size, 0, none⟩ (.bool a)).setCell ⟨w.heap.size, 1, none⟩ (.slice (some ⟨b, off, none⟩) ns.length cap)).setCell ⟨w.heap.size, 2, none⟩ (.bool s)).alloc (.cells (pathR a (.slice (some ⟨b, off, none⟩) ns.length cap) s) t)).heap[b]? = w1.heap[b]? := by
      rw [Below.heap_alloc _ _ _ (by simp [World.setCell]; omega), Below.heap_setCell _ _ _ b (fun e => hne e), Below.heap_setCell _ _ _ b (fun e => hne e), Below.heap_setCell _ _ _ b (fun e => hne e)]
    rw [World.cell?_of_block (a := ⟨b, off + i, none⟩) hbl]
    exact hc i hi
  · have hn := Nat.le_refl w.heap.size
    have h3 := ((hB.setCell (p := ⟨w.heap.size, 0, none⟩) hn (.bool a)).setCell (p := ⟨w.heap.size, 1, none⟩) hn v).setCell (p := ⟨w.heap.size, 2, none⟩) hn (.bool s)
    exact h3.alloc h3.size _

end Go.Proofs.YtolbhjjcabiabaaGreatDoor

/- Walks: the document's place, target, Slotted. -/
set_option linter.unusedVariables false
set_option linter.unusedSimpArgs false
namespace Go.Proofs.YtolbhjjcabiabaaGreatDoor
open Go.RowKit

theorem refplace_any (p : List UInt8) (w : World) (hp : p.length ≤ 100000) :
    Calls Tryz.prog 28 #[.string ⟨p.toArray⟩] w fun e w' => e = .returned (.bool (placeB p)) ∧ Below w.heap.size w w' := by
  go_enter Tryz.func28, Tryz.ntmps28
  go_wp2_with fail
  refine (refPlain_any p _ hp).mono ?_
  rintro e w1 ⟨v, rfl, hs, b1⟩
  obtain ⟨a, ca, rfl, _, _⟩ := hs
  cases hb : (plainB p).isSome
  · have HN : Hid (placeB p = false) := by show _ = _; unfold placeB; rw [hb]; rfl
    go_wp2
    go_ret
    exact ⟨ret_bool (by rw [HN.out]), b1⟩
  · by_cases hl : 0 < ((plainB p).getD []).length
    · have HN : Hid (placeB p = true) := by show _ = _; unfold placeB; rw [hb, decide_eq_true hl]; rfl
      go_wp2
      go_ret
      exact ⟨ret_bool (by rw [HN.out]), b1⟩
    · have HN : Hid (placeB p = false) := by show _ = _; unfold placeB; rw [hb, decide_eq_false hl]; rfl
      go_wp2
      go_ret
      exact ⟨ret_bool (by rw [HN.out]), b1⟩

theorem target_no {s : List UInt8} {k : Nat} (h : k < s.length) (e : s[k] = 0) : targetB s = false := by
  unfold targetB
  have : s.all (fun c => !(c == 0)) = false := by
    rw [Bool.eq_false_iff]
    intro hc
    have := List.all_eq_true.1 hc s[k] (List.getElem_mem h)
    rw [e] at this
    exact absurd this (by decide)
  rw [this]; rfl
theorem target_yes {s : List UInt8} (h : ∀ j (hj : j < s.length), j < s.length → s[j] ≠ 0) : targetB s = (decide (1 ≤ s.length) && decide (s.length ≤ 4095)) := by
  unfold targetB
  have : s.all (fun c => !(c == 0)) = true := by
    rw [List.all_eq_true]
    intro c hc
    obtain ⟨j, hj, rfl⟩ := List.getElem_of_mem hc
    simpa using h j hj hj
  rw [this]; rfl
theorem reftarget_any (s : List UInt8) (w : World) (hl : s.length ≤ 1000000) :
    Calls Tryz.prog 29 #[.string ⟨s.toArray⟩] w fun e w' => e = .returned (.bool (targetB s)) ∧ w = w' := by
  go_enter Tryz.func29, Tryz.ntmps29
  go_wp2
  go_loop [3] (fun i => ∃ k : Nat, k ≤ s.length ∧ i = .int .i64 k ∧ Aside (∀ j (hj : j < s.length), j < k → s[j] ≠ 0)) (fun i => s.length - (intOf i).toNat)
  case atStart => exact ⟨0, Nat.zero_le _, rfl, fun j _ h2 => absurd h2 (by omega)⟩
  case round =>
    obtain ⟨k, hk, rfl, HT⟩ := hrel
    by_cases hlt : k < s.length
    · by_cases he : s[k] = 0
      · have hb : ((s[k].toNat : Int) == 0) = true := by rw [he]; rfl
        have HN := Lib.hid (target_no hlt he)
        clear he
        go_wp2
        go_ret
        exact ⟨ret_bool (by rw [HN.out]), rfl⟩
      · have hb : ((s[k].toNat : Int) == 0) = false := by
          rw [beq_eq_false_iff_ne]
          intro e
          exact he (UInt8.toNat_inj.1 (by simpa using e))
        have HT2 : Hid (∀ j (hj : j < s.length), j < k + 1 → s[j] ≠ 0) := fun j hj h => by
          rcases Nat.lt_or_ge j k with h' | h'
          · exact HT.out j hj h'
          · obtain rfl : j = k := by omega
            exact he
        clear he
        go_wp2
        go_round
        case rel => exact ⟨k + 1, by omega, by go_num, HT2.out⟩
        case measure => simp [intOf]; omega
    · obtain rfl : k = s.length := by omega
      have HN := Lib.hid (target_yes HT.out)
      clear hlt
      by_cases h1 : 1 ≤ s.length
      · have h1' := Lib.hid (decide_eq_true h1)
        go_wp2
        go_ret
        exact ⟨ret_bool (by rw [HN.out, h1'.out, Bool.true_and]; exact decide_eq_decide.2 (by omega)), rfl⟩
      · have h1' := Lib.hid (decide_eq_false h1)
        go_wp2
        go_ret
        exact ⟨ret_bool (by rw [HN.out, h1'.out]; rfl), rfl⟩

theorem slot_cases (k : Int) : (slotK k = true ∧ (k = 3 ∨ k = 7 ∨ k = 9 ∨ k = 10)) ∨ (slotK k = false ∧ k ≠ 3 ∧ k ≠ 7 ∧ k ≠ 9 ∧ k ≠ 10) := by
  unfold slotK
  by_cases h3 : k = 3
  · subst h3; exact Or.inl ⟨rfl, Or.inl rfl⟩
  by_cases h7 : k = 7
  · subst h7; exact Or.inl ⟨rfl, Or.inr (Or.inl rfl)⟩
  by_cases h9 : k = 9
  · subst h9; exact Or.inl ⟨rfl, Or.inr (Or.inr (Or.inl rfl))⟩
  by_cases h10 : k = 10
  · subst h10; exact Or.inl ⟨rfl, Or.inr (Or.inr (Or.inr rfl))⟩
  exact Or.inr ⟨by simp [h3, h7, h9, h10], h3, h7, h9, h10⟩
theorem refSlotted_any (k : Int) (w : World) :
    Calls Tryz.prog 26 #[.int .i64 k] w fun e w' => e = .returned (.bool (slotK k)) ∧ w = w' := by
  rcases slot_cases k with ⟨hs, h⟩ | ⟨hs, h3, h7, h9, h10⟩
  · rcases h with rfl | rfl | rfl | rfl
    all_goals clear hs
    all_goals go_enter Tryz.func26, Tryz.ntmps26
    all_goals go_wp2
    all_goals go_ret
    all_goals exact ⟨rfl, rfl⟩
  · have e3 : (k == 3) = false := by simpa using h3
    have e7 : (k == 7) = false := by simpa using h7
    have e9 : (k == 9) = false := by simpa using h9
    have e10 : (k == 10) = false := by simpa using h10
    clear h3 h7 h9 h10
    go_enter Tryz.func26, Tryz.ntmps26
    go_wp2
    go_ret
    exact ⟨ret_bool hs.symm, rfl⟩
end Go.Proofs.YtolbhjjcabiabaaGreatDoor

/- Walks: the document's May. -/
set_option linter.unusedVariables false
set_option linter.unusedSimpArgs false
namespace Go.Proofs.YtolbhjjcabiabaaGreatDoor
open Go.RowKit

theorem refUnderN_any (p q : List UInt8) (w : World) (hp : p.length ≤ 100000) (hq : q.length ≤ 100000) :
    Calls Tryz.prog 30 #[.string ⟨p.toArray⟩, .string ⟨q.toArray⟩] w fun e w' => e = .returned (.bool (underN p q)) ∧ Below w.heap.size w w' := by
  unfold underN
  exact refLies_any p q w (by omega) (by omega)
set_option maxHeartbeats 4000000 in
set_option maxRecDepth 100000 in
theorem refMay1_any (n : Int) (A B D : List UInt8) (w : World) (ha : A.length ≤ 100000) (hb : B.length ≤ 100000) (hd : D.length ≤ 100000) :
    Calls Tryz.prog 12 #[.agg (opC ⟨1, n, A, B, D⟩)] w fun e w' => e = .returned (.bool (mayO ⟨1, n, A, B, D⟩)) ∧ Below w.heap.size w w' := by
  have hM : mayO ⟨1, n, A, B, D⟩ = (placeB A && ((n == 0) && ((B == []) && ((D == []) && true)))) := by simp [mayO, slotK, pairK]
  have HM := Lib.hid hM
  clear hM
  have bO := Blk.new w 23 (opC ⟨1, n, A, B, D⟩)
  have hB : Below w.heap.size w (w.alloc (.cells (opC ⟨1, n, A, B, D⟩) 23)) := (Below.refl _ w).alloc (Nat.le_refl _) _
  obtain ⟨p0, p1, p2, p3, p4⟩ := bO.five
  dsimp only at p0 p1 p2 p3 p4
  go_enter Tryz.func12, Tryz.ntmps12
  go_wp2_with fail
  refine (refplace_any A _ ha).mono ?_
  rintro e w1 ⟨rfl, b1⟩
  replace bO := bO.next b1
  replace hB := hB.trans (b1.mono hB.size)
  clear b1 p0 p1 p2 p3 p4
  obtain ⟨p0, p1, p2, p3, p4⟩ := bO.five
  dsimp only at p0 p1 p2 p3 p4
  cases hA : placeB A
  · (have HN : Hid (mayO ⟨1, n, A, B, D⟩ = false) := (by (show _ = _; rw [HM.out]; simp only [hA]; simp)); go_wp2; go_ret; exact ⟨ret_bool (by rw [HN.out]), hB⟩)
  go_wp2_with fail
  refine (refSlotted_any 1 _).mono ?_
  rintro e w2 ⟨rfl, rfl⟩
  rw [show slotK 1 = false from by decide]
  cases hs : (n == 0)
  · (have HN : Hid (mayO ⟨1, n, A, B, D⟩ = false) := (by (show _ = _; rw [HM.out]; simp only [hA, hs]; simp)); go_wp2; go_ret; exact ⟨ret_bool (by rw [HN.out]), hB⟩)
  have HS := Lib.hid hs
  cases hP : (B == [])
  · have hPe : B.isEmpty = false := by simpa using hP
    (have HN : Hid (mayO ⟨1, n, A, B, D⟩ = false) := (by (show _ = _; rw [HM.out]; simp only [hA, HS.out, hP]; simp)); go_wp2; go_ret; exact ⟨ret_bool (by rw [HN.out]), hB⟩)
  have hPe : B.isEmpty = true := by simpa using hP
  cases hT : (D == [])
  · have hTe : D.isEmpty = false := by simpa using hT
    (have HN : Hid (mayO ⟨1, n, A, B, D⟩ = false) := (by (show _ = _; rw [HM.out]; simp only [hA, HS.out, hP, hT]; simp)); go_wp2; go_ret; exact ⟨ret_bool (by rw [HN.out]), hB⟩)
  have hTe : D.isEmpty = true := by simpa using hT
  have HN : Hid (mayO ⟨1, n, A, B, D⟩ = true) := by show _ = _; rw [HM.out]; simp only [hA, HS.out, hP, hT]; rfl
  go_wp2
  go_ret
  exact ⟨ret_bool (by rw [HN.out]), hB⟩
set_option maxHeartbeats 4000000 in
set_option maxRecDepth 100000 in
theorem refMay2_any (n : Int) (A B D : List UInt8) (w : World) (ha : A.length ≤ 100000) (hb : B.length ≤ 100000) (hd : D.length ≤ 100000) :
    Calls Tryz.prog 12 #[.agg (opC ⟨2, n, A, B, D⟩)] w fun e w' => e = .returned (.bool (mayO ⟨2, n, A, B, D⟩)) ∧ Below w.heap.size w w' := by
  have hM : mayO ⟨2, n, A, B, D⟩ = (placeB A && ((n == 0) && (placeB B && ((D == []) && true)))) := by simp [mayO, slotK, pairK]
  have HM := Lib.hid hM
  clear hM
  have bO := Blk.new w 23 (opC ⟨2, n, A, B, D⟩)
  have hB : Below w.heap.size w (w.alloc (.cells (opC ⟨2, n, A, B, D⟩) 23)) := (Below.refl _ w).alloc (Nat.le_refl _) _
  obtain ⟨p0, p1, p2, p3, p4⟩ := bO.five
  dsimp only at p0 p1 p2 p3 p4
  go_enter Tryz.func12, Tryz.ntmps12
  go_wp2_with fail
  refine (refplace_any A _ ha).mono ?_
  rintro e w1 ⟨rfl, b1⟩
  replace bO := bO.next b1
  replace hB := hB.trans (b1.mono hB.size)
  clear b1 p0 p1 p2 p3 p4
  obtain ⟨p0, p1, p2, p3, p4⟩ := bO.five
  dsimp only at p0 p1 p2 p3 p4
  cases hA : placeB A
  · (have HN : Hid (mayO ⟨2, n, A, B, D⟩ = false) := (by (show _ = _; rw [HM.out]; simp only [hA]; simp)); go_wp2; go_ret; exact ⟨ret_bool (by rw [HN.out]), hB⟩)
  go_wp2_with fail
  refine (refSlotted_any 2 _).mono ?_
  rintro e w2 ⟨rfl, rfl⟩
  rw [show slotK 2 = false from by decide]
  cases hs : (n == 0)
  · (have HN : Hid (mayO ⟨2, n, A, B, D⟩ = false) := (by (show _ = _; rw [HM.out]; simp only [hA, hs]; simp)); go_wp2; go_ret; exact ⟨ret_bool (by rw [HN.out]), hB⟩)
  have HS := Lib.hid hs
  go_wp2_with fail
  refine (refplace_any B _ hb).mono ?_
  rintro e w3 ⟨rfl, b3⟩
  replace bO := bO.next b3
  replace hB := hB.trans (b3.mono hB.size)
  clear b3 p0 p1 p2 p3 p4
  obtain ⟨p0, p1, p2, p3, p4⟩ := bO.five
  dsimp only at p0 p1 p2 p3 p4
  cases hP : placeB B
  · (have HN : Hid (mayO ⟨2, n, A, B, D⟩ = false) := (by (show _ = _; rw [HM.out]; simp only [hA, HS.out, hP]; simp)); go_wp2; go_ret; exact ⟨ret_bool (by rw [HN.out]), hB⟩)
  cases hT : (D == [])
  · have hTe : D.isEmpty = false := by simpa using hT
    (have HN : Hid (mayO ⟨2, n, A, B, D⟩ = false) := (by (show _ = _; rw [HM.out]; simp only [hA, HS.out, hP, hT]; simp)); go_wp2; go_ret; exact ⟨ret_bool (by rw [HN.out]), hB⟩)
  have hTe : D.isEmpty = true := by simpa using hT
  have HN : Hid (mayO ⟨2, n, A, B, D⟩ = true) := by show _ = _; rw [HM.out]; simp only [hA, HS.out, hP, hT]; rfl
  go_wp2
  go_ret
  exact ⟨ret_bool (by rw [HN.out]), hB⟩
set_option maxHeartbeats 4000000 in
set_option maxRecDepth 100000 in
theorem refMay3_any (n : Int) (A B D : List UInt8) (w : World) (ha : A.length ≤ 100000) (hb : B.length ≤ 100000) (hd : D.length ≤ 100000) :
    Calls Tryz.prog 12 #[.agg (opC ⟨3, n, A, B, D⟩)] w fun e w' => e = .returned (.bool (mayO ⟨3, n, A, B, D⟩)) ∧ Below w.heap.size w w' := by
  have hM : mayO ⟨3, n, A, B, D⟩ = (placeB A && (decide (1 ≤ n ∧ n ≤ 1073741824) && (placeB B && ((D == []) && true)))) := by simp [mayO, slotK, pairK]
  have HM := Lib.hid hM
  clear hM
  have bO := Blk.new w 23 (opC ⟨3, n, A, B, D⟩)
  have hB : Below w.heap.size w (w.alloc (.cells (opC ⟨3, n, A, B, D⟩) 23)) := (Below.refl _ w).alloc (Nat.le_refl _) _
  obtain ⟨p0, p1, p2, p3, p4⟩ := bO.five
  dsimp only at p0 p1 p2 p3 p4
  go_enter Tryz.func12, Tryz.ntmps12
  go_wp2_with fail
  refine (refplace_any A _ ha).mono ?_
  rintro e w1 ⟨rfl, b1⟩
  replace bO := bO.next b1
  replace hB := hB.trans (b1.mono hB.size)
  clear b1 p0 p1 p2 p3 p4
  obtain ⟨p0, p1, p2, p3, p4⟩ := bO.five
  dsimp only at p0 p1 p2 p3 p4
  cases hA : placeB A
  · (have HN : Hid (mayO ⟨3, n, A, B, D⟩ = false) := (by (show _ = _; rw [HM.out]; simp only [hA]; simp)); go_wp2; go_ret; exact ⟨ret_bool (by rw [HN.out]), hB⟩)
  go_wp2_with fail
  refine (refSlotted_any 3 _).mono ?_
  rintro e w2 ⟨rfl, rfl⟩
  rw [show slotK 3 = true from by decide]
  by_cases hs1 : 1 ≤ n
  rotate_left
  · have hs := decide_eq_false (show ¬ (1 ≤ n ∧ n ≤ 1073741824) by omega)
    (have HN : Hid (mayO ⟨3, n, A, B, D⟩ = false) := (by (show _ = _; rw [HM.out]; simp only [hA, hs]; simp)); go_wp2; go_ret; exact ⟨ret_bool (by rw [HN.out]), hB⟩)
  by_cases hs2 : n ≤ 1073741824
  rotate_left
  · have hs := decide_eq_false (show ¬ (1 ≤ n ∧ n ≤ 1073741824) by omega)
    (have HN : Hid (mayO ⟨3, n, A, B, D⟩ = false) := (by (show _ = _; rw [HM.out]; simp only [hA, hs]; simp)); go_wp2; go_ret; exact ⟨ret_bool (by rw [HN.out]), hB⟩)
  have hs := decide_eq_true (show 1 ≤ n ∧ n ≤ 1073741824 by omega)
  have HS := Lib.hid hs
  clear hs
  go_wp2_with fail
  refine (refplace_any B _ hb).mono ?_
  rintro e w3 ⟨rfl, b3⟩
  replace bO := bO.next b3
  replace hB := hB.trans (b3.mono hB.size)
  clear b3 p0 p1 p2 p3 p4
  obtain ⟨p0, p1, p2, p3, p4⟩ := bO.five
  dsimp only at p0 p1 p2 p3 p4
  cases hP : placeB B
  · (have HN : Hid (mayO ⟨3, n, A, B, D⟩ = false) := (by (show _ = _; rw [HM.out]; simp only [hA, HS.out, hP]; simp)); go_wp2; go_ret; exact ⟨ret_bool (by rw [HN.out]), hB⟩)
  cases hT : (D == [])
  · have hTe : D.isEmpty = false := by simpa using hT
    (have HN : Hid (mayO ⟨3, n, A, B, D⟩ = false) := (by (show _ = _; rw [HM.out]; simp only [hA, HS.out, hP, hT]; simp)); go_wp2; go_ret; exact ⟨ret_bool (by rw [HN.out]), hB⟩)
  have hTe : D.isEmpty = true := by simpa using hT
  have HN : Hid (mayO ⟨3, n, A, B, D⟩ = true) := by show _ = _; rw [HM.out]; simp only [hA, HS.out, hP, hT]; rfl
  go_wp2
  go_ret
  exact ⟨ret_bool (by rw [HN.out]), hB⟩
set_option maxHeartbeats 4000000 in
set_option maxRecDepth 100000 in
theorem refMay4_any (n : Int) (A B D : List UInt8) (w : World) (ha : A.length ≤ 100000) (hb : B.length ≤ 100000) (hd : D.length ≤ 100000) :
    Calls Tryz.prog 12 #[.agg (opC ⟨4, n, A, B, D⟩)] w fun e w' => e = .returned (.bool (mayO ⟨4, n, A, B, D⟩)) ∧ Below w.heap.size w w' := by
  have hM : mayO ⟨4, n, A, B, D⟩ = (placeB A && ((n == 0) && ((B == []) && (targetB D && true)))) := by simp [mayO, slotK, pairK]
  have HM := Lib.hid hM
  clear hM
  have bO := Blk.new w 23 (opC ⟨4, n, A, B, D⟩)
  have hB : Below w.heap.size w (w.alloc (.cells (opC ⟨4, n, A, B, D⟩) 23)) := (Below.refl _ w).alloc (Nat.le_refl _) _
  obtain ⟨p0, p1, p2, p3, p4⟩ := bO.five
  dsimp only at p0 p1 p2 p3 p4
  go_enter Tryz.func12, Tryz.ntmps12
  go_wp2_with fail
  refine (refplace_any A _ ha).mono ?_
  rintro e w1 ⟨rfl, b1⟩
  replace bO := bO.next b1
  replace hB := hB.trans (b1.mono hB.size)
  clear b1 p0 p1 p2 p3 p4
  obtain ⟨p0, p1, p2, p3, p4⟩ := bO.five
  dsimp only at p0 p1 p2 p3 p4
  cases hA : placeB A
  · (have HN : Hid (mayO ⟨4, n, A, B, D⟩ = false) := (by (show _ = _; rw [HM.out]; simp only [hA]; simp)); go_wp2; go_ret; exact ⟨ret_bool (by rw [HN.out]), hB⟩)
  go_wp2_with fail
  refine (refSlotted_any 4 _).mono ?_
  rintro e w2 ⟨rfl, rfl⟩
  rw [show slotK 4 = false from by decide]
  cases hs : (n == 0)
  · (have HN : Hid (mayO ⟨4, n, A, B, D⟩ = false) := (by (show _ = _; rw [HM.out]; simp only [hA, hs]; simp)); go_wp2; go_ret; exact ⟨ret_bool (by rw [HN.out]), hB⟩)
  have HS := Lib.hid hs
  cases hP : (B == [])
  · have hPe : B.isEmpty = false := by simpa using hP
    (have HN : Hid (mayO ⟨4, n, A, B, D⟩ = false) := (by (show _ = _; rw [HM.out]; simp only [hA, HS.out, hP]; simp)); go_wp2; go_ret; exact ⟨ret_bool (by rw [HN.out]), hB⟩)
  have hPe : B.isEmpty = true := by simpa using hP
  go_wp2_with fail
  refine (reftarget_any D _ (by omega)).mono ?_
  rintro e w4 ⟨rfl, rfl⟩
  cases hT : targetB D
  · (have HN : Hid (mayO ⟨4, n, A, B, D⟩ = false) := (by (show _ = _; rw [HM.out]; simp only [hA, HS.out, hP, hT]; simp)); go_wp2; go_ret; exact ⟨ret_bool (by rw [HN.out]), hB⟩)
  have HN : Hid (mayO ⟨4, n, A, B, D⟩ = true) := by show _ = _; rw [HM.out]; simp only [hA, HS.out, hP, hT]; rfl
  go_wp2
  go_ret
  exact ⟨ret_bool (by rw [HN.out]), hB⟩
set_option maxHeartbeats 4000000 in
set_option maxRecDepth 100000 in
theorem refMay5_any (n : Int) (A B D : List UInt8) (w : World) (ha : A.length ≤ 100000) (hb : B.length ≤ 100000) (hd : D.length ≤ 100000) :
    Calls Tryz.prog 12 #[.agg (opC ⟨5, n, A, B, D⟩)] w fun e w' => e = .returned (.bool (mayO ⟨5, n, A, B, D⟩)) ∧ Below w.heap.size w w' := by
  have hM : mayO ⟨5, n, A, B, D⟩ = (placeB A && ((n == 0) && (placeB B && ((D == []) && true)))) := by simp [mayO, slotK, pairK]
  have HM := Lib.hid hM
  clear hM
  have bO := Blk.new w 23 (opC ⟨5, n, A, B, D⟩)
  have hB : Below w.heap.size w (w.alloc (.cells (opC ⟨5, n, A, B, D⟩) 23)) := (Below.refl _ w).alloc (Nat.le_refl _) _
  obtain ⟨p0, p1, p2, p3, p4⟩ := bO.five
  dsimp only at p0 p1 p2 p3 p4
  go_enter Tryz.func12, Tryz.ntmps12
  go_wp2_with fail
  refine (refplace_any A _ ha).mono ?_
  rintro e w1 ⟨rfl, b1⟩
  replace bO := bO.next b1
  replace hB := hB.trans (b1.mono hB.size)
  clear b1 p0 p1 p2 p3 p4
  obtain ⟨p0, p1, p2, p3, p4⟩ := bO.five
  dsimp only at p0 p1 p2 p3 p4
  cases hA : placeB A
  · (have HN : Hid (mayO ⟨5, n, A, B, D⟩ = false) := (by (show _ = _; rw [HM.out]; simp only [hA]; simp)); go_wp2; go_ret; exact ⟨ret_bool (by rw [HN.out]), hB⟩)
  go_wp2_with fail
  refine (refSlotted_any 5 _).mono ?_
  rintro e w2 ⟨rfl, rfl⟩
  rw [show slotK 5 = false from by decide]
  cases hs : (n == 0)
  · (have HN : Hid (mayO ⟨5, n, A, B, D⟩ = false) := (by (show _ = _; rw [HM.out]; simp only [hA, hs]; simp)); go_wp2; go_ret; exact ⟨ret_bool (by rw [HN.out]), hB⟩)
  have HS := Lib.hid hs
  go_wp2_with fail
  refine (refplace_any B _ hb).mono ?_
  rintro e w3 ⟨rfl, b3⟩
  replace bO := bO.next b3
  replace hB := hB.trans (b3.mono hB.size)
  clear b3 p0 p1 p2 p3 p4
  obtain ⟨p0, p1, p2, p3, p4⟩ := bO.five
  dsimp only at p0 p1 p2 p3 p4
  cases hP : placeB B
  · (have HN : Hid (mayO ⟨5, n, A, B, D⟩ = false) := (by (show _ = _; rw [HM.out]; simp only [hA, HS.out, hP]; simp)); go_wp2; go_ret; exact ⟨ret_bool (by rw [HN.out]), hB⟩)
  cases hT : (D == [])
  · have hTe : D.isEmpty = false := by simpa using hT
    (have HN : Hid (mayO ⟨5, n, A, B, D⟩ = false) := (by (show _ = _; rw [HM.out]; simp only [hA, HS.out, hP, hT]; simp)); go_wp2; go_ret; exact ⟨ret_bool (by rw [HN.out]), hB⟩)
  have hTe : D.isEmpty = true := by simpa using hT
  have HN : Hid (mayO ⟨5, n, A, B, D⟩ = true) := by show _ = _; rw [HM.out]; simp only [hA, HS.out, hP, hT]; rfl
  go_wp2
  go_ret
  exact ⟨ret_bool (by rw [HN.out]), hB⟩
set_option maxHeartbeats 4000000 in
set_option maxRecDepth 100000 in
theorem refMay6_any (n : Int) (A B D : List UInt8) (w : World) (ha : A.length ≤ 100000) (hb : B.length ≤ 100000) (hd : D.length ≤ 100000) :
    Calls Tryz.prog 12 #[.agg (opC ⟨6, n, A, B, D⟩)] w fun e w' => e = .returned (.bool (mayO ⟨6, n, A, B, D⟩)) ∧ Below w.heap.size w w' := by
  have hM : mayO ⟨6, n, A, B, D⟩ = (placeB A && ((n == 0) && (placeB B && ((D == []) && (!underN A B && !underN B A))))) := by simp [mayO, slotK, pairK]
  have HM := Lib.hid hM
  clear hM
  have bO := Blk.new w 23 (opC ⟨6, n, A, B, D⟩)
  have hB : Below w.heap.size w (w.alloc (.cells (opC ⟨6, n, A, B, D⟩) 23)) := (Below.refl _ w).alloc (Nat.le_refl _) _
  obtain ⟨p0, p1, p2, p3, p4⟩ := bO.five
  dsimp only at p0 p1 p2 p3 p4
  go_enter Tryz.func12, Tryz.ntmps12
  go_wp2_with fail
  refine (refplace_any A _ ha).mono ?_
  rintro e w1 ⟨rfl, b1⟩
  replace bO := bO.next b1
  replace hB := hB.trans (b1.mono hB.size)
  clear b1 p0 p1 p2 p3 p4
  obtain ⟨p0, p1, p2, p3, p4⟩ := bO.five
  dsimp only at p0 p1 p2 p3 p4
  cases hA : placeB A
  · (have HN : Hid (mayO ⟨6, n, A, B, D⟩ = false) := (by (show _ = _; rw [HM.out]; simp only [hA]; simp)); go_wp2; go_ret; exact ⟨ret_bool (by rw [HN.out]), hB⟩)
  go_wp2_with fail
  refine (refSlotted_any 6 _).mono ?_
  rintro e w2 ⟨rfl, rfl⟩
  rw [show slotK 6 = false from by decide]
  cases hs : (n == 0)
  · (have HN : Hid (mayO ⟨6, n, A, B, D⟩ = false) := (by (show _ = _; rw [HM.out]; simp only [hA, hs]; simp)); go_wp2; go_ret; exact ⟨ret_bool (by rw [HN.out]), hB⟩)
  have HS := Lib.hid hs
  go_wp2_with fail
  refine (refplace_any B _ hb).mono ?_
  rintro e w3 ⟨rfl, b3⟩
  replace bO := bO.next b3
  replace hB := hB.trans (b3.mono hB.size)
  clear b3 p0 p1 p2 p3 p4
  obtain ⟨p0, p1, p2, p3, p4⟩ := bO.five
  dsimp only at p0 p1 p2 p3 p4
  cases hP : placeB B
  · (have HN : Hid (mayO ⟨6, n, A, B, D⟩ = false) := (by (show _ = _; rw [HM.out]; simp only [hA, HS.out, hP]; simp)); go_wp2; go_ret; exact ⟨ret_bool (by rw [HN.out]), hB⟩)
  cases hT : (D == [])
  · have hTe : D.isEmpty = false := by simpa using hT
    (have HN : Hid (mayO ⟨6, n, A, B, D⟩ = false) := (by (show _ = _; rw [HM.out]; simp only [hA, HS.out, hP, hT]; simp)); go_wp2; go_ret; exact ⟨ret_bool (by rw [HN.out]), hB⟩)
  have hTe : D.isEmpty = true := by simpa using hT
  go_wp2_with fail
  refine (refUnderN_any A B _ ha hb).mono ?_
  rintro e w5 ⟨rfl, b5⟩
  replace bO := bO.next b5
  replace hB := hB.trans (b5.mono hB.size)
  clear b5 p0 p1 p2 p3 p4
  obtain ⟨p0, p1, p2, p3, p4⟩ := bO.five
  dsimp only at p0 p1 p2 p3 p4
  cases hU : underN A B
  rotate_left
  · (have HN : Hid (mayO ⟨6, n, A, B, D⟩ = false) := (by (show _ = _; rw [HM.out]; simp only [hA, HS.out, hP, hT, hU]; simp)); go_wp2; go_ret; exact ⟨ret_bool (by rw [HN.out]), hB⟩)
  go_wp2_with fail
  refine (refUnderN_any B A _ hb ha).mono ?_
  rintro e w6 ⟨rfl, b6⟩
  replace hB := hB.trans (b6.mono hB.size)
  cases hV : underN B A
  · have HN : Hid (mayO ⟨6, n, A, B, D⟩ = true) := by show _ = _; rw [HM.out]; simp only [hA, HS.out, hP, hT, hU, hV]; rfl
    go_wp2
    go_ret
    exact ⟨ret_bool (by rw [HN.out]), hB⟩
  · (have HN : Hid (mayO ⟨6, n, A, B, D⟩ = false) := (by (show _ = _; rw [HM.out]; simp only [hA, HS.out, hP, hT, hU, hV]; simp)); go_wp2; go_ret; exact ⟨ret_bool (by rw [HN.out]), hB⟩)
set_option maxHeartbeats 4000000 in
set_option maxRecDepth 100000 in
theorem refMay7_any (n : Int) (A B D : List UInt8) (w : World) (ha : A.length ≤ 100000) (hb : B.length ≤ 100000) (hd : D.length ≤ 100000) :
    Calls Tryz.prog 12 #[.agg (opC ⟨7, n, A, B, D⟩)] w fun e w' => e = .returned (.bool (mayO ⟨7, n, A, B, D⟩)) ∧ Below w.heap.size w w' := by
  have hM : mayO ⟨7, n, A, B, D⟩ = (placeB A && (decide (1 ≤ n ∧ n ≤ 1073741824) && ((B == []) && ((D == []) && true)))) := by simp [mayO, slotK, pairK]
  have HM := Lib.hid hM
  clear hM
  have bO := Blk.new w 23 (opC ⟨7, n, A, B, D⟩)
  have hB : Below w.heap.size w (w.alloc (.cells (opC ⟨7, n, A, B, D⟩) 23)) := (Below.refl _ w).alloc (Nat.le_refl _) _
  obtain ⟨p0, p1, p2, p3, p4⟩ := bO.five
  dsimp only at p0 p1 p2 p3 p4
  go_enter Tryz.func12, Tryz.ntmps12
  go_wp2_with fail
  refine (refplace_any A _ ha).mono ?_
  rintro e w1 ⟨rfl, b1⟩
  replace bO := bO.next b1
  replace hB := hB.trans (b1.mono hB.size)
  clear b1 p0 p1 p2 p3 p4
  obtain ⟨p0, p1, p2, p3, p4⟩ := bO.five
  dsimp only at p0 p1 p2 p3 p4
  cases hA : placeB A
  · (have HN : Hid (mayO ⟨7, n, A, B, D⟩ = false) := (by (show _ = _; rw [HM.out]; simp only [hA]; simp)); go_wp2; go_ret; exact ⟨ret_bool (by rw [HN.out]), hB⟩)
  go_wp2_with fail
  refine (refSlotted_any 7 _).mono ?_
  rintro e w2 ⟨rfl, rfl⟩
  rw [show slotK 7 = true from by decide]
  by_cases hs1 : 1 ≤ n
  rotate_left
  · have hs := decide_eq_false (show ¬ (1 ≤ n ∧ n ≤ 1073741824) by omega)
    (have HN : Hid (mayO ⟨7, n, A, B, D⟩ = false) := (by (show _ = _; rw [HM.out]; simp only [hA, hs]; simp)); go_wp2; go_ret; exact ⟨ret_bool (by rw [HN.out]), hB⟩)
  by_cases hs2 : n ≤ 1073741824
  rotate_left
  · have hs := decide_eq_false (show ¬ (1 ≤ n ∧ n ≤ 1073741824) by omega)
    (have HN : Hid (mayO ⟨7, n, A, B, D⟩ = false) := (by (show _ = _; rw [HM.out]; simp only [hA, hs]; simp)); go_wp2; go_ret; exact ⟨ret_bool (by rw [HN.out]), hB⟩)
  have hs := decide_eq_true (show 1 ≤ n ∧ n ≤ 1073741824 by omega)
  have HS := Lib.hid hs
  clear hs
  cases hP : (B == [])
  · have hPe : B.isEmpty = false := by simpa using hP
    (have HN : Hid (mayO ⟨7, n, A, B, D⟩ = false) := (by (show _ = _; rw [HM.out]; simp only [hA, HS.out, hP]; simp)); go_wp2; go_ret; exact ⟨ret_bool (by rw [HN.out]), hB⟩)
  have hPe : B.isEmpty = true := by simpa using hP
  cases hT : (D == [])
  · have hTe : D.isEmpty = false := by simpa using hT
    (have HN : Hid (mayO ⟨7, n, A, B, D⟩ = false) := (by (show _ = _; rw [HM.out]; simp only [hA, HS.out, hP, hT]; simp)); go_wp2; go_ret; exact ⟨ret_bool (by rw [HN.out]), hB⟩)
  have hTe : D.isEmpty = true := by simpa using hT
  have HN : Hid (mayO ⟨7, n, A, B, D⟩ = true) := by show _ = _; rw [HM.out]; simp only [hA, HS.out, hP, hT]; rfl
  go_wp2
  go_ret
  exact ⟨ret_bool (by rw [HN.out]), hB⟩
set_option maxHeartbeats 4000000 in
set_option maxRecDepth 100000 in
theorem refMay8_any (n : Int) (A B D : List UInt8) (w : World) (ha : A.length ≤ 100000) (hb : B.length ≤ 100000) (hd : D.length ≤ 100000) :
    Calls Tryz.prog 12 #[.agg (opC ⟨8, n, A, B, D⟩)] w fun e w' => e = .returned (.bool (mayO ⟨8, n, A, B, D⟩)) ∧ Below w.heap.size w w' := by
  have hM : mayO ⟨8, n, A, B, D⟩ = (placeB A && ((n == 0) && ((B == []) && ((D == []) && true)))) := by simp [mayO, slotK, pairK]
  have HM := Lib.hid hM
  clear hM
  have bO := Blk.new w 23 (opC ⟨8, n, A, B, D⟩)
  have hB : Below w.heap.size w (w.alloc (.cells (opC ⟨8, n, A, B, D⟩) 23)) := (Below.refl _ w).alloc (Nat.le_refl _) _
  obtain ⟨p0, p1, p2, p3, p4⟩ := bO.five
  dsimp only at p0 p1 p2 p3 p4
  go_enter Tryz.func12, Tryz.ntmps12
  go_wp2_with fail
  refine (refplace_any A _ ha).mono ?_
  rintro e w1 ⟨rfl, b1⟩
  replace bO := bO.next b1
  replace hB := hB.trans (b1.mono hB.size)
  clear b1 p0 p1 p2 p3 p4
  obtain ⟨p0, p1, p2, p3, p4⟩ := bO.five
  dsimp only at p0 p1 p2 p3 p4
  cases hA : placeB A
  · (have HN : Hid (mayO ⟨8, n, A, B, D⟩ = false) := (by (show _ = _; rw [HM.out]; simp only [hA]; simp)); go_wp2; go_ret; exact ⟨ret_bool (by rw [HN.out]), hB⟩)
  go_wp2_with fail
  refine (refSlotted_any 8 _).mono ?_
  rintro e w2 ⟨rfl, rfl⟩
  rw [show slotK 8 = false from by decide]
  cases hs : (n == 0)
  · (have HN : Hid (mayO ⟨8, n, A, B, D⟩ = false) := (by (show _ = _; rw [HM.out]; simp only [hA, hs]; simp)); go_wp2; go_ret; exact ⟨ret_bool (by rw [HN.out]), hB⟩)
  have HS := Lib.hid hs
  cases hP : (B == [])
  · have hPe : B.isEmpty = false := by simpa using hP
    (have HN : Hid (mayO ⟨8, n, A, B, D⟩ = false) := (by (show _ = _; rw [HM.out]; simp only [hA, HS.out, hP]; simp)); go_wp2; go_ret; exact ⟨ret_bool (by rw [HN.out]), hB⟩)
  have hPe : B.isEmpty = true := by simpa using hP
  cases hT : (D == [])
  · have hTe : D.isEmpty = false := by simpa using hT
    (have HN : Hid (mayO ⟨8, n, A, B, D⟩ = false) := (by (show _ = _; rw [HM.out]; simp only [hA, HS.out, hP, hT]; simp)); go_wp2; go_ret; exact ⟨ret_bool (by rw [HN.out]), hB⟩)
  have hTe : D.isEmpty = true := by simpa using hT
  have HN : Hid (mayO ⟨8, n, A, B, D⟩ = true) := by show _ = _; rw [HM.out]; simp only [hA, HS.out, hP, hT]; rfl
  go_wp2
  go_ret
  exact ⟨ret_bool (by rw [HN.out]), hB⟩
set_option maxHeartbeats 4000000 in
set_option maxRecDepth 100000 in
theorem refMay9_any (n : Int) (A B D : List UInt8) (w : World) (ha : A.length ≤ 100000) (hb : B.length ≤ 100000) (hd : D.length ≤ 100000) :
    Calls Tryz.prog 12 #[.agg (opC ⟨9, n, A, B, D⟩)] w fun e w' => e = .returned (.bool (mayO ⟨9, n, A, B, D⟩)) ∧ Below w.heap.size w w' := by
  have hM : mayO ⟨9, n, A, B, D⟩ = (placeB A && (decide (1 ≤ n ∧ n ≤ 1073741824) && ((B == []) && ((D == []) && true)))) := by simp [mayO, slotK, pairK]
  have HM := Lib.hid hM
  clear hM
  have bO := Blk.new w 23 (opC ⟨9, n, A, B, D⟩)
  have hB : Below w.heap.size w (w.alloc (.cells (opC ⟨9, n, A, B, D⟩) 23)) := (Below.refl _ w).alloc (Nat.le_refl _) _
  obtain ⟨p0, p1, p2, p3, p4⟩ := bO.five
  dsimp only at p0 p1 p2 p3 p4
  go_enter Tryz.func12, Tryz.ntmps12
  go_wp2_with fail
  refine (refplace_any A _ ha).mono ?_
  rintro e w1 ⟨rfl, b1⟩
  replace bO := bO.next b1
  replace hB := hB.trans (b1.mono hB.size)
  clear b1 p0 p1 p2 p3 p4
  obtain ⟨p0, p1, p2, p3, p4⟩ := bO.five
  dsimp only at p0 p1 p2 p3 p4
  cases hA : placeB A
  · (have HN : Hid (mayO ⟨9, n, A, B, D⟩ = false) := (by (show _ = _; rw [HM.out]; simp only [hA]; simp)); go_wp2; go_ret; exact ⟨ret_bool (by rw [HN.out]), hB⟩)
  go_wp2_with fail
  refine (refSlotted_any 9 _).mono ?_
  rintro e w2 ⟨rfl, rfl⟩
  rw [show slotK 9 = true from by decide]
  by_cases hs1 : 1 ≤ n
  rotate_left
  · have hs := decide_eq_false (show ¬ (1 ≤ n ∧ n ≤ 1073741824) by omega)
    (have HN : Hid (mayO ⟨9, n, A, B, D⟩ = false) := (by (show _ = _; rw [HM.out]; simp only [hA, hs]; simp)); go_wp2; go_ret; exact ⟨ret_bool (by rw [HN.out]), hB⟩)
  by_cases hs2 : n ≤ 1073741824
  rotate_left
  · have hs := decide_eq_false (show ¬ (1 ≤ n ∧ n ≤ 1073741824) by omega)
    (have HN : Hid (mayO ⟨9, n, A, B, D⟩ = false) := (by (show _ = _; rw [HM.out]; simp only [hA, hs]; simp)); go_wp2; go_ret; exact ⟨ret_bool (by rw [HN.out]), hB⟩)
  have hs := decide_eq_true (show 1 ≤ n ∧ n ≤ 1073741824 by omega)
  have HS := Lib.hid hs
  clear hs
  cases hP : (B == [])
  · have hPe : B.isEmpty = false := by simpa using hP
    (have HN : Hid (mayO ⟨9, n, A, B, D⟩ = false) := (by (show _ = _; rw [HM.out]; simp only [hA, HS.out, hP]; simp)); go_wp2; go_ret; exact ⟨ret_bool (by rw [HN.out]), hB⟩)
  have hPe : B.isEmpty = true := by simpa using hP
  cases hT : (D == [])
  · have hTe : D.isEmpty = false := by simpa using hT
    (have HN : Hid (mayO ⟨9, n, A, B, D⟩ = false) := (by (show _ = _; rw [HM.out]; simp only [hA, HS.out, hP, hT]; simp)); go_wp2; go_ret; exact ⟨ret_bool (by rw [HN.out]), hB⟩)
  have hTe : D.isEmpty = true := by simpa using hT
  have HN : Hid (mayO ⟨9, n, A, B, D⟩ = true) := by show _ = _; rw [HM.out]; simp only [hA, HS.out, hP, hT]; rfl
  go_wp2
  go_ret
  exact ⟨ret_bool (by rw [HN.out]), hB⟩
set_option maxHeartbeats 4000000 in
set_option maxRecDepth 100000 in
theorem refMay10_any (n : Int) (A B D : List UInt8) (w : World) (ha : A.length ≤ 100000) (hb : B.length ≤ 100000) (hd : D.length ≤ 100000) :
    Calls Tryz.prog 12 #[.agg (opC ⟨10, n, A, B, D⟩)] w fun e w' => e = .returned (.bool (mayO ⟨10, n, A, B, D⟩)) ∧ Below w.heap.size w w' := by
  have hM : mayO ⟨10, n, A, B, D⟩ = (placeB A && (decide (1 ≤ n ∧ n ≤ 1073741824) && ((B == []) && ((D == []) && true)))) := by simp [mayO, slotK, pairK]
  have HM := Lib.hid hM
  clear hM
  have bO := Blk.new w 23 (opC ⟨10, n, A, B, D⟩)
  have hB : Below w.heap.size w (w.alloc (.cells (opC ⟨10, n, A, B, D⟩) 23)) := (Below.refl _ w).alloc (Nat.le_refl _) _
  obtain ⟨p0, p1, p2, p3, p4⟩ := bO.five
  dsimp only at p0 p1 p2 p3 p4
  go_enter Tryz.func12, Tryz.ntmps12
  go_wp2_with fail
  refine (refplace_any A _ ha).mono ?_
  rintro e w1 ⟨rfl, b1⟩
  replace bO := bO.next b1
  replace hB := hB.trans (b1.mono hB.size)
  clear b1 p0 p1 p2 p3 p4
  obtain ⟨p0, p1, p2, p3, p4⟩ := bO.five
  dsimp only at p0 p1 p2 p3 p4
  cases hA : placeB A
  · (have HN : Hid (mayO ⟨10, n, A, B, D⟩ = false) := (by (show _ = _; rw [HM.out]; simp only [hA]; simp)); go_wp2; go_ret; exact ⟨ret_bool (by rw [HN.out]), hB⟩)
  go_wp2_with fail
  refine (refSlotted_any 10 _).mono ?_
  rintro e w2 ⟨rfl, rfl⟩
  rw [show slotK 10 = true from by decide]
  by_cases hs1 : 1 ≤ n
  rotate_left
  · have hs := decide_eq_false (show ¬ (1 ≤ n ∧ n ≤ 1073741824) by omega)
    (have HN : Hid (mayO ⟨10, n, A, B, D⟩ = false) := (by (show _ = _; rw [HM.out]; simp only [hA, hs]; simp)); go_wp2; go_ret; exact ⟨ret_bool (by rw [HN.out]), hB⟩)
  by_cases hs2 : n ≤ 1073741824
  rotate_left
  · have hs := decide_eq_false (show ¬ (1 ≤ n ∧ n ≤ 1073741824) by omega)
    (have HN : Hid (mayO ⟨10, n, A, B, D⟩ = false) := (by (show _ = _; rw [HM.out]; simp only [hA, hs]; simp)); go_wp2; go_ret; exact ⟨ret_bool (by rw [HN.out]), hB⟩)
  have hs := decide_eq_true (show 1 ≤ n ∧ n ≤ 1073741824 by omega)
  have HS := Lib.hid hs
  clear hs
  cases hP : (B == [])
  · have hPe : B.isEmpty = false := by simpa using hP
    (have HN : Hid (mayO ⟨10, n, A, B, D⟩ = false) := (by (show _ = _; rw [HM.out]; simp only [hA, HS.out, hP]; simp)); go_wp2; go_ret; exact ⟨ret_bool (by rw [HN.out]), hB⟩)
  have hPe : B.isEmpty = true := by simpa using hP
  cases hT : (D == [])
  · have hTe : D.isEmpty = false := by simpa using hT
    (have HN : Hid (mayO ⟨10, n, A, B, D⟩ = false) := (by (show _ = _; rw [HM.out]; simp only [hA, HS.out, hP, hT]; simp)); go_wp2; go_ret; exact ⟨ret_bool (by rw [HN.out]), hB⟩)
  have hTe : D.isEmpty = true := by simpa using hT
  have HN : Hid (mayO ⟨10, n, A, B, D⟩ = true) := by show _ = _; rw [HM.out]; simp only [hA, HS.out, hP, hT]; rfl
  go_wp2
  go_ret
  exact ⟨ret_bool (by rw [HN.out]), hB⟩
theorem refMayO_any (o : OpV) (w : World) (ha : o.a.length ≤ 100000) (hb : o.b.length ≤ 100000) (hd : o.data.length ≤ 100000) :
    Calls Tryz.prog 12 #[.agg (opC o)] w fun e w' => e = .returned (.bool (mayO o)) ∧ Below w.heap.size w w' := by
  obtain ⟨k, n, A, B, D⟩ := o
  dsimp only at ha hb hd
  by_cases hk : 1 ≤ k ∧ k ≤ 10
  · have h10 : k = 1 ∨ k = 2 ∨ k = 3 ∨ k = 4 ∨ k = 5 ∨ k = 6 ∨ k = 7 ∨ k = 8 ∨ k = 9 ∨ k = 10 := by omega
    rcases h10 with rfl | rfl | rfl | rfl | rfl | rfl | rfl | rfl | rfl | rfl
    · exact refMay1_any n A B D w ha hb hd
    · exact refMay2_any n A B D w ha hb hd
    · exact refMay3_any n A B D w ha hb hd
    · exact refMay4_any n A B D w ha hb hd
    · exact refMay5_any n A B D w ha hb hd
    · exact refMay6_any n A B D w ha hb hd
    · exact refMay7_any n A B D w ha hb hd
    · exact refMay8_any n A B D w ha hb hd
    · exact refMay9_any n A B D w ha hb hd
    · exact refMay10_any n A B D w ha hb hd
  · have HN : Hid (mayO ⟨k, n, A, B, D⟩ = false) := by show _ = _; simp [mayO, decide_eq_false hk]
    have bO := Blk.new w 23 (opC ⟨k, n, A, B, D⟩)
    have hB : Below w.heap.size w (w.alloc (.cells (opC ⟨k, n, A, B, D⟩) 23)) := (Below.refl _ w).alloc (Nat.le_refl _) _
    obtain ⟨p0, p1, p2, p3, p4⟩ := bO.five
    dsimp only at p0 p1 p2 p3 p4
    by_cases h1 : k < 1
    · clear hk
      go_enter Tryz.func12, Tryz.ntmps12
      go_wp2
      go_ret
      exact ⟨ret_bool (by rw [HN.out]), hB⟩
    · have h2 : 10 < k := by omega
      clear hk
      go_enter Tryz.func12, Tryz.ntmps12
      go_wp2
      go_ret
      exact ⟨ret_bool (by rw [HN.out]), hB⟩
end Go.Proofs.YtolbhjjcabiabaaGreatDoor

/- Walks: the document's Few, Plan, Undo. -/
set_option linter.unusedVariables false
set_option linter.unusedSimpArgs false
namespace Go.Proofs.YtolbhjjcabiabaaGreatDoor
open Go.RowKit

theorem plan_at {l : List OpV} {k : Nat} {last : Int} (hk : k < l.length) (h : planB 0 (l.take k) = true ∧ lastO 0 (l.take k) = last) : planO l = ((mayO l[k] && decide (l[k].kind ≤ 7)) && (if slotK l[k].kind = true then decide (last < l[k].slot) && planB l[k].slot (l.drop (k + 1)) else planB last (l.drop (k + 1)))) := by
  have e : planO l = planB 0 (l.take k ++ l.drop k) := by rw [List.take_append_drop]; rfl
  rw [e, plan_append, h.1, h.2, Bool.true_and, List.drop_eq_getElem_cons hk]
  rfl
theorem plan_step {l : List OpV} {k : Nat} {last : Int} (hk : k < l.length) (h : planB 0 (l.take k) = true ∧ lastO 0 (l.take k) = last) (h1 : (mayO l[k] && decide (l[k].kind ≤ 7)) = true) :
    (slotK l[k].kind = false → planB 0 (l.take (k + 1)) = true ∧ lastO 0 (l.take (k + 1)) = last) ∧ (slotK l[k].kind = true → last < l[k].slot → planB 0 (l.take (k + 1)) = true ∧ lastO 0 (l.take (k + 1)) = l[k].slot) := by
  rw [take_step hk, plan_append, last_append, h.1, h.2]
  constructor
  · intro hs
    simp only [planB, lastO, h1, hs, Bool.true_and]
    simp
  · intro hs hf
    simp only [planB, lastO, h1, hs, Bool.true_and, decide_eq_true hf]
    simp
theorem plan_end {l : List OpV} {last : Int} (h : planB 0 (l.take l.length) = true ∧ lastO 0 (l.take l.length) = last) : planO l = true := by
  have := h.1
  rw [List.take_length] at this
  exact this
theorem undo_at {l : List OpV} {k : Nat} {last : Int} (hk : k < l.length) (h : undoB 2147483648 (l.take k) = true ∧ lastO 2147483648 (l.take k) = last) : undoO l = ((mayO l[k] && (decide (6 ≤ l[k].kind) && !(l[k].kind == 7))) && (if slotK l[k].kind = true then decide (l[k].slot < last) && undoB l[k].slot (l.drop (k + 1)) else undoB last (l.drop (k + 1)))) := by
  have e : undoO l = undoB 2147483648 (l.take k ++ l.drop k) := by rw [List.take_append_drop]; rfl
  rw [e, undo_append, h.1, h.2, Bool.true_and, List.drop_eq_getElem_cons hk]
  rfl
theorem undo_step {l : List OpV} {k : Nat} {last : Int} (hk : k < l.length) (h : undoB 2147483648 (l.take k) = true ∧ lastO 2147483648 (l.take k) = last) (h1 : (mayO l[k] && (decide (6 ≤ l[k].kind) && !(l[k].kind == 7))) = true) :
    (slotK l[k].kind = false → undoB 2147483648 (l.take (k + 1)) = true ∧ lastO 2147483648 (l.take (k + 1)) = last) ∧ (slotK l[k].kind = true → l[k].slot < last → undoB 2147483648 (l.take (k + 1)) = true ∧ lastO 2147483648 (l.take (k + 1)) = l[k].slot) := by
  rw [take_step hk, undo_append, last_append, h.1, h.2]
  constructor
  · intro hs
    simp only [undoB, lastO, h1, hs, Bool.true_and]
    simp
  · intro hs hf
    simp only [undoB, lastO, h1, hs, Bool.true_and, decide_eq_true hf]
    simp
theorem undo_end {l : List OpV} {last : Int} (h : undoB 2147483648 (l.take l.length) = true ∧ lastO 2147483648 (l.take l.length) = last) : undoO l = true := by
  have := h.1
  rw [List.take_length] at this
  exact this

set_option maxHeartbeats 8000000 in
set_option maxRecDepth 100000 in
theorem refPlan_any (l : List OpV) (v : Value) (w : World) (hv : Ops w v l) (hl : l.length ≤ 1000) (hsh : ∀ o ∈ l, o.a.length ≤ 100000 ∧ o.b.length ≤ 100000 ∧ o.data.length ≤ 100000) :
    Calls Tryz.prog 20 #[v] w fun e w' => e = .returned (.bool (planO l)) ∧ Below w.heap.size w w' := by
  obtain ⟨a, ca, rfl, hcc, hcm, _, hcn, HX0⟩ := id hv
  unfold maxLen at hcm
  have HX := Lib.hid HX0
  have HSH := Lib.hid hsh
  clear HX0 hsh hv
  have hB := Below.refl w.heap.size w
  go_enter Tryz.func20, Tryz.ntmps20
  go_wp2
  go_loopg [3, 4] l.length (fun g s3 s4 wr => ∃ (k : Nat) (last : Int), k + g = l.length ∧ s4 = .int .i64 k ∧ s3 = .int .i64 last ∧ Below w.heap.size w wr ∧ Aside (planB 0 (l.take k) = true ∧ lastO 0 (l.take k) = last))
  case atStart => exact ⟨0, 0, by omega, rfl, rfl, hB, ⟨rfl, rfl⟩⟩
  case round =>
    clear hB
    obtain ⟨k, last, hkg, rfl, rfl, hbw, HP⟩ := hrel
    by_cases hlt : k < l.length
    · obtain ⟨G, rfl⟩ : ∃ G, gk = G + 1 := ⟨gk - 1, by omega⟩
      obtain ⟨b, off, rfl, hbl, hcl⟩ := HX.out (by omega)
      have hx0 := hcl k hlt
      clear hcl
      have hs3 := HSH.out _ (List.getElem_mem hlt)
      have hAt := plan_at hlt HP.out
      have hSt := plan_step hlt HP.out
      have k0 : (0 : Int) ≤ (k : Int) := by omega
      have k1 : (k : Int) < (l.length : Int) := by omega
      generalize l.drop (k + 1) = rest at *
      generalize l[k] = o at *
      obtain ⟨ok, n, A, B, D⟩ := o
      dsimp only at hs3 hAt hSt
      have HAT := Lib.hid hAt
      have HST := Lib.hid hSt
      clear hAt hSt HP
      have HX1 := fun W (h : Below w.heap.size w W) => hx0.below h hbl
      clear hx0
      obtain ⟨c0, c1, c2, c3, c4⟩ := HX1 _ hbw
      dsimp only at c0 c1 c2 c3 c4
      go_wp2_with fail
      refine (refMayO_any ⟨ok, n, A, B, D⟩ _ hs3.1 hs3.2.1 hs3.2.2).mono ?_
      rintro e w2 ⟨rfl, b2⟩
      have hb2 := hbw.trans (b2.mono hbw.size)
      clear b2 c0 c1 c2 c3 c4
      obtain ⟨c0, c1, c2, c3, c4⟩ := HX1 _ hb2
      dsimp only at c0 c1 c2 c3 c4
      cases hm : mayO ⟨ok, n, A, B, D⟩
      · have HN : Hid (planO l = false) := by show _ = _; rw [HAT.out, hm]; rfl
        go_wp2
        go_ret
        exact ⟨ret_bool (by rw [HN.out]), hb2⟩
      by_cases h7 : ok ≤ 7
      rotate_left
      · have HN : Hid (planO l = false) := by show _ = _; rw [HAT.out, hm, decide_eq_false h7]; rfl
        have h7' : 7 < ok := by omega
        clear h7
        go_wp2
        go_ret
        exact ⟨ret_bool (by rw [HN.out]), hb2⟩
      have hOK : (mayO ⟨ok, n, A, B, D⟩ && decide (ok ≤ 7)) = true := by rw [hm, decide_eq_true h7]; rfl
      have HOK := Lib.hid hOK
      clear hOK
      go_wp2_with fail
      refine (refSlotted_any ok _).mono ?_
      rintro e w3 ⟨rfl, rfl⟩
      cases hs : slotK ok
      · have HN := Lib.hid ((HST.out HOK.out).1 hs)
        clear hs hm c0 c1 c2 c3 c4
        go_wp2
        go_roundg G
        case rel => exact ⟨k + 1, last, by omega, by go_num, rfl, hb2, HN.out⟩
        case measure => omega
      · by_cases hf : last < n
        · have HN := Lib.hid ((HST.out HOK.out).2 hs hf)
          clear hs hm
          go_wp2
          go_roundg G
          case rel => exact ⟨k + 1, n, by omega, by go_num, rfl, hb2, HN.out⟩
          case measure => omega
        · have HN : Hid (planO l = false) := by show _ = _; rw [HAT.out, HOK.out, if_pos hs, decide_eq_false hf]; rfl
          have hf' : n ≤ last := by omega
          clear hf hs hm
          go_wp2
          go_ret
          exact ⟨ret_bool (by rw [HN.out]), hb2⟩
    · obtain rfl : k = l.length := by omega
      have HN := Lib.hid (plan_end HP.out)
      go_wp2
      go_ret
      exact ⟨ret_bool (by rw [HN.out]), hbw⟩

set_option maxHeartbeats 8000000 in
set_option maxRecDepth 100000 in
theorem refUndo_any (l : List OpV) (v : Value) (w : World) (hv : Ops w v l) (hl : l.length ≤ 1000) (hsh : ∀ o ∈ l, o.a.length ≤ 100000 ∧ o.b.length ≤ 100000 ∧ o.data.length ≤ 100000) :
    Calls Tryz.prog 21 #[v] w fun e w' => e = .returned (.bool (undoO l)) ∧ Below w.heap.size w w' := by
  obtain ⟨a, ca, rfl, hcc, hcm, _, hcn, HX0⟩ := id hv
  unfold maxLen at hcm
  have HX := Lib.hid HX0
  have HSH := Lib.hid hsh
  clear HX0 hsh hv
  have hB := Below.refl w.heap.size w
  go_enter Tryz.func21, Tryz.ntmps21
  go_wp2
  go_loopg [3, 4] l.length (fun g s3 s4 wr => ∃ (k : Nat) (last : Int), k + g = l.length ∧ s4 = .int .i64 k ∧ s3 = .int .i64 last ∧ Below w.heap.size w wr ∧ Aside (undoB 2147483648 (l.take k) = true ∧ lastO 2147483648 (l.take k) = last))
  case atStart => exact ⟨0, 2147483648, by omega, rfl, rfl, hB, ⟨rfl, rfl⟩⟩
  case round =>
    clear hB
    obtain ⟨k, last, hkg, rfl, rfl, hbw, HP⟩ := hrel
    by_cases hlt : k < l.length
    · obtain ⟨G, rfl⟩ : ∃ G, gk = G + 1 := ⟨gk - 1, by omega⟩
      obtain ⟨b, off, rfl, hbl, hcl⟩ := HX.out (by omega)
      have hx0 := hcl k hlt
      clear hcl
      have hs3 := HSH.out _ (List.getElem_mem hlt)
      have hAt := undo_at hlt HP.out
      have hSt := undo_step hlt HP.out
      have k0 : (0 : Int) ≤ (k : Int) := by omega
      have k1 : (k : Int) < (l.length : Int) := by omega
      generalize l.drop (k + 1) = rest at *
      generalize l[k] = o at *
      obtain ⟨ok, n, A, B, D⟩ := o
      dsimp only at hs3 hAt hSt
      have HAT := Lib.hid hAt
      have HST := Lib.hid hSt
      clear hAt hSt HP
      have HX1 := fun W (h : Below w.heap.size w W) => hx0.below h hbl
      clear hx0
      obtain ⟨c0, c1, c2, c3, c4⟩ := HX1 _ hbw
      dsimp only at c0 c1 c2 c3 c4
      go_wp2_with fail
      refine (refMayO_any ⟨ok, n, A, B, D⟩ _ hs3.1 hs3.2.1 hs3.2.2).mono ?_
      rintro e w2 ⟨rfl, b2⟩
      have hb2 := hbw.trans (b2.mono hbw.size)
      clear b2 c0 c1 c2 c3 c4
      obtain ⟨c0, c1, c2, c3, c4⟩ := HX1 _ hb2
      dsimp only at c0 c1 c2 c3 c4
      cases hm : mayO ⟨ok, n, A, B, D⟩
      · have HN : Hid (undoO l = false) := by show _ = _; rw [HAT.out, hm]; rfl
        go_wp2
        go_ret
        exact ⟨ret_bool (by rw [HN.out]), hb2⟩
      by_cases h6 : 6 ≤ ok
      rotate_left
      · have HN : Hid (undoO l = false) := by show _ = _; rw [HAT.out, hm, decide_eq_false h6]; rfl
        have h6' : ok < 6 := by omega
        clear h6
        go_wp2
        go_ret
        exact ⟨ret_bool (by rw [HN.out]), hb2⟩
      cases h7 : (ok == 7)
      rotate_left
      · have HN : Hid (undoO l = false) := by show _ = _; rw [HAT.out, hm, h7, decide_eq_true h6]; rfl
        go_wp2
        go_ret
        exact ⟨ret_bool (by rw [HN.out]), hb2⟩
      have hOK : (mayO ⟨ok, n, A, B, D⟩ && (decide (6 ≤ ok) && !(ok == 7))) = true := by rw [hm, h7, decide_eq_true h6]; rfl
      have HOK := Lib.hid hOK
      clear hOK
      go_wp2_with fail
      refine (refSlotted_any ok _).mono ?_
      rintro e w3 ⟨rfl, rfl⟩
      cases hs : slotK ok
      · have HN := Lib.hid ((HST.out HOK.out).1 hs)
        clear hs hm c0 c1 c2 c3 c4
        go_wp2
        go_roundg G
        case rel => exact ⟨k + 1, last, by omega, by go_num, rfl, hb2, HN.out⟩
        case measure => omega
      · by_cases hf : n < last
        · have HN := Lib.hid ((HST.out HOK.out).2 hs hf)
          clear hs hm
          go_wp2
          go_roundg G
          case rel => exact ⟨k + 1, n, by omega, by go_num, rfl, hb2, HN.out⟩
          case measure => omega
        · have HN : Hid (undoO l = false) := by show _ = _; rw [HAT.out, HOK.out, if_pos hs, decide_eq_false hf]; rfl
          have hf' : last ≤ n := by omega
          clear hf hs hm
          go_wp2
          go_ret
          exact ⟨ret_bool (by rw [HN.out]), hb2⟩
    · obtain rfl : k = l.length := by omega
      have HN := Lib.hid (undo_end HP.out)
      go_wp2
      go_ret
      exact ⟨ret_bool (by rw [HN.out]), hbw⟩
end Go.Proofs.YtolbhjjcabiabaaGreatDoor

/- Walks: the document's Few, Slots, Same of operations. -/
set_option linter.unusedVariables false
set_option linter.unusedSimpArgs false
namespace Go.Proofs.YtolbhjjcabiabaaGreatDoor
open Go.RowKit

def shO (c : OpV) : Bool := decide (c.a.length ≤ 1000) && decide (c.b.length ≤ 1000) && decide (c.data.length ≤ 5000)
def fewOw (l : List OpV) : Bool := (l.take 200).all shO && decide (l.length ≤ 100)
theorem shO_iff {c : OpV} : shO c = true ↔ c.a.length ≤ 1000 ∧ c.b.length ≤ 1000 ∧ c.data.length ≤ 5000 := by
  simp [shO, and_assoc]
theorem fewOw_no {l : List OpV} {k : Nat} (h : k < l.length) (h1 : k < 200) (h2 : ¬ (l[k].a.length ≤ 1000 ∧ l[k].b.length ≤ 1000 ∧ l[k].data.length ≤ 5000)) : fewOw l = false := by
  rw [Bool.eq_false_iff]
  intro hb
  simp only [fewOw, Bool.and_eq_true, List.all_eq_true] at hb
  have hk : k < (l.take 200).length := by simp; omega
  have := hb.1 (l.take 200)[k] (List.getElem_mem hk)
  rw [shO_iff] at this
  simp only [List.getElem_take] at this
  exact h2 this
theorem fewOw_yes {l : List OpV} {k : Nat} (h : ∀ j (hj : j < l.length), j < k → l[j].a.length ≤ 1000 ∧ l[j].b.length ≤ 1000 ∧ l[j].data.length ≤ 5000) (h2 : ¬ (k < l.length ∧ k < 200)) : fewOw l = decide (l.length ≤ 100) := by
  unfold fewOw
  have : (l.take 200).all shO = true := by
    rw [List.all_eq_true]
    intro s hs
    obtain ⟨j, hj, rfl⟩ := List.getElem_of_mem hs
    have hj2 : j < l.length ∧ j < 200 := by simp at hj; omega
    have := h j hj2.1 (by omega)
    rw [shO_iff]
    simpa using this
  rw [this]; simp
theorem fewOw_small {l : List OpV} (h : fewOw l = true) : l.length ≤ 100 ∧ ∀ c ∈ l, c.a.length ≤ 1000 ∧ c.b.length ≤ 1000 ∧ c.data.length ≤ 5000 := by
  simp only [fewOw, Bool.and_eq_true, List.all_eq_true, decide_eq_true_eq] at h
  refine ⟨h.2, fun x hx => ?_⟩
  rw [List.take_of_length_le (by omega)] at h
  exact shO_iff.1 (h.1 x hx)
set_option maxHeartbeats 2000000 in
set_option maxRecDepth 100000 in
theorem fewOw_any (l : List OpV) (v : Value) (w : World) (hv : Ops w v l) :
    Calls Tryz.prog 9 #[v] w fun e w' => e = .returned (.bool (fewOw l)) ∧ w = w' := by
  obtain ⟨a, ca, rfl, hcc, hcm, _, hcn, HA0⟩ := hv
  unfold maxLen at hcm
  have HA := Lib.hid HA0
  clear HA0
  go_enter Tryz.func9, Tryz.ntmps9
  go_wp2
  go_loop [3] (fun i => ∃ k : Nat, k ≤ 200 ∧ i = .int .i64 k ∧ Aside (∀ j (hj : j < l.length), j < k → l[j].a.length ≤ 1000 ∧ l[j].b.length ≤ 1000 ∧ l[j].data.length ≤ 5000)) (fun i => 200 - (intOf i).toNat)
  case atStart => exact ⟨0, Nat.zero_le _, rfl, fun j hj h => absurd h (by omega)⟩
  case round =>
    obtain ⟨k, hk, rfl, HT⟩ := hrel
    by_cases hlt : k < l.length
    · by_cases h100 : k < 200
      · obtain ⟨b, o, rfl, hb, hc⟩ := HA.out (by omega)
        obtain ⟨c0, c1, c2, c3, c4⟩ := hc k hlt
        clear hc
        by_cases h3 : l[k].a.length ≤ 1000
        · by_cases h4 : l[k].b.length ≤ 1000
          · by_cases h5 : l[k].data.length ≤ 5000
            · have HT2 : Hid (∀ j (hj : j < l.length), j < k + 1 → l[j].a.length ≤ 1000 ∧ l[j].b.length ≤ 1000 ∧ l[j].data.length ≤ 5000) := by
                intro j hj h
                rcases Nat.lt_or_ge j k with h' | h'
                · exact HT.out j hj h'
                · obtain rfl : j = k := by omega
                  exact ⟨h3, h4, h5⟩
              go_wp2
              go_round
              case rel => exact ⟨k + 1, by omega, by go_num, HT2.out⟩
              case measure => simp [intOf]; omega
            · have HN := Lib.hid (fewOw_no hlt h100 (fun h => h5 h.2.2))
              go_wp2
              go_ret
              exact ⟨by rw [HN.out]; rfl, rfl⟩
          · have HN := Lib.hid (fewOw_no hlt h100 (fun h => h4 h.2.1))
            go_wp2
            go_ret
            exact ⟨by rw [HN.out]; rfl, rfl⟩
        · have HN := Lib.hid (fewOw_no hlt h100 (fun h => h3 h.1))
          go_wp2
          go_ret
          exact ⟨by rw [HN.out]; rfl, rfl⟩
      · have HY := Lib.hid (fewOw_yes HT.out (fun h => h100 h.2))
        go_wp2
        go_ret
        exact ⟨ret_bool (by rw [HY.out]; simp; omega), rfl⟩
    · have HY := Lib.hid (fewOw_yes HT.out (fun h => hlt h.1))
      go_wp2
      go_ret
      exact ⟨ret_bool (by rw [HY.out]; simp; omega), rfl⟩

theorem infoI19 : (Tryz.prog.info? 3).map (fun i => (i.zero, i.size, i.bytes)) = some (some (.int .i64 0), 1, 8) := by kernel_rfl
def intsO (l : List Int) : List Value := l.map (.int .i64 ·)
theorem sameO_no {a b : List OpV} {k : Nat} (h1 : k < a.length) (h2 : k < b.length) (hne : a[k] ≠ b[k]) : sameO a b = false := by
  unfold sameO
  rw [decide_eq_false_iff_not]
  rintro rfl
  exact hne rfl
theorem sameO_yes {a b : List OpV} (hl : a.length = b.length) (h : ∀ j (h1 : j < a.length) (h2 : j < b.length), j < a.length → a[j] = b[j]) : sameO a b = true := by
  unfold sameO
  rw [decide_eq_true_eq]
  exact List.ext_getElem hl fun j h1 h2 => h j h1 h2 h1
set_option maxHeartbeats 8000000 in
theorem refSameO_any (l m : List OpV) (v u : Value) (w : World) (hv : Ops w v l) (hu : Ops w u m) :
    Calls Tryz.prog 19 #[v, u] w fun e w' => e = .returned (.bool (sameO l m)) ∧ Below w.heap.size w w' := by
  obtain ⟨a, ca, rfl, hcc, hcm, _, hcn, HX0⟩ := id hv
  obtain ⟨b, cb, rfl, hdc, hdm, _, hdn, HY0⟩ := id hu
  unfold maxLen at hcm hdm
  have HX := Lib.hid HX0
  have HY := Lib.hid HY0
  clear HX0 HY0 hv hu
  by_cases hlen : l.length = m.length
  rotate_left
  · have HN : Hid (sameO l m = false) := by
      show _ = _
      unfold sameO
      rw [decide_eq_false_iff_not]
      rintro rfl
      exact hlen rfl
    have hb : ((l.length : Int) == (m.length : Int)) = false := by rw [beq_eq_false_iff_ne]; omega
    go_enter Tryz.func19, Tryz.ntmps19
    go_wp2
    go_ret
    exact ⟨ret_bool (by rw [HN.out]), Below.refl _ _⟩
  have hb : ((l.length : Int) == (m.length : Int)) = true := by rw [beq_iff_eq]; omega
  have HL := Lib.hid hlen
  clear hlen
  have hB := Below.refl w.heap.size w
  go_enter Tryz.func19, Tryz.ntmps19
  go_wp2
  go_loopw [5] (fun i wr => ∃ k : Nat, k ≤ l.length ∧ i = .int .i64 k ∧ Aside (∀ j (h1 : j < l.length) (h2 : j < m.length), j < k → l[j] = m[j]) ∧ Below w.heap.size w wr) (fun i _ => l.length - (intOf i).toNat)
  case atStart => exact ⟨0, Nat.zero_le _, rfl, fun j _ _ h => absurd h (by omega), hB⟩
  case round =>
    clear hB
    obtain ⟨k, hk, rfl, HT, hbw⟩ := hrel
    by_cases hlt : k < l.length
    · have hltb : k < m.length := by have := HL.out; omega
      obtain ⟨ba, oa, rfl, hba, hxa⟩ := HX.out (by omega)
      obtain ⟨bb, ob, rfl, hbb, hxb⟩ := HY.out (by omega)
      obtain ⟨c0, c1, c2, c3, c4⟩ := (hxa k hlt).below hbw hba
      obtain ⟨d0, d1, d2, d3, d4⟩ := (hxb k hltb).below hbw hbb
      clear hxa hxb
      have k0 : (0 : Int) ≤ (k : Int) := by omega
      have k1 : (k : Int) < (l.length : Int) := by omega
      have k2 : (k : Int) < (m.length : Int) := by omega
      have HNO := Lib.hid (fun h => sameO_no hlt hltb h)
      have HYE : Hid (l[k] = m[k] → ∀ j (h1 : j < l.length) (h2 : j < m.length), j < k + 1 → l[j] = m[j]) := fun e j h1 h2 h => by
        rcases Nat.lt_or_ge j k with h' | h'
        · exact HT.out j h1 h2 h'
        · obtain rfl : j = k := by omega
          exact e
      generalize l[k] = x at *
      generalize m[k] = y at *
      obtain ⟨xk, xs, xa, xb, xd⟩ := x
      obtain ⟨yk, ys, ya, yb, yd⟩ := y
      dsimp only at c0 c1 c2 c3 c4 d0 d1 d2 d3 d4
      cases e0 : (xk == yk)
      · have HN := Lib.hid (HNO.out (fun c => by cases c; simp at e0))
        go_wp2
        go_quiet (fail)
        go_wp2
        go_ret
        exact ⟨ret_bool (by rw [HN.out]), below_drewN hbw _⟩
      cases e1 : (xs == ys)
      · have HN := Lib.hid (HNO.out (fun c => by cases c; simp at e1))
        go_wp2
        go_quiet (fail)
        go_wp2
        go_ret
        exact ⟨ret_bool (by rw [HN.out]), below_drewN hbw _⟩
      cases e2 : (xa == ya)
      · have HN := Lib.hid (HNO.out (fun c => by cases c; simp at e2))
        go_wp2
        go_quiet (fail)
        go_wp2
        go_ret
        exact ⟨ret_bool (by rw [HN.out]), below_drewN hbw _⟩
      cases e3 : (xb == yb)
      · have HN := Lib.hid (HNO.out (fun c => by cases c; simp at e3))
        go_wp2
        go_quiet (fail)
        go_wp2
        go_ret
        exact ⟨ret_bool (by rw [HN.out]), below_drewN hbw _⟩
      cases e4 : (xd == yd)
      · have HN := Lib.hid (HNO.out (fun c => by cases c; simp at e4))
        go_wp2
        go_quiet (fail)
        go_wp2
        go_ret
        exact ⟨ret_bool (by rw [HN.out]), below_drewN hbw _⟩
      have HE := Lib.hid (HYE.out (by rw [beq_iff_eq.1 e0, beq_iff_eq.1 e1, beq_iff_eq.1 e2, beq_iff_eq.1 e3, beq_iff_eq.1 e4]))
      go_wp2
      go_quiet (fail)
      go_wp2
      go_roundw
      case rel => exact ⟨k + 1, by omega, by go_num, HE.out, below_drewN hbw _⟩
      case measure => simp [intOf]; omega
    · obtain rfl : k = l.length := by omega
      have HN := Lib.hid (sameO_yes HL.out HT.out)
      go_wp2
      go_ret
      exact ⟨ret_bool (by rw [HN.out]), hbw⟩
end Go.Proofs.YtolbhjjcabiabaaGreatDoor

/- Walks: May, Under, Plain. -/
set_option linter.unusedVariables false
set_option linter.unusedSimpArgs false
namespace Go.Proofs.YtolbhjjcabiabaaGreatDoor
open Go.RowKit

theorem Under_any (p q : List UInt8) (w : World) (hp : p.length ≤ 1000000) (hq : q.length ≤ 1000000) :
    Calls Tryz.prog 54 #[.string ⟨p.toArray⟩, .string ⟨q.toArray⟩] w fun e w' => e = .returned (.bool (liesB p q)) ∧ w = w' := by
  by_cases h0 : p = q
  · subst h0
    have HU : Hid (liesB p p = true) := by (show _ = _); simp [liesB]
    go_enter Tryz.func54, Tryz.ntmps54
    go_wp2
    go_ret
    exact ⟨ret_bool (by rw [HU.out]), rfl⟩
  have e0 : (p == q) = false := by simpa using h0
  by_cases h1 : q = [47]
  · subst h1
    have HU := Lib.hid (under_root p)
    go_enter Tryz.func54, Tryz.ntmps54
    go_wp2
    go_ret
    exact ⟨ret_bool (by rw [HU.out]), rfl⟩
  have e1 : (q == [47]) = false := by simpa using h1
  have HU : Hid (liesB p q = (q ++ [47]).isPrefixOf p) := by (show _ = _); unfold liesB; rw [e0, e1]; rfl
  clear h0 h1
  go_enter Tryz.func54, Tryz.ntmps54
  have HX : Hid (Lib.hasPrefix p (ByteArray.mk q.toArray ++ ByteArray.mk #[47]).data.toList = (q ++ [47]).isPrefixOf p) := by
    have hd : (ByteArray.mk q.toArray ++ ByteArray.mk #[47]).data.toList = q ++ [47] := by simp [ByteArray.data_append]
    (show _ = _); rw [hd]; rfl
  go_wp2_with fail
  refine (Tryz.strings_HasPrefix _ _ _).mono ?_
  rintro e w' ⟨he, rfl⟩
  rw [show Lib.hasPrefix (ByteArray.mk p.toArray).data.toList (ByteArray.mk q.toArray ++ ByteArray.mk #[47]).data.toList = liesB p q from HX.out.trans HU.out.symm] at he
  subst he
  go_wp2
  go_ret
  exact ⟨rfl, rfl⟩

theorem field1 (a s : Bool) (v : Value) (w : World) : (Instr.field 114 (.agg (pathV a v s)) 1).run Tryz.prog w = .ok v w := by kernel_rfl

set_option maxHeartbeats 2000000 in
theorem Plain_any (p : List UInt8) (w : World) (hp : p.length ≤ 100000) :
    Calls Tryz.prog 79 #[.string ⟨p.toArray⟩] w (PlainPost w (plainB p)) := by
  go_enter Tryz.func79, Tryz.ntmps79
  go_wp2_with fail; refine (Read_any p (by omega) _).mono ?_; rintro e w1 ⟨v, rfl, hown, h1⟩
  have hs := own_strs hown
  have hsz := Lib.hid (namesB_size p)
  have hct := namesB_count p
  have htot := Lib.hid (namesB_total p)
  clear hown
  obtain ⟨ad, ca, rfl, hm, HA0⟩ := hs
  have HA := Lib.hid HA0
  have HM := Lib.hid hm
  clear HA0 hm
  have hF := field1 (absB p) (slashB p) (.slice ad (namesB p).length ca) w1
  go_wp2
  clear hF
  go_loopw [12] (fun i wr => ∃ k : Nat, k ≤ (namesB p).length ∧ i = .int .i64 k ∧ Aside (∀ j (hj : j < (namesB p).length), j < k → mayB (namesB p)[j] = true) ∧ Below w1.heap.size w1 wr) (fun i _ => (namesB p).length - (intOf i).toNat)
  case atStart => exact ⟨0, Nat.zero_le _, rfl, fun j hj h => absurd h (by omega), Below.refl _ _⟩
  case round =>
    obtain ⟨k, hk, rfl, HT, hBl⟩ := hrel
    by_cases hlt : k < (namesB p).length
    · obtain ⟨ba, oa, rfl, hba, hca⟩ := HA.out (by omega)
      have c1 : wr.cell? ⟨ba, oa + k, none⟩ = some (.string ⟨(namesB p)[k].toArray⟩) := (hBl.cell (p := ⟨ba, oa + k, none⟩) hba).trans (hca k hlt)
      clear hca
      have hks := hsz.out _ (List.getElem_mem hlt)
      go_wp2_with fail; refine (May_any (namesB p)[k] _ (by omega)).mono ?_; rintro e w2 ⟨rfl, hB2⟩
      have hB3 := hBl.trans (hB2.mono hBl.size)
      cases hmk : mayB (namesB p)[k]
      · have HN := Lib.hid (plainB_bad hlt hmk)
        go_wp2
        go_ret2
        exact PlainPost.none_ HN.out rfl (h1.trans (hB3.mono h1.size))
      · have HT2 : Hid (∀ j (hj : j < (namesB p).length), j < k + 1 → mayB (namesB p)[j] = true) := by
          intro j hj h
          rcases Nat.lt_or_ge j k with h' | h'
          · exact HT.out j hj h'
          · obtain rfl : j = k := by omega
            exact hmk
        go_wp2
        go_roundw
        case rel => exact ⟨k + 1, by omega, by go_num, HT2.out, hB3⟩
        case measure => simp [intOf]; omega
    · obtain rfl : k = (namesB p).length := by omega
      have HP := Lib.hid (plainB_ok (l := p) (fun n hn => by
        obtain ⟨j, hj, rfl⟩ := List.getElem_of_mem hn
        exact HT.out j hj hj))
      have hsr : Strs wr (.slice ad (namesB p).length ca) (namesB p) := Strs.below ⟨ad, ca, rfl, HM.out, HA.out⟩ hBl
      go_wp2_with fail; refine (Join_any (namesB p) _ _ hsr (by omega) (by have := htot.out; omega)).mono ?_; rintro e w2 ⟨rfl, hB2⟩
      have hB3 := hBl.trans (hB2.mono hBl.size)
      have hs2 := hsr.below hB2
      cases hj : (joinB (namesB p) == p)
      · have HN : Hid (plainB p = none) := by (show _ = _); rw [HP.out, hj]; rfl
        go_wp2
        go_ret2
        exact PlainPost.none_ HN.out rfl (h1.trans (hB3.mono h1.size))
      · have HN : Hid (plainB p = some (namesB p)) := by (show _ = _); rw [HP.out, hj]; rfl
        go_wp2
        go_ret2
        exact ⟨_, by rw [HN.out]; rfl, by rw [HN.out]; exact hs2, h1.trans (hB3.mono h1.size)⟩
end Go.Proofs.YtolbhjjcabiabaaGreatDoor

/- Operations that came in; few of them. -/
set_option linter.unusedVariables false
set_option linter.unusedSimpArgs false
namespace Go.Proofs.YtolbhjjcabiabaaGreatDoor
open Go.ChangeShapes Go.WideShapes Go.ChangeAt Go.RowKit
set_option maxRecDepth 100000

/-- An operation that came in. -/
theorem op_of_trod {H : Type} {enc : TypeId × Value → H} {W : World} {base : Nat} {v : Value} {d : DataW H} {p : List MemPlace}
    (ok : Value.okWide Tryz.prog W .any base 23 v) (k : DataW.Trod enc Tryz.prog W 0 (fun _ => true) true 23 v d p) : ∃ o : OpV, v = .agg (opC o) ∧ o.a.length ≤ maxLen ∧ o.b.length ≤ maxLen ∧ o.data.length ≤ maxLen := by
  obtain ⟨cs, rfl, hsz⟩ := okWide_struct Tryz.underlying23 ok
  obtain ⟨fuel, hf⟩ := k
  obtain ⟨x, e, h⟩ := op_of_cells hf
  refine ⟨x, ?_, h⟩
  have : cs.toList = (opC x).toList := by simpa [Value.cells] using e
  rw [show cs = opC x from Array.ext' this]
theorem few_short {l : List OpV} (h : fewOw l = true) : l.length ≤ 1000 ∧ ∀ o ∈ l, o.a.length ≤ 100000 ∧ o.b.length ≤ 100000 ∧ o.data.length ≤ 100000 := by
  obtain ⟨h1, h2⟩ := fewOw_small h
  exact ⟨by omega, fun o ho => by have := h2 o ho; omega⟩
end Go.Proofs.YtolbhjjcabiabaaGreatDoor
