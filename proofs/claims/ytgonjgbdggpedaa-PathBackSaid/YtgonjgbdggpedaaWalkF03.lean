/- Walks: May, Under, Plain. -/
import Derived.Test.YtgonjgbdggpedaaWalkD03
import Derived.Test.YtgonjgbdggpedaaWalkE03
import Derived.Test.YtgonjgbdggpedaaAnyOf
namespace Go.Proofs.Ytgonjgbdggpedaa
open Go.RowKit

theorem mayB_hit (n : List UInt8) (h0 : n ≠ []) (h1 : n ≠ [46]) (h2 : n ≠ [46, 46]) (h3 : n.length ≤ 255) : mayB n = !n.any hitB := by
  have e0 : n.isEmpty = false := by simpa using h0
  have e1 : (n != [46]) = true := by simpa using h1
  have e2 : (n != [46, 46]) = true := by simpa using h2
  have key : n.any hitB = (n.contains 47 || n.contains 0) := by
    clear h0 h1 h2 h3 e0 e1 e2
    induction n with
    | nil => rfl
    | cons c n ih =>
      rw [List.any_cons, ih, List.contains_cons, List.contains_cons]
      unfold hitB
      rw [BEq.comm (a := c) (b := 47), BEq.comm (a := c) (b := 0)]
      cases (47 == c) <;> cases (0 == c) <;> cases n.contains 47 <;> cases n.contains 0 <;> rfl
  unfold mayB
  rw [e0, e1, e2, key, decide_eq_true h3]
  cases n.contains 47 <;> cases n.contains 0 <;> rfl

theorem May_any (l : List UInt8) (w : World) (hl : l.length ≤ 1000000) :
    Calls Try.prog 20 #[.string ⟨l.toArray⟩] w fun e w' => e = .returned (.bool (mayB l)) ∧ Below w.heap.size w w' := by
  by_cases h0 : l = []
  · subst h0
    go_enter Try.func20, Try.ntmps20
    go_wp2
    go_ret
    exact ⟨rfl, Below.refl _ _⟩
  by_cases h1 : l = [46]
  · subst h1
    go_enter Try.func20, Try.ntmps20
    go_wp2
    go_ret
    exact ⟨rfl, Below.refl _ _⟩
  by_cases h2 : l = [46, 46]
  · subst h2
    go_enter Try.func20, Try.ntmps20
    go_wp2
    go_ret
    exact ⟨rfl, Below.refl _ _⟩
  by_cases h3 : l.length ≤ 255
  · have HM := Lib.hid (mayB_hit l h0 h1 h2 h3)
    have e0 : l.isEmpty = false := by simpa using h0
    have e1 : (l == [46]) = false := by simpa using h1
    have e2 : (l == [46, 46]) = false := by simpa using h2
    clear h0 h1 h2
    go_enter Try.func20, Try.ntmps20
    go_wp2_with fail; refine (ContainsAny_any l _ hl).mono ?_; rintro e w' ⟨rfl, hB⟩
    go_wp2
    go_ret
    exact ⟨ret_bool (by rw [HM.out]), hB⟩
  · have HM : Hid (mayB l = false) := by
      have : decide (l.length ≤ 255) = false := decide_eq_false h3
      (show _ = _); unfold mayB; rw [this]; simp
    have e0 : l.isEmpty = false := by simpa using h0
    have e1 : (l == [46]) = false := by simpa using h1
    have e2 : (l == [46, 46]) = false := by simpa using h2
    clear h0 h1 h2
    go_enter Try.func20, Try.ntmps20
    go_wp2
    go_ret
    exact ⟨ret_bool (by rw [HM.out]), Below.refl _ _⟩

theorem Under_any (p q : List UInt8) (w : World) (hp : p.length ≤ 1000000) (hq : q.length ≤ 1000000) :
    Calls Try.prog 27 #[.string ⟨p.toArray⟩, .string ⟨q.toArray⟩] w fun e w' => e = .returned (.bool (underB p q)) ∧ w = w' := by
  by_cases h0 : p = q
  · subst h0
    have HU : Hid (underB p p = true) := by (show _ = _); simp [underB]
    go_enter Try.func27, Try.ntmps27
    go_wp2
    go_ret
    exact ⟨ret_bool (by rw [HU.out]), rfl⟩
  have e0 : (p == q) = false := by simpa using h0
  by_cases h1 : q = [47]
  · subst h1
    have HU := Lib.hid (under_root p)
    go_enter Try.func27, Try.ntmps27
    go_wp2
    go_ret
    exact ⟨ret_bool (by rw [HU.out]), rfl⟩
  have e1 : (q == [47]) = false := by simpa using h1
  have HU : Hid (underB p q = (q ++ [47]).isPrefixOf p) := by (show _ = _); unfold underB; rw [e0, e1]; rfl
  clear h0 h1
  go_enter Try.func27, Try.ntmps27
  have HX : Hid (Lib.hasPrefix p (ByteArray.mk q.toArray ++ ByteArray.mk #[47]).data.toList = (q ++ [47]).isPrefixOf p) := by
    have hd : (ByteArray.mk q.toArray ++ ByteArray.mk #[47]).data.toList = q ++ [47] := by simp [ByteArray.data_append]
    (show _ = _); rw [hd]; rfl
  go_wp2_with fail
  refine (Try.strings_HasPrefix _ _ _).mono ?_
  rintro e w' ⟨he, rfl⟩
  rw [show Lib.hasPrefix (ByteArray.mk p.toArray).data.toList (ByteArray.mk q.toArray ++ ByteArray.mk #[47]).data.toList = underB p q from HX.out.trans HU.out.symm] at he
  subst he
  go_wp2
  go_ret
  exact ⟨rfl, rfl⟩

theorem field1 (a s : Bool) (v : Value) (w : World) : (Instr.field 26 (.agg (pathV a v s)) 1).run Try.prog w = .ok v w := by kernel_rfl

def PlainPost (w : World) (o : Option (List (List UInt8))) (e : Ending) (w' : World) : Prop :=
  ∃ v, e = .returned (.tuple #[v, .bool o.isSome]) ∧ Strs w' v (o.getD []) ∧ Below w.heap.size w w'
theorem PlainPost.none_ {w w' : World} {o : Option (List (List UInt8))} {e : Ending} (h : o = none) (he : e = .returned (.tuple #[.slice none 0 0, .bool false])) (hb : Below w.heap.size w w') : PlainPost w o e w' :=
  ⟨.slice none 0 0, by rw [he, h]; rfl, by rw [h]; exact Strs.nil_ _, hb⟩

set_option maxHeartbeats 2000000 in
theorem Plain_any (p : List UInt8) (w : World) (hp : p.length ≤ 100000) :
    Calls Try.prog 24 #[.string ⟨p.toArray⟩] w (PlainPost w (plainB p)) := by
  go_enter Try.func24, Try.ntmps24
  go_wp2_with fail; refine (Read_any p (by omega) _).mono ?_; rintro e w1 ⟨v, rfl, hown, h1⟩
  have hs := own_strs hown
  have hsz := Lib.hid (namesB_size p)
  have hct := namesB_count p
  have htot := Lib.hid (namesB_total p)
  clear hown
  obtain ⟨ad, ca, rfl, hm, HA0⟩ := hs
  have HA := Lib.hid HA0
  have HM := Lib.hid hm
  clear HA0 hm
  have hF := field1 (absB p) (slashB p) (.slice ad (namesB p).length ca) w1
  go_wp2
  clear hF
  go_loopw [12] (fun i wr => ∃ k : Nat, k ≤ (namesB p).length ∧ i = .int .i64 k ∧ Aside (∀ j (hj : j < (namesB p).length), j < k → mayB (namesB p)[j] = true) ∧ Below w1.heap.size w1 wr) (fun i _ => (namesB p).length - (intOf i).toNat)
  case atStart => exact ⟨0, Nat.zero_le _, rfl, fun j hj h => absurd h (by omega), Below.refl _ _⟩
  case round =>
    obtain ⟨k, hk, rfl, HT, hBl⟩ := hrel
    by_cases hlt : k < (namesB p).length
    · obtain ⟨ba, oa, rfl, hba, hca⟩ := HA.out (by omega)
      have c1 : wr.cell? ⟨ba, oa + k, none⟩ = some (.string ⟨(namesB p)[k].toArray⟩) := (hBl.cell (p := ⟨ba, oa + k, none⟩) hba).trans (hca k hlt)
      clear hca
      have hks := hsz.out _ (List.getElem_mem hlt)
      go_wp2_with fail; refine (May_any (namesB p)[k] _ (by omega)).mono ?_; rintro e w2 ⟨rfl, hB2⟩
      have hB3 := hBl.trans (hB2.mono hBl.size)
      cases hmk : mayB (namesB p)[k]
      · have HN := Lib.hid (plainB_bad hlt hmk)
        go_wp2
        go_ret2
        exact PlainPost.none_ HN.out rfl (h1.trans (hB3.mono h1.size))
      · have HT2 : Hid (∀ j (hj : j < (namesB p).length), j < k + 1 → mayB (namesB p)[j] = true) := by
          intro j hj h
          rcases Nat.lt_or_ge j k with h' | h'
          · exact HT.out j hj h'
          · obtain rfl : j = k := by omega
            exact hmk
        go_wp2
        go_roundw
        case rel => exact ⟨k + 1, by omega, by go_num, HT2.out, hB3⟩
        case measure => simp [intOf]; omega
    · obtain rfl : k = (namesB p).length := by omega
      have HP := Lib.hid (plainB_ok (l := p) (fun n hn => by
        obtain ⟨j, hj, rfl⟩ := List.getElem_of_mem hn
        exact HT.out j hj hj))
      have hsr : Strs wr (.slice ad (namesB p).length ca) (namesB p) := Strs.below ⟨ad, ca, rfl, HM.out, HA.out⟩ hBl
      go_wp2_with fail; refine (Join_any (namesB p) _ _ hsr (by omega) (by have := htot.out; omega)).mono ?_; rintro e w2 ⟨rfl, hB2⟩
      have hB3 := hBl.trans (hB2.mono hBl.size)
      have hs2 := hsr.below hB2
      cases hj : (joinB (namesB p) == p)
      · have HN : Hid (plainB p = none) := by (show _ = _); rw [HP.out, hj]; rfl
        go_wp2
        go_ret2
        exact PlainPost.none_ HN.out rfl (h1.trans (hB3.mono h1.size))
      · have HN : Hid (plainB p = some (namesB p)) := by (show _ = _); rw [HP.out, hj]; rfl
        go_wp2
        go_ret2
        exact ⟨_, by rw [HN.out]; rfl, by rw [HN.out]; exact hs2, h1.trans (hB3.mono h1.size)⟩
end Go.Proofs.Ytgonjgbdggpedaa
