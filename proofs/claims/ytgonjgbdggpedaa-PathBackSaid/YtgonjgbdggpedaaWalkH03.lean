/- Walks: the document's Read, Base, Put, Join. -/
import Derived.Test.YtgonjgbdggpedaaWalkG03
namespace Go.Proofs.Ytgonjgbdggpedaa
open Go.RowKit

abbrev pathR (a : Bool) (v : Value) (s : Bool) : Array Value := #[.bool a, v, .bool s]
theorem cat (a b : List UInt8) : ByteArray.mk a.toArray ++ ByteArray.mk b.toArray = ⟨(a ++ b).toArray⟩ := by apply ByteArray.ext; simp [ByteArray.data_append]
theorem cat47 (a : List UInt8) : ByteArray.mk a.toArray ++ ByteArray.mk #[47] = ⟨(a ++ [47]).toArray⟩ := cat a [47]

theorem refBase_any (p : List UInt8) (w : World) (hp : p.length ≤ 1000000) :
    Calls Try.prog 14 #[.string ⟨p.toArray⟩] w fun e w' => e = .returned (.string ⟨(baseB p).toArray⟩) ∧ Below w.heap.size w w' := by
  have hct := namesB_count p
  by_cases hn : 0 < (namesB p).length
  · have hb : Hid (baseB p = (namesB p)[(namesB p).length - 1]) := by
      (show _ = _); unfold baseB; rw [List.getLast?_eq_getElem?, List.getElem?_eq_getElem (by omega)]; rfl
    go_enter Try.func14, Try.ntmps14
    go_wp2_with fail; refine (refNames_any p _ hp).mono ?_; rintro e w1 ⟨v, rfl, hown, h1⟩
    obtain ⟨ad, ca, rfl, hm, HA⟩ := own_strs hown
    obtain ⟨ba, oa, rfl, hba, hca⟩ := HA hn
    have c1 : w1.cell? ⟨ba, oa + ((namesB p).length - 1), none⟩ = some (.string ⟨(namesB p)[(namesB p).length - 1].toArray⟩) := hca _ (by omega)
    clear hca HA hm hown
    have k1 : (0 : Int) ≤ ((namesB p).length : Int) - 1 := by omega
    have k2 : ((namesB p).length : Int) - 1 < ((namesB p).length : Int) := by omega
    have k3 : (((namesB p).length : Int) - 1).toNat = (namesB p).length - 1 := by omega
    go_wp2
    go_ret
    exact ⟨ret_str hb.out.symm, h1⟩
  · have hne : namesB p = [] := List.eq_nil_of_length_eq_zero (by omega)
    have hb := baseB_none hne
    rw [namesB_none_abs hne] at hb
    by_cases h0 : p = []
    · subst h0
      go_enter Try.func14, Try.ntmps14
      go_wp2_with fail; refine (refNames_any [] _ (by decide)).mono ?_; rintro e w1 ⟨v, rfl, hown, h1⟩
      rw [hne] at hown
      obtain ⟨ad, ca, rfl, hm, HA⟩ := own_strs (l := []) hown
      clear hown HA hm
      go_wp2
      go_ret
      exact ⟨ret_str (by rw [hb]; rfl), h1⟩
    · have e0 : p.isEmpty = false := by simpa using h0
      rw [e0] at hb
      have HB := Lib.hid hb
      clear hb h0
      go_enter Try.func14, Try.ntmps14
      go_wp2_with fail; refine (refNames_any p _ hp).mono ?_; rintro e w1 ⟨v, rfl, hown, h1⟩
      rw [hne] at hown
      obtain ⟨ad, ca, rfl, hm, HA⟩ := own_strs (l := []) hown
      clear hown HA hm
      go_wp2
      go_ret
      exact ⟨ret_str (by rw [HB.out]; rfl), h1⟩

theorem refJoin_any (ns : List (List UInt8)) (v : Value) (w : World) (hv : Strs w v ns) (hl : ns.length ≤ 1000000) (hj : (tailB ns).length ≤ 100000000) :
    Calls Try.prog 19 #[v] w fun e w' => e = .returned (.string ⟨(joinB ns).toArray⟩) ∧ w = w' := by
  obtain ⟨ad, ca, rfl, hm, HA0⟩ := hv
  have HA := Lib.hid HA0
  clear HA0 hm
  by_cases h0 : 0 < ns.length
  · have hne : ((ns.length : Int) == 0) = false := by rw [beq_eq_false_iff_ne]; omega
    have HJ := Lib.hid (joinB_tail (ns := ns) (by rintro rfl; simp at h0))
    go_enter Try.func19, Try.ntmps19
    go_wp2
    go_loop [3, 4] (fun s i => ∃ k : Nat, k ≤ ns.length ∧ i = .int .i64 k ∧ s = .string ⟨(tailB (ns.take k)).toArray⟩) (fun _ i => ns.length - (intOf i).toNat)
    case atStart => exact ⟨0, Nat.zero_le _, rfl, rfl⟩
    case round =>
      obtain ⟨k, hk, rfl, rfl⟩ := hrel
      by_cases hlt : k < ns.length
      · obtain ⟨ba, oa, rfl, hba, hca⟩ := HA.out h0
        have c1 : w.cell? ⟨ba, oa + k, none⟩ = some (.string ⟨ns[k].toArray⟩) := hca k hlt
        clear hca
        have HN : Hid (tailB (ns.take (k + 1)) = tailB (ns.take k) ++ 47 :: ns[k]) := by (show _ = _); rw [List.take_succ_eq_append_getElem hlt, tailB_snoc]
        have hlen := Nat.le_trans (tailB_take ns (k + 1)) hj
        rw [HN.out, List.length_append, List.length_cons] at hlen
        go_wp2
        go_round
        case rel => exact ⟨k + 1, by omega, by go_num, by rw [HN.out, cat47, cat]; simp⟩
        case measure => simp [intOf]; omega
      · obtain rfl : k = ns.length := by omega
        rw [List.take_length]
        go_wp2
        go_ret
        exact ⟨ret_str (by rw [HJ.out]), rfl⟩
  · obtain rfl : ns = [] := List.eq_nil_of_length_eq_zero (by omega)
    go_enter Try.func19, Try.ntmps19
    go_wp2
    go_ret
    exact ⟨rfl, rfl⟩

theorem interB_nextR (ns : List (List UInt8)) (k : Nat) (h : k < ns.length) : interB (ns.take (k + 1)) = if k = 0 then ns[k] else interB (ns.take k) ++ 47 :: ns[k] := by
  rw [List.take_succ_eq_append_getElem h, interB_snoc]
  by_cases hk : k = 0
  · subst hk; simp
  · rw [if_neg hk, if_neg (by cases ns <;> cases k <;> simp_all)]

set_option maxHeartbeats 2000000 in
theorem refPut_any (a s : Bool) (ns : List (List UInt8)) (v : Value) (w : World) (hv : Strs w v ns) (hl : ns.length ≤ 1000000) (hj : (interB ns).length ≤ 100000000) :
    Calls Try.prog 17 #[.agg (pathR a v s)] w fun e w' => e = .returned (.string ⟨(putB a ns s).toArray⟩) ∧ Below w.heap.size w w' := by
  obtain ⟨ad, ca, rfl, hm, HA0⟩ := hv
  have HA := Lib.hid HA0
  have HJ := Lib.hid hj
  clear HA0 hm hj
  obtain ⟨pre, hpre⟩ : ∃ pre : List UInt8, (if a then [47] else []) = pre := ⟨_, rfl⟩
  have hpl : pre.length ≤ 1 := by rw [← hpre]; cases a <;> decide
  have HP := Lib.hid (show putB a ns s = pre ++ interB ns ++ (if s && !ns.isEmpty then [47] else []) from by unfold putB; rw [hpre])
  have hput : ∀ st : Bool, st = a → True := fun _ _ => trivial
  clear hput
  cases a
  · obtain rfl : pre = [] := hpre.symm
    go_enter Try.func17, Try.ntmps17
    go_wp2
    go_loop [3, 4] (fun s3 s4 => ∃ k : Nat, k ≤ ns.length ∧ s4 = .int .i64 k ∧ s3 = .string ⟨([] ++ interB (ns.take k)).toArray⟩) (fun _ i => ns.length - (intOf i).toNat)
    case atStart => exact ⟨0, Nat.zero_le _, rfl, rfl⟩
    case round =>
      obtain ⟨k, hk, rfl, rfl⟩ := hrel
      by_cases hlt : k < ns.length
      · obtain ⟨ba, oa, rfl, hba, hca⟩ := HA.out (by omega)
        have c1 : w.cell? ⟨ba, oa + k, none⟩ = some (.string ⟨ns[k].toArray⟩) := hca k hlt
        clear hca
        have HN := Lib.hid (interB_nextR ns k hlt)
        have hlen := Nat.le_trans (interB_take ns (k + 1)) HJ.out
        by_cases h0 : 0 < k
        · have hkz : Hid (¬ k = 0) := by (show ¬ _); omega
          have HN2 := Lib.hid (HN.out.trans (if_neg hkz.out))
          rw [HN2.out, List.length_append, List.length_cons] at hlen
          go_wp2
          go_round
          case rel => exact ⟨k + 1, by omega, by go_num, by rw [HN2.out, cat47, cat]; simp⟩
          case measure => simp [intOf]; omega
        · obtain rfl : k = 0 := by omega
          have HN2 := Lib.hid (HN.out.trans (if_pos rfl))
          rw [HN2.out] at hlen
          have c0 : w.cell? ⟨ba, oa, none⟩ = some (.string ⟨ns[0].toArray⟩) := c1
          clear c1
          have hz : (interB []).length = 0 := rfl
          go_wp2
          go_round
          case rel => exact ⟨1, by omega, by go_num, by rw [HN2.out, cat]; simp [interB]⟩
          case measure => simp [intOf]; omega
      · obtain rfl : k = ns.length := by omega
        rw [List.take_length]
        have hlen := HJ.out
        cases s
        · go_wp2
          go_ret
          exact ⟨by rw [HP.out]; (try simp), (Below.refl _ w).alloc (Nat.le_refl _) _⟩
        · by_cases hn : 0 < ns.length
          · have he : ns.isEmpty = false := by rw [List.isEmpty_eq_false_iff]; rintro rfl; simp at hn
            have HP2 : Hid (putB false ns true = [] ++ interB ns ++ [47]) := by (show _ = _); rw [HP.out, he]; rfl
            go_wp2
            go_ret
            exact ⟨by rw [HP2.out, cat47]; (try simp), (Below.refl _ w).alloc (Nat.le_refl _) _⟩
          · have he : ns.isEmpty = true := by rw [List.isEmpty_iff]; exact List.eq_nil_of_length_eq_zero (by omega)
            have HP2 : Hid (putB false ns true = [] ++ interB ns) := by (show _ = _); rw [HP.out, he]; simp
            go_wp2
            go_ret
            exact ⟨by rw [HP2.out]; (try simp), (Below.refl _ w).alloc (Nat.le_refl _) _⟩
  · obtain rfl : pre = [47] := hpre.symm
    go_enter Try.func17, Try.ntmps17
    go_wp2
    go_loop [3, 4] (fun s3 s4 => ∃ k : Nat, k ≤ ns.length ∧ s4 = .int .i64 k ∧ s3 = .string ⟨([47] ++ interB (ns.take k)).toArray⟩) (fun _ i => ns.length - (intOf i).toNat)
    case atStart => exact ⟨0, Nat.zero_le _, rfl, rfl⟩
    case round =>
      obtain ⟨k, hk, rfl, rfl⟩ := hrel
      by_cases hlt : k < ns.length
      · obtain ⟨ba, oa, rfl, hba, hca⟩ := HA.out (by omega)
        have c1 : w.cell? ⟨ba, oa + k, none⟩ = some (.string ⟨ns[k].toArray⟩) := hca k hlt
        clear hca
        have HN := Lib.hid (interB_nextR ns k hlt)
        have hlen := Nat.le_trans (interB_take ns (k + 1)) HJ.out
        by_cases h0 : 0 < k
        · have hkz : Hid (¬ k = 0) := by (show ¬ _); omega
          have HN2 := Lib.hid (HN.out.trans (if_neg hkz.out))
          rw [HN2.out, List.length_append, List.length_cons] at hlen
          go_wp2
          go_round
          case rel => exact ⟨k + 1, by omega, by go_num, by rw [HN2.out, cat47, cat]; simp⟩
          case measure => simp [intOf]; omega
        · obtain rfl : k = 0 := by omega
          have HN2 := Lib.hid (HN.out.trans (if_pos rfl))
          rw [HN2.out] at hlen
          have c0 : w.cell? ⟨ba, oa, none⟩ = some (.string ⟨ns[0].toArray⟩) := c1
          clear c1
          have hz : (interB []).length = 0 := rfl
          go_wp2
          go_round
          case rel => exact ⟨1, by omega, by go_num, by rw [HN2.out, cat]; simp [interB]⟩
          case measure => simp [intOf]; omega
      · obtain rfl : k = ns.length := by omega
        rw [List.take_length]
        have hlen := HJ.out
        cases s
        · go_wp2
          go_ret
          exact ⟨by rw [HP.out]; (try simp), (Below.refl _ w).alloc (Nat.le_refl _) _⟩
        · by_cases hn : 0 < ns.length
          · have he : ns.isEmpty = false := by rw [List.isEmpty_eq_false_iff]; rintro rfl; simp at hn
            have HP2 : Hid (putB true ns true = [47] ++ interB ns ++ [47]) := by (show _ = _); rw [HP.out, he]; rfl
            go_wp2
            go_ret
            exact ⟨by rw [HP2.out, cat47]; (try simp), (Below.refl _ w).alloc (Nat.le_refl _) _⟩
          · have he : ns.isEmpty = true := by rw [List.isEmpty_iff]; exact List.eq_nil_of_length_eq_zero (by omega)
            have HP2 : Hid (putB true ns true = [47] ++ interB ns) := by (show _ = _); rw [HP.out, he]; simp
            go_wp2
            go_ret
            exact ⟨by rw [HP2.out]; (try simp), (Below.refl _ w).alloc (Nat.le_refl _) _⟩
end Go.Proofs.Ytgonjgbdggpedaa
