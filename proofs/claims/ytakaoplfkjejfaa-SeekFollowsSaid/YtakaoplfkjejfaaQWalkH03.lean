/- Walks: the document's Read, Base, Put, Join. -/
import Derived.Test.YtakaoplfkjejfaaQWalkG03
namespace Go.Proofs.Ytakaoplfkjejfaa
open Go.RowKit

abbrev pathR (a : Bool) (v : Value) (s : Bool) : Array Value := #[.bool a, v, .bool s]
theorem cat (a b : List UInt8) : ByteArray.mk a.toArray ++ ByteArray.mk b.toArray = ⟨(a ++ b).toArray⟩ := by apply ByteArray.ext; simp [ByteArray.data_append]
theorem cat47 (a : List UInt8) : ByteArray.mk a.toArray ++ ByteArray.mk #[47] = ⟨(a ++ [47]).toArray⟩ := cat a [47]

theorem refJoin_any (ns : List (List UInt8)) (v : Value) (w : World) (hv : Strs w v ns) (hl : ns.length ≤ 1000000) (hj : (tailB ns).length ≤ 100000000) :
    Calls Try.prog 46 #[v] w fun e w' => e = .returned (.string ⟨(joinB ns).toArray⟩) ∧ w = w' := by
  obtain ⟨ad, ca, rfl, hm, HA0⟩ := hv
  have HA := Lib.hid HA0
  clear HA0 hm
  by_cases h0 : 0 < ns.length
  · have hne : ((ns.length : Int) == 0) = false := by rw [beq_eq_false_iff_ne]; omega
    have HJ := Lib.hid (joinB_tail (ns := ns) (by rintro rfl; simp at h0))
    go_enter Try.func46, Try.ntmps46
    go_wp2
    go_loop [3, 4] (fun s i => ∃ k : Nat, k ≤ ns.length ∧ i = .int .i64 k ∧ s = .string ⟨(tailB (ns.take k)).toArray⟩) (fun _ i => ns.length - (intOf i).toNat)
    case atStart => exact ⟨0, Nat.zero_le _, rfl, rfl⟩
    case round =>
      obtain ⟨k, hk, rfl, rfl⟩ := hrel
      by_cases hlt : k < ns.length
      · obtain ⟨ba, oa, rfl, hba, hca⟩ := HA.out h0
        have c1 : w.cell? ⟨ba, oa + k, none⟩ = some (.string ⟨ns[k].toArray⟩) := hca k hlt
        clear hca
        have HN : Hid (tailB (ns.take (k + 1)) = tailB (ns.take k) ++ 47 :: ns[k]) := by (show _ = _); rw [List.take_succ_eq_append_getElem hlt, tailB_snoc]
        have hlen := Nat.le_trans (tailB_take ns (k + 1)) hj
        rw [HN.out, List.length_append, List.length_cons] at hlen
        go_wp2
        go_round
        case rel => exact ⟨k + 1, by omega, by go_num, by rw [HN.out, cat47, cat]; simp⟩
        case measure => simp [intOf]; omega
      · obtain rfl : k = ns.length := by omega
        rw [List.take_length]
        go_wp2
        go_ret
        exact ⟨ret_str (by rw [HJ.out]), rfl⟩
  · obtain rfl : ns = [] := List.eq_nil_of_length_eq_zero (by omega)
    go_enter Try.func46, Try.ntmps46
    go_wp2
    go_ret
    exact ⟨rfl, rfl⟩

theorem interB_nextR (ns : List (List UInt8)) (k : Nat) (h : k < ns.length) : interB (ns.take (k + 1)) = if k = 0 then ns[k] else interB (ns.take k) ++ 47 :: ns[k] := by
  rw [List.take_succ_eq_append_getElem h, interB_snoc]
  by_cases hk : k = 0
  · subst hk; simp
  · rw [if_neg hk, if_neg (by cases ns <;> cases k <;> simp_all)]

end Go.Proofs.Ytakaoplfkjejfaa
