/- Walks: the document's Names, Read, Put, Join, Base. -/
import Derived.Test.YtakaoplfkjejfaaQ
import Derived.Test.YtakaoplfkjejfaaChecked
import Derived.Deep.LoopGhost
import Derived.BigQuiet
import Derived.StillTailTactics
import Derived.Lib.Strings
namespace Go.Proofs.Ytakaoplfkjejfaa
open Go.RowKit

theorem Try.infoS2 : (Try.prog.info? 9).map (fun i => (i.zero, i.size, i.bytes)) = some (some (.string ByteArray.empty), 1, 16) := by kernel_rfl

theorem drop_cons {l : List UInt8} {i : Nat} (h : i < l.length) : l.drop i = l[i] :: l.drop (i + 1) := List.drop_eq_getElem_cons h

set_option maxHeartbeats 4000000 in
theorem refNames_any (p : List UInt8) (w : World) (hp : p.length ≤ 1000000) :
    Calls Try.prog 45 #[.string ⟨p.toArray⟩] w fun e w' => ∃ v, e = .returned v ∧ w'.ownsRow w.heap.size 9 1 v (namesB p).length (strsV (namesB p)) ∧ Below w.heap.size w w' := by
  obtain ⟨is, hsi, hs0, hs1, hs2⟩ := info_parts Try.infoS2
  go_enter Try.func45, Try.ntmps45
  go_wp2
  go_loopg [3, 4, 5] (p.length + 1) (fun g s3 s4 s5 wr => ∃ (i : Nat) (ns : List (List UInt8)) (a : List UInt8), i + g = p.length + 1 ∧ s5 = .int .i64 i ∧ s4 = .string ⟨a.toArray⟩ ∧ a.length + ns.length ≤ i ∧ wr.ownsRow w.heap.size 9 1 s3 ns.length (strsV ns) ∧
    Aside ((i ≤ p.length → namesB p = ns ++ namesA a (p.drop i)) ∧ (p.length < i → namesB p = ns)) ∧ Below w.heap.size w wr)
  case atStart => exact ⟨0, [], [], by omega, rfl, rfl, by simp, World.ownsRow_nil _ _ _ _, ⟨fun _ => by simp [namesB], fun h => absurd h (by omega)⟩, Below.refl _ _⟩
  case round =>
    obtain ⟨i, ns, a, hig, rfl, rfl, hal, hown, HN, hB⟩ := hrel
    by_cases hle : i ≤ p.length
    · obtain ⟨g, rfl⟩ : ∃ g, gk = g + 1 := ⟨gk - 1, by omega⟩
      have HN1 := Lib.hid (HN.out.1 hle)
      clear HN
      by_cases hlt : i < p.length
      · cases hc : ((p[i].toNat : Int) != 47)
        · have hc2 : p[i] = 47 := UInt8.toNat_inj.1 (by simp at hc; simp; omega)
          have HN2 := Lib.hid (HN1.out.trans (by rw [drop_cons hlt, hc2, namesA_slash]))
          by_cases ha : a = []
          · subst ha
            go_wp2
            go_roundg g
            case measure => omega
            case rel => exact ⟨i + 1, ns, [], by omega, by go_num, rfl, by simp at hal ⊢; omega, hown, ⟨fun _ => by rw [HN2.out, atomB_nil]; rfl, fun h => absurd h (by omega)⟩, hB⟩
          · have ha0 : a.isEmpty = false := by simpa using ha
            have hapos : 0 < a.length := List.length_pos_iff.2 ha
            go_wp2_with (at_builtin; refine wpList_append_new rfl (.tmp 31) (.tmp 33) 56 9 rfl Try.underlying56 hsi hs0 hs1 hs2 rfl (by decide) (by decide) w.heap.size _ 1 rfl rfl hown rfl (by simp [Value.oneCell']) (by omega) hB.size ?_; intro v4 w4 hown4 hb4)
            go_roundg g
            case measure => omega
            case rel => exact ⟨i + 1, ns ++ [a], [], by omega, by go_num, rfl, by simp; omega, by simpa [strsV] using hown4, ⟨fun _ => by rw [HN2.out, atomB_cons ha]; simp, fun h => absurd h (by omega)⟩, hB.trans hb4⟩
        · have hc2 : p[i] ≠ 47 := by intro e; rw [e] at hc; exact absurd hc (by decide)
          have HN2 := Lib.hid (HN1.out.trans (by rw [drop_cons hlt, namesA_byte _ _ hc2]))
          have HX : Hid (ByteArray.mk a.toArray ++ (ByteArray.mk p.toArray).extract i (i + 1) = ⟨(a ++ [p[i]]).toArray⟩) := by
            (show _ = _); rw [Lib.extract_eq]; apply ByteArray.ext; simp [ByteArray.data_append, Nat.add_sub_cancel_left, List.take_one, List.head?_drop, hlt]
          have k1 : (0 : Int) ≤ (i : Int) := by omega
          have k2 : (i : Int) ≤ (i : Int) + 1 := by omega
          have k3 : (i : Int) + 1 ≤ (p.length : Int) := by omega
          go_wp2
          go_roundg g
          case measure => omega
          case rel => exact ⟨i + 1, ns, a ++ [p[i]], by omega, by go_num, by rw [HX.out], by simp; omega, hown, ⟨fun _ => HN2.out, fun h => absurd h (by omega)⟩, hB⟩
      · obtain rfl : i = p.length := by omega
        have HN2 := Lib.hid (HN1.out.trans (by rw [List.drop_length, namesA_nil]))
        by_cases ha : a = []
        · subst ha
          go_wp2
          go_roundg g
          case measure => omega
          case rel => exact ⟨p.length + 1, ns, [], by omega, by go_num, rfl, by simp at hal ⊢; omega, hown, ⟨fun h => absurd h (by omega), fun _ => by rw [HN2.out, atomB_nil, List.append_nil]⟩, hB⟩
        · have ha0 : a.isEmpty = false := by simpa using ha
          have hapos : 0 < a.length := List.length_pos_iff.2 ha
          go_wp2_with (at_builtin; refine wpList_append_new rfl (.tmp 31) (.tmp 33) 56 9 rfl Try.underlying56 hsi hs0 hs1 hs2 rfl (by decide) (by decide) w.heap.size _ 1 rfl rfl hown rfl (by simp [Value.oneCell']) (by omega) hB.size ?_; intro v4 w4 hown4 hb4)
          go_roundg g
          case measure => omega
          case rel => exact ⟨p.length + 1, ns ++ [a], [], by omega, by go_num, rfl, by simp; omega, by simpa [strsV] using hown4, ⟨fun h => absurd h (by omega), fun _ => by rw [HN2.out, atomB_cons ha]⟩, hB.trans hb4⟩
    · have HN2 := Lib.hid (HN.out.2 (by omega))
      go_wp2
      go_ret
      exact ⟨_, rfl, by rw [HN2.out]; exact hown, hB⟩
end Go.Proofs.Ytakaoplfkjejfaa
