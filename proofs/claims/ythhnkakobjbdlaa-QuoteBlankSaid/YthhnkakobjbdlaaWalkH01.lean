/- Walks: the document's own Split. -/
import Derived.Test.YthhnkakobjbdlaaWalkF01
import Derived.Test.YthhnkakobjbdlaaWalkG01
set_option linter.unusedVariables false
set_option linter.unusedSimpArgs false
namespace Go.Proofs.Ythhnkakobjbdlaa
open Go.RowKit

theorem rcut_keep {l pc : List UInt8} {ws : List (List UInt8)} {i : Nat} {ins : Bool} (h : i < l.length) (hc : ¬ (l[i] = 32 ∧ ins = false)) (hX : cutF false l = ws ++ consHead pc (cutF ins (l.drop i))) :
    cutF false l = ws ++ consHead (pc ++ [l[i]]) (cutF (if l[i] = 34 then !ins else ins) (l.drop (i + 1))) := by
  rw [hX, consHead_append, List.drop_eq_getElem_cons h, cutF, if_neg hc]
theorem rcut_at {l pc : List UInt8} {ws : List (List UInt8)} {i : Nat} (h : i < l.length) (hc : l[i] = 32) (hX : cutF false l = ws ++ consHead pc (cutF false (l.drop i))) :
    cutF false l = ws ++ pc :: cutF false (l.drop (i + 1)) := by
  rw [hX, List.drop_eq_getElem_cons h, cutF, if_pos ⟨hc, rfl⟩]; simp [consHead]
theorem rcut_end {l pc : List UInt8} {ws : List (List UInt8)} {ins : Bool} (hX : cutF false l = ws ++ consHead pc (cutF ins (l.drop l.length))) : cutF false l = ws ++ [pc] := by
  rw [hX, List.drop_length]; simp [cutF, consHead]
theorem take1_drop (l : List UInt8) (i : Nat) (h : i < l.length) : (l.drop i).take 1 = [l[i]] := by rw [List.drop_eq_getElem_cons h]; rfl
def RSplit (l : List UInt8) (ws : List (List UInt8)) (pc : List UInt8) (ins : Bool) (i : Nat) : Prop :=
  (i ≤ l.length → cutF false l = ws ++ consHead pc (cutF ins (l.drop i))) ∧ (i = l.length + 1 → cutF false l = ws) ∧ ∀ x ∈ ws, wordB x = true

set_option maxHeartbeats 2000000 in
theorem refSplit_any (l : List UInt8) (w : World) (hl : l.length ≤ 100000) : Calls Try.prog 17 #[.string ⟨l.toArray⟩] w (StrsPost w (splitB l)) := by
  by_cases hn : l = []
  · subst hn
    go_enter Try.func17, Try.ntmps17
    go_wp2
    go_ret2
    exact ⟨_, rfl, World.ownsRow_nil _ _ _ _, Below.refl _ _⟩
  · obtain ⟨is, hsi, hs0, hs1, hs2⟩ := info_parts Try.infoS
    have hne : l.isEmpty = false := by simpa using hn
    go_enter Try.func17, Try.ntmps17
    go_wp2
    go_loopg [4, 5, 6, 7] (l.length + 1) (fun g s4 s5 s6 s7 wr => ∃ (ws : List (List UInt8)) (pc : List UInt8) (ins : Bool) (i : Nat), s5 = .string ⟨pc.toArray⟩ ∧ s6 = .bool ins ∧ s7 = .int .i64 i ∧ i + g = l.length + 1 ∧ ws.length + pc.length ≤ i ∧ wr.ownsRow w.heap.size 9 1 s4 ws.length (strsV ws) ∧ Aside (RSplit l ws pc ins i) ∧ Below w.heap.size w wr)
    case atStart => exact ⟨[], [], false, 0, rfl, rfl, rfl, by omega, by simp, World.ownsRow_nil _ _ _ _, ⟨fun _ => by simp [consHead_nil _ (cutF_ne _ _)], fun h => absurd h (by omega), by simp⟩, Below.refl _ _⟩
    case round =>
      obtain ⟨ws, pc, ins, i, rfl, rfl, rfl, hig, hlen, hown, HR, hb⟩ := hrel
      by_cases hle : i ≤ l.length
      · obtain ⟨G, rfl⟩ : ∃ G, gk = G + 1 := ⟨gk - 1, by omega⟩
        by_cases hlt : i < l.length
        · have hne1 : ((i : Int) == (l.length : Int)) = false := by simp; omega
          cases h34 : ((l[i].toNat : Int) == 34)
          · have k34 : ¬ l[i] = 34 := by intro e; rw [e] at h34; exact absurd h34 (by decide)
            cases h32 : ((l[i].toNat : Int) == 32)
            · have k32 : ¬ l[i] = 32 := by intro e; rw [e] at h32; exact absurd h32 (by decide)
              have HK := Lib.hid (rcut_keep hlt (fun h => k32 h.1) (HR.out.1 hle))
              go_wp2
              go_roundg G
              case measure => omega
              case rel => exact ⟨ws, pc ++ [l[i]], ins, i + 1, by simp [take1_drop l i hlt], rfl, by go_num, by omega, by simp; omega, hown, ⟨fun _ => by (have := HK.out; rw [if_neg k34] at this; exact this), fun h => absurd h (by omega), HR.out.2.2⟩, hb⟩
            · have k32 : l[i] = 32 := UInt8.toNat_inj.1 (by simp at h32; simp; omega)
              cases ins
              · have HK := Lib.hid (rcut_at hlt k32 (HR.out.1 hle))
                have hH := HR.out.2.2
                have HW0 := Lib.hid hH
                clear hH k32 k34
                go_wp2_with fail
                refine (refUnquote_any pc _ (by omega)).mono ?_
                rintro e w2 ⟨rfl, hB⟩
                have hb2 := hb.trans (hB.mono hb.size)
                have hown2 := own_keep hown hB
                clear hB hown hb
                unfold unqV
                cases hu : (unquoteB pc).isSome
                · go_wp2_with fail
                  refine (refPlain_any pc _ (by omega)).mono ?_
                  rintro e w3 ⟨rfl, rfl⟩
                  cases hp : plainB pc
                  · have HS := Lib.hid (split_no hn HK.out (show wordB pc = false by simp [wordB, hu, hp]))
                    clear HK hown2 HR
                    go_wp2
                    go_ret2
                    exact StrsPost.none_ HS.out rfl hb2
                  · have HW := Lib.hid (show wordB pc = true by simp [wordB, hp])
                    go_wp2_with (at_builtin; refine wpList_append_new rfl (.tmp 44) (.tmp 46) 27 9 rfl Try.underlying27 hsi hs0 hs1 hs2 rfl (by decide) (by decide) w.heap.size _ 1 rfl rfl hown2 rfl (by simp [Value.oneCell']) (by omega) hb2.size ?_; intro v4 w4 hown4 hb4)
                    go_roundg G
                    case measure => omega
                    case rel =>
                      exact ⟨ws ++ [pc], [], false, i + 1, rfl, rfl, by go_num, by omega, by simp; omega, by simpa [strsV] using hown4, ⟨fun _ => by rw [HK.out]; simp [consHead_nil _ (cutF_ne _ _)], fun h => absurd h (by omega), fun x hx => by
                        rcases List.mem_append.1 hx with h | h
                        · exact HW0.out x h
                        · rw [List.mem_singleton.1 h]; exact HW.out⟩, hb2.trans hb4⟩
                · have HW := Lib.hid (show wordB pc = true by simp [wordB, hu])
                  go_wp2_with (at_builtin; refine wpList_append_new rfl (.tmp 44) (.tmp 46) 27 9 rfl Try.underlying27 hsi hs0 hs1 hs2 rfl (by decide) (by decide) w.heap.size _ 1 rfl rfl hown2 rfl (by simp [Value.oneCell']) (by omega) hb2.size ?_; intro v4 w4 hown4 hb4)
                  go_roundg G
                  case measure => omega
                  case rel =>
                    exact ⟨ws ++ [pc], [], false, i + 1, rfl, rfl, by go_num, by omega, by simp; omega, by simpa [strsV] using hown4, ⟨fun _ => by rw [HK.out]; simp [consHead_nil _ (cutF_ne _ _)], fun h => absurd h (by omega), fun x hx => by
                      rcases List.mem_append.1 hx with h | h
                      · exact HW0.out x h
                      · rw [List.mem_singleton.1 h]; exact HW.out⟩, hb2.trans hb4⟩
              · have HK := Lib.hid (rcut_keep hlt (by simp) (HR.out.1 hle))
                go_wp2
                go_roundg G
                case measure => omega
                case rel => exact ⟨ws, pc ++ [l[i]], true, i + 1, by simp [take1_drop l i hlt], rfl, by go_num, by omega, by simp; omega, hown, ⟨fun _ => by (have := HK.out; rw [if_neg k34] at this; exact this), fun h => absurd h (by omega), HR.out.2.2⟩, hb⟩
          · have h32 : ((l[i].toNat : Int) == 32) = false := by simp at h34 ⊢; omega
            have k34 : l[i] = 34 := UInt8.toNat_inj.1 (by simp at h34; simp; omega)
            have HK := Lib.hid (rcut_keep hlt (fun h => by rw [k34] at h; exact absurd h.1 (by decide)) (HR.out.1 hle))
            have K34 := Lib.hid k34
            clear k34
            go_wp2
            go_roundg G
            case measure => omega
            case rel => exact ⟨ws, pc ++ [l[i]], !ins, i + 1, by simp [take1_drop l i hlt], rfl, by go_num, by omega, by simp; omega, hown, ⟨fun _ => by (have := HK.out; rw [if_pos K34.out] at this; exact this), fun h => absurd h (by omega), HR.out.2.2⟩, hb⟩
        · obtain rfl : i = l.length := by omega
          have HK := Lib.hid (rcut_end (HR.out.1 hle))
          have hH := HR.out.2.2
          have HW0 := Lib.hid hH
          clear hH
          go_wp2_with fail
          refine (refUnquote_any pc _ (by omega)).mono ?_
          rintro e w2 ⟨rfl, hB⟩
          have hb2 := hb.trans (hB.mono hb.size)
          have hown2 := own_keep hown hB
          clear hB hown hb
          unfold unqV
          cases hu : (unquoteB pc).isSome
          · go_wp2_with fail
            refine (refPlain_any pc _ (by omega)).mono ?_
            rintro e w3 ⟨rfl, rfl⟩
            cases hp : plainB pc
            · have HS := Lib.hid (split_no (t := []) hn HK.out (show wordB pc = false by simp [wordB, hu, hp]))
              clear HK hown2 HR
              go_wp2
              go_ret2
              exact StrsPost.none_ HS.out rfl hb2
            · have HW := Lib.hid (show wordB pc = true by simp [wordB, hp])
              go_wp2_with (at_builtin; refine wpList_append_new rfl (.tmp 44) (.tmp 46) 27 9 rfl Try.underlying27 hsi hs0 hs1 hs2 rfl (by decide) (by decide) w.heap.size _ 1 rfl rfl hown2 rfl (by simp [Value.oneCell']) (by omega) hb2.size ?_; intro v4 w4 hown4 hb4)
              go_roundg G
              case measure => omega
              case rel =>
                exact ⟨ws ++ [pc], [], ins, l.length + 1, rfl, rfl, by go_num, by omega, by simp; omega, by simpa [strsV] using hown4, ⟨fun h => absurd h (by omega), fun _ => HK.out, fun x hx => by
                  rcases List.mem_append.1 hx with h | h
                  · exact HW0.out x h
                  · rw [List.mem_singleton.1 h]; exact HW.out⟩, hb2.trans hb4⟩
          · have HW := Lib.hid (show wordB pc = true by simp [wordB, hu])
            go_wp2_with (at_builtin; refine wpList_append_new rfl (.tmp 44) (.tmp 46) 27 9 rfl Try.underlying27 hsi hs0 hs1 hs2 rfl (by decide) (by decide) w.heap.size _ 1 rfl rfl hown2 rfl (by simp [Value.oneCell']) (by omega) hb2.size ?_; intro v4 w4 hown4 hb4)
            go_roundg G
            case measure => omega
            case rel =>
              exact ⟨ws ++ [pc], [], ins, l.length + 1, rfl, rfl, by go_num, by omega, by simp; omega, by simpa [strsV] using hown4, ⟨fun h => absurd h (by omega), fun _ => HK.out, fun x hx => by
                rcases List.mem_append.1 hx with h | h
                · exact HW0.out x h
                · rw [List.mem_singleton.1 h]; exact HW.out⟩, hb2.trans hb4⟩
      · obtain rfl : i = l.length + 1 := by omega
        have HS := Lib.hid (split_yes hn (HR.out.2.1 rfl) HR.out.2.2)
        go_wp2
        go_ret2
        exact ⟨_, by rw [HS.out]; rfl, by rw [HS.out]; exact hown, hb⟩
end Go.Proofs.Ythhnkakobjbdlaa
