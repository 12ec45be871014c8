/- Walks: quote.Split. -/
import Derived.Test.YthhnkakobjbdlaaPure01c
import Derived.Test.YthhnkakobjbdlaaWalkD01
import Derived.Deep.LoopGhost
set_option linter.unusedVariables false
set_option linter.unusedSimpArgs false
namespace Go.Proofs.Ythhnkakobjbdlaa
open Go.RowKit

def strsV (ws : List (List UInt8)) : List Value := ws.map fun l => .string ⟨l.toArray⟩
/-- What is left of a call that answers texts, and whether there are any. -/
def StrsPost (w : World) (o : Option (List (List UInt8))) (e : Ending) (w' : World) : Prop :=
  ∃ v, e = .returned (.tuple #[v, .bool o.isSome]) ∧ w'.ownsRow w.heap.size 9 1 v (o.getD []).length (strsV (o.getD [])) ∧ Below w.heap.size w w'
theorem StrsPost.none_ {w w' : World} {o : Option (List (List UInt8))} {e : Ending} (h : o = none) (he : e = .returned (.tuple #[.slice none 0 0, .bool false])) (hb : Below w.heap.size w w') : StrsPost w o e w' :=
  ⟨.slice none 0 0, by rw [he, h]; rfl, by rw [h]; exact World.ownsRow_nil _ _ _ _, hb⟩

theorem Try.infoS : (Try.prog.info? 9).map (fun i => (i.zero, i.size, i.bytes)) = some (some (.string ByteArray.empty), 1, 16) := by kernel_rfl

theorem Clone_any (l : List UInt8) (w : World) (hl : l.length ≤ 1000000) :
    Calls Try.prog 28 #[.string ⟨l.toArray⟩] w fun e w' => e = .returned (.string ⟨l.toArray⟩) ∧ Below w.heap.size w w' := by
  go_enter Try.func28, Try.ntmps28
  go_wp2_with fail
  refine (Try.stringslite_Clone _ _ (by simp [ByteArray.size]; omega)).mono ?_
  rintro e w' ⟨rfl, hB⟩
  go_wp2
  go_ret
  exact ⟨rfl, hB⟩

set_option maxHeartbeats 2000000 in
theorem Split_any (l : List UInt8) (w : World) (hl : l.length ≤ 1000000) : Calls Try.prog 16 #[.string ⟨l.toArray⟩] w (StrsPost w (splitB l)) := by
  by_cases hn : l = []
  · subst hn
    go_enter Try.func16, Try.ntmps16
    go_wp2
    go_step3
    go_wp2
    try rw [Exit.noGoto_ret]
    go_ret2
    exact ⟨_, rfl, World.ownsRow_nil _ _ _ _, Below.refl _ _⟩
  · obtain ⟨is, hsi, hs0, hs1, hs2⟩ := info_parts Try.infoS
    have hne : l.isEmpty = false := by simpa using hn
    go_enter Try.func16, Try.ntmps16
    go_wp2
    go_step3
    go_wp2
    go_step3
    go_wp2
    go_loopg [4, 5, 6] l.length (fun g s4 s5 s6 wr => ∃ (ws : List (List UInt8)) (r : List UInt8), s5 = .string ⟨r.toArray⟩ ∧ s6 = .bool false ∧ r.length = g ∧ ws.length + r.length ≤ l.length ∧ wr.ownsRow w.heap.size 9 1 s4 ws.length (strsV ws) ∧ Aside (cutF false l = ws ++ cutF false r ∧ ∀ x ∈ ws, wordB x = true) ∧ Below w.heap.size w wr)
    case atStart => exact ⟨[], l, rfl, rfl, rfl, by simp, World.ownsRow_nil _ _ _ _, ⟨rfl, by simp⟩, Below.refl _ _⟩
    case round =>
      obtain ⟨ws, r, rfl, rfl, rfl, hlen, hown, HA, hb⟩ := hrel
      have hb0 := Lib.hid hb
      have HS0 := Lib.hid (cut_start r)
      clear hb
      go_wp2
      go_loopg [4, 5, 7, 14] r.length (fun g t4 t5 t7 t14 wy => ∃ (i : Nat) (ins : Bool), i + g = r.length ∧ t14 = .int .i64 i ∧ t7 = .bool ins ∧ t4 = u4 ∧ t5 = .string ⟨r.toArray⟩ ∧ Aside (cutF false r = consHead (r.take i) (cutF ins (r.drop i))) ∧ wr = wy)
      case atStart => exact ⟨0, false, by omega, rfl, rfl, rfl, rfl, HS0.out, rfl⟩
      case round =>
        obtain ⟨i, ins, hig, rfl, rfl, rfl, rfl, HC, rfl⟩ := hrel
        by_cases hlt : i < r.length
        · obtain ⟨g2, rfl⟩ : ∃ g2, gk = g2 + 1 := ⟨gk - 1, by omega⟩
          cases h34 : ((r[i].toNat : Int) == 34)
          · have k34 : ¬ r[i] = 34 := by intro e; rw [e] at h34; exact absurd h34 (by decide)
            cases h32 : ((r[i].toNat : Int) != 32)
            · have k32 : r[i] = 32 := UInt8.toNat_inj.1 (by simp at h32; simp; omega)
              cases ins
              · have HK := Lib.hid (cut_at hlt k32 HC.out)
                have htl : (r.take i).length ≤ 1000000 := by simp; omega
                clear HC k32 k34
                go_wp2_with fail
                refine (word_any _ _ htl).mono ?_
                rintro e w2 ⟨rfl, hB⟩
                cases hw : wordB (r.take i)
                · have HS := Lib.hid (split_no hn (HA.out.1.trans (by rw [HK.out])) hw)
                  clear hw HK HA hown
                  go_wp2
                  try rw [Exit.noGoto_ret]
                  go_ret2
                  exact StrsPost.none_ HS.out rfl (hb0.out.trans (hB.mono hb0.out.size))
                · have HW := Lib.hid hw
                  have hb2 := hb0.out.trans (hB.mono hb0.out.size)
                  have hown2 := own_keep hown hB
                  clear hw hB hown hb0
                  go_wp2_with fail
                  refine (Clone_any _ _ htl).mono ?_
                  rintro e w3 ⟨rfl, hC⟩
                  have hb3 := hb2.trans (hC.mono hb2.size)
                  have hown3 := own_keep hown2 hC
                  clear hC hown2 hb2
                  go_wp2_with (at_builtin; refine wpList_append_new rfl (.tmp 35) (.tmp 40) 27 9 rfl Try.underlying27 hsi hs0 hs1 hs2 rfl (by decide) (by decide) w.heap.size _ 1 rfl rfl hown3 rfl (by simp [Value.oneCell']) (by omega) hb3.size ?_; intro v4 w4 hown4 hb4)
                  go_roundg (r.drop (i + 1)).length
                  case measure => simp; omega
                  case rel =>
                    exact ⟨ws ++ [r.take i], r.drop (i + 1), by simp, rfl, rfl, by simp; omega, by simpa [strsV] using hown4, ⟨by rw [HA.out.1, HK.out]; simp, fun x hx => by
                      rcases List.mem_append.1 hx with h | h
                      · exact HA.out.2 x h
                      · rw [List.mem_singleton.1 h]; exact HW.out⟩, hb3.trans hb4⟩
              · have HK := Lib.hid (cut_keep hlt (by simp) HC.out)
                go_wp2
                go_roundg g2
                case measure => omega
                case rel => exact ⟨i + 1, true, by omega, by go_num, rfl, rfl, rfl, by (have := HK.out; rw [if_neg k34] at this; exact this), rfl⟩
            · have k32 : ¬ r[i] = 32 := by intro e; rw [e] at h32; exact absurd h32 (by decide)
              have HK := Lib.hid (cut_keep hlt (fun h => k32 h.1) HC.out)
              go_wp2
              go_roundg g2
              case measure => omega
              case rel => exact ⟨i + 1, ins, by omega, by go_num, rfl, rfl, rfl, by (have := HK.out; rw [if_neg k34] at this; exact this), rfl⟩
          · have h32 : ((r[i].toNat : Int) != 32) = true := by simp at h34 ⊢; omega
            have k34 : r[i] = 34 := UInt8.toNat_inj.1 (by simp at h34; simp; omega)
            have HK := Lib.hid (cut_keep hlt (fun h => by rw [k34] at h; exact absurd h.1 (by decide)) HC.out)
            have K34 := Lib.hid k34
            clear k34
            go_wp2
            go_roundg g2
            case measure => omega
            case rel => exact ⟨i + 1, !ins, by omega, by go_num, rfl, rfl, rfl, by (have := HK.out; rw [if_pos K34.out] at this; exact this), rfl⟩
        · obtain rfl : i = r.length := by omega
          have HK := Lib.hid (cut_end HC.out)
          clear HC
          go_wp2_with fail
          refine (word_any r _ (by omega)).mono ?_
          rintro e w2 ⟨rfl, hB⟩
          cases hw : wordB r
          · have HS := Lib.hid (split_no (t := []) hn (HA.out.1.trans (by rw [HK.out])) hw)
            clear hw HK HA hown
            go_wp2
            try rw [Exit.noGoto_ret]
            go_ret2
            exact StrsPost.none_ HS.out rfl (hb0.out.trans (hB.mono hb0.out.size))
          · have HS := Lib.hid (split_yes (ws := ws ++ [r]) hn (by rw [HA.out.1, HK.out]) (fun x hx => by
              rcases List.mem_append.1 hx with h | h
              · exact HA.out.2 x h
              · rw [List.mem_singleton.1 h]; exact hw))
            have hb2 := hb0.out.trans (hB.mono hb0.out.size)
            have hown2 := own_keep hown hB
            clear hw HK HA hB hown hb0
            go_wp2_with fail
            refine (Clone_any r _ (by omega)).mono ?_
            rintro e w3 ⟨rfl, hC⟩
            have hb3 := hb2.trans (hC.mono hb2.size)
            have hown3 := own_keep hown2 hC
            clear hC hown2 hb2
            go_wp2_with (at_builtin; refine wpList_append_new rfl (.tmp 51) (.tmp 54) 27 9 rfl Try.underlying27 hsi hs0 hs1 hs2 rfl (by decide) (by decide) w.heap.size _ 1 rfl rfl hown3 rfl (by simp [Value.oneCell']) (by omega) hb3.size ?_; intro v4 w4 hown4 hb4)
            try rw [Exit.noGoto_ret]
            go_ret2
            exact ⟨v4, by rw [HS.out]; rfl, by rw [HS.out]; simpa [strsV] using hown4, hb3.trans hb4⟩
end Go.Proofs.Ythhnkakobjbdlaa
