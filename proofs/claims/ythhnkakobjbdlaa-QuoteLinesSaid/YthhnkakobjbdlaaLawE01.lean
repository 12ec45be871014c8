/- For whatever few and short texts, and whatever text: words that are joined are split as they were; a line that is split is joined as it was (no condition). -/
import Derived.Test.YthhnkakobjbdlaaLawBase
import Derived.Test.YthhnkakobjbdlaaPure01f
import Derived.Deep.LoopGhost
set_option linter.unusedVariables false
set_option linter.unusedSimpArgs false
namespace Go.Proofs.Ythhnkakobjbdlaa
open Go.ChangeShapes Go.WideShapes Go.ChangeAt Go.RowKit
open Go.ChangeMaps (open_string shut_string)
set_option linter.unusedVariables false

theorem few_twice_lines (l : List (List UInt8)) (v : Value) (s : List UInt8) (w : World) (hv : Strs w v l) (hs : s.length ≤ maxLen) (h : fewB l = false ∨ 1000 < s.length) :
    Calls Try.prog 7 #[v, .string ⟨s.toArray⟩] w fun e w' => e = .returned (.bool true) ∧ Below w.heap.size w w' := by
  unfold maxLen at hs
  go_enter Try.func7, Try.ntmps7
  go_wp2_with fail; refine (awake_any _).mono ?_; rintro e w1 ⟨rfl, b1⟩
  go_wp2_with fail; refine (Few_any l v _ (hv.below b1)).mono ?_; rintro e w2 ⟨rfl, rfl⟩
  cases hf : fewB l
  · go_wp2_with fail; refine (awake_any _).mono ?_; rintro e w2 ⟨rfl, b2⟩
    go_wp2
    go_ret
    exact ⟨rfl, b1.trans (b2.mono b1.size)⟩
  · have h2 : 1000 < s.length := h.resolve_left (by simp [hf])
    clear h
    go_wp2_with fail; refine (awake_any _).mono ?_; rintro e w2 ⟨rfl, b2⟩
    go_wp2
    go_ret
    exact ⟨rfl, b1.trans (b2.mono b1.size)⟩

set_option maxHeartbeats 2000000 in
theorem lawLines (l : List (List UInt8)) (v : Value) (s : List UInt8) (w : World) (hv : Strs w v l) (hs : s.length ≤ maxLen) :
    Calls Try.prog 7 #[v, .string ⟨s.toArray⟩] w fun e w' => e = .returned (.bool true) ∧ Below w.heap.size w w' := by
  cases hf : fewB l
  · exact few_twice_lines l v s w hv hs (.inl hf)
  · by_cases h2 : 1000 < s.length
    · exact few_twice_lines l v s w hv hs (.inr h2)
    · unfold maxLen at hs
      obtain ⟨hf40, hf300⟩ := fewB_small hf
      have HF := Lib.hid hf300
      clear hf300
      obtain ⟨is, hsi, hs0, hs1, hs2⟩ := info_parts Try.infoS
      go_enter Try.func7, Try.ntmps7
      go_wp2_with fail; refine (awake_any _).mono ?_; rintro e w1 ⟨rfl, b1⟩
      go_wp2_with fail; refine (Few_any l v _ (hv.below b1)).mono ?_; rintro e w2 ⟨rfl, rfl⟩
      rw [hf]
      obtain ⟨a, cap, rfl, _, HA⟩ := hv
      have HC := Lib.hid HA
      clear HA hf
      go_wp2
      go_loopg [5, 6] l.length (fun g s5 s6 wr => ∃ k : Nat, k + g = l.length ∧ s6 = .int .i64 k ∧ wr.ownsRow w.heap.size 9 1 s5 k (strsV (lineWords 0 (l.take k))) ∧ Below w.heap.size w wr)
      case atStart => exact ⟨0, by omega, rfl, World.ownsRow_nil _ _ _ _, b1⟩
      case round =>
        obtain ⟨k, hkg, rfl, hown, hb⟩ := hrel
        by_cases hlt : k < l.length
        · obtain ⟨G, rfl⟩ : ∃ G, gk = G + 1 := ⟨gk - 1, by omega⟩
          obtain ⟨ba, oa, rfl, hba, hca⟩ := HC.out (by omega)
          have c1 : wr.cell? ⟨ba, oa + k, none⟩ = some (.string ⟨l[k].toArray⟩) := (hb.cell (p := ⟨ba, oa + k, none⟩) hba).trans (hca k hlt)
          clear hca
          have h300 := HF.out l[k] (List.getElem_mem hlt)
          have HT := Lib.hid (lineWords_take l k hlt)
          cases hm : ((k : Int) % 2 == 0)
          · have km : ¬ k % 2 = 0 := by simp at hm; omega
            go_wp2_with fail; refine (Plain_any l[k] _ (by omega)).mono ?_; rintro e w2 ⟨rfl, rfl⟩
            cases hp : plainB l[k]
            · have HN := Lib.hid (HT.out.trans (by rw [if_pos (.inr hp)]))
              clear HT hp
              go_wp2_with fail; refine (Quote_any l[k] _ (by omega)).mono ?_; rintro e w3 ⟨rfl, b3⟩
              have hb3 := hb.trans (b3.mono hb.size)
              have hown3 := own_keep hown b3
              clear hown hb c1 b3
              go_wp2_with (at_builtin; refine wpList_append_new rfl (.tmp 41) (.tmp 47) 27 9 rfl Try.underlying27 hsi hs0 hs1 hs2 rfl (by decide) (by decide) w.heap.size _ 1 rfl rfl hown3 rfl (by simp [Value.oneCell']) (by omega) hb3.size ?_; intro v4 w4 hown4 hb4)
              go_roundg G
              case measure => omega
              case rel => exact ⟨k + 1, by omega, by go_num, by rw [HN.out]; simpa [strsV] using hown4, hb3.trans hb4⟩
            · have HN := Lib.hid (HT.out.trans (by rw [if_neg (by simp [km, hp])]))
              clear HT hp
              go_wp2_with (at_builtin; refine wpList_append_new rfl (.tmp 49) (.tmp 54) 27 9 rfl Try.underlying27 hsi hs0 hs1 hs2 rfl (by decide) (by decide) w.heap.size _ 1 rfl rfl hown rfl (by simp [Value.oneCell']) (by omega) hb.size ?_; intro v4 w4 hown4 hb4)
              go_roundg G
              case measure => omega
              case rel => exact ⟨k + 1, by omega, by go_num, by rw [HN.out]; simpa [strsV] using hown4, hb.trans hb4⟩
          · have km : k % 2 = 0 := by simp at hm; omega
            have HN := Lib.hid (HT.out.trans (by rw [if_pos (.inl km)]))
            clear HT
            go_wp2_with fail; refine (Quote_any l[k] _ (by omega)).mono ?_; rintro e w3 ⟨rfl, b3⟩
            have hb3 := hb.trans (b3.mono hb.size)
            have hown3 := own_keep hown b3
            clear hown hb c1 b3
            go_wp2_with (at_builtin; refine wpList_append_new rfl (.tmp 41) (.tmp 47) 27 9 rfl Try.underlying27 hsi hs0 hs1 hs2 rfl (by decide) (by decide) w.heap.size _ 1 rfl rfl hown3 rfl (by simp [Value.oneCell']) (by omega) hb3.size ?_; intro v4 w4 hown4 hb4)
            go_roundg G
            case measure => omega
            case rel => exact ⟨k + 1, by omega, by go_num, by rw [HN.out]; simpa [strsV] using hown4, hb3.trans hb4⟩
        · obtain rfl : k = l.length := by omega
          rw [List.take_length] at hown
          have hsw := own_strs hown
          have hll := lineWords_len l 0
          have hjl := joinB_len (lineWords 0 l) 1202 (lineWords_le l 0 HF.out)
          have HJ := Lib.hid (split_join (lineWords 0 l) (lineWords_word l 0))
          rw [hll] at hjl
          have hjl2 : (joinB (lineWords 0 l)).length ≤ 100000 := by
            have : l.length * (1202 + 1) ≤ 40 * 1203 := Nat.mul_le_mul hf40 (by omega)
            omega
          have hll2 : (lineWords 0 l).length ≤ 1000001 := by omega
          clear hown hll hjl
          generalize lineWords 0 l = P at *
          go_wp2_with fail; refine (Join_any P _ _ hsw hll2 (by omega)).mono ?_; rintro e w2 ⟨rfl, b2⟩
          replace hsw := hsw.below b2
          replace b2 := hb.trans (b2.mono hb.size)
          clear hb
          go_wp2_with fail; refine (Split_any (joinB P) _ (by omega)).mono ?_; rintro e w3 ⟨v3, rfl, o3, b3⟩
          rw [HJ.out] at o3 ⊢
          replace hsw := hsw.below b3
          have s3 := own_strs (l := P) o3
          replace b3 := b2.trans (b3.mono b2.size)
          clear b2 o3 HJ
          go_wp2_with fail; refine (Split_any s _ (by omega)).mono ?_; rintro e w4 ⟨v4, rfl, o4, b4⟩
          replace hsw := hsw.below b4
          replace s3 := s3.below b4
          have s4 := own_strs o4
          replace b4 := b3.trans (b4.mono b3.size)
          clear b3 o4
          go_wp2_with fail; refine (Same_any P P _ _ _ s3 hsw).mono ?_; rintro e w5 ⟨rfl, b5⟩
          replace s4 := s4.below b5
          replace b5 := b4.trans (b5.mono b4.size)
          clear b4 hsw s3
          cases hq : splitB s with
          | none =>
            clear s4
            go_wp2
            go_ret
            exact ⟨ret_bool (by simp), b5⟩
          | some ws =>
            rw [hq] at s4
            have hj := join_split hq
            have hwl : ws.length ≤ 1001 := by
              have := join_count hq
              omega
            have HJ := Lib.hid hj
            have hjl : (joinB ws).length ≤ 1000 := by rw [hj]; omega
            clear hq hj
            go_wp2_with fail; refine (Join_any ws _ _ s4 (by omega) (by omega)).mono ?_; rintro e w6 ⟨rfl, b6⟩
            rw [HJ.out]
            go_wp2
            go_ret
            exact ⟨ret_bool (by simp), b5.trans (b6.mono b5.size)⟩

namespace LQuoteLines
set_option maxRecDepth 100000 in
theorem lifted (os : Os) (started : os.Started) (H : Type) (enc : TypeId × Value → H) :
    ReturnsInHanded {} Try.checked os 7 .any (Rows.quoteLinesSpec.pre6 enc Try.prog Try.f7 Rows.quoteLinesRow.domain false) (Rows.quoteLinesSpec.post enc Try.prog Try.f7 false true false false) := by
  refine returnsInHanded_of_change (C := Try.checked) (by kernel_rfl) started (by kernel_rfl) Try.func7
    (ChangeSpec.witness6 (enc := enc) (C := Try.checked) false ⟨#[], #[.slice none 0 0, .string ByteArray.empty], []⟩ 8 (by kernel_rfl) (by kernel_rfl) (by kernel_rfl) (by kernel_rfl)) ?_
  intro W base args ds gs before hval0 hW hcnd _
  have hval : ∀ (j : Nat) t v, Try.f7.params[j]? = some t → args[j]? = some v → Value.okWide Try.prog W .any base t v := hval0
  have hW' := hW
  obtain ⟨p, q, hA0, hV, rfl, hfz, hnd⟩ := hW
  have hA : DataW.TrodAll enc Try.prog W 0 (fun _ => true) true Try.f7.params.toList args.toList ds p := hA0
  rw [Try.params7] at hA hval
  obtain ⟨v0, vs0, d0, ds0, p0, q0, hargs, rfl, rfl, k0, r0⟩ := trodAll_cons hA
  obtain ⟨v1, vs1, d1, ds1, p1, q1, rfl, rfl, rfl, k1, r1⟩ := trodAll_cons r0
  obtain ⟨rfl, rfl, rfl⟩ := trodAll_nil r1
  obtain rfl : args = #[v0, v1] := by cases args; simp_all
  obtain ⟨rfl, rfl⟩ := trodVars_none hV
  have ok0 := hval 0 27 v0 rfl rfl
  have ok1 := hval 1 9 v1 rfl rfl
  have lt0 : ∀ x ∈ p0, x.block < W.heap.size := by obtain ⟨m, hm⟩ := k0; exact DataW.trod_lt m _ _ _ hm
  have lt1 : ∀ x ∈ p1, x.block < W.heap.size := by obtain ⟨m, hm⟩ := k1; exact DataW.trod_lt m _ _ _ hm
  have C : Calls Try.prog 7 #[v0, v1] W fun e w' => e = .returned (.bool true) ∧ Below W.heap.size W w' := by
    clear hA0 hval0 hval hW' hcnd hV hfz hnd
    obtain ⟨l, hl⟩ := strs_of_trod ok0 k0
    obtain ⟨s, rfl, rfl, rfl, hs⟩ := open_string Try.underlying9 ok1 k1
    rw [str_eta s]
    exact lawLines l _ _ W hl (str_len hs)
  refine C.mono fun e W' ⟨he, bel⟩ => ?_
  subst he
  exact ⟨_, rfl, _, _, _, [], _, [], hW', trodAll_mk1 (shut_bool Try.underlying4 _), (trodAll_cons_mk (Below.trod laidOut (by kernel_rfl) (of_decide_eq_true (by kernel_rfl)) k0 bel lt0) (trodAll_cons_mk (Below.trod laidOut (by kernel_rfl) (of_decide_eq_true (by kernel_rfl)) k1 bel lt1) trodAll_mk0)), rfl, bel.frame _, fun h => by cases h⟩
theorem proved : Rows.QuoteLinesSaid :=
  OpenClaim.holds_of_wide 7 Try.f7 rfl rfl rfl rfl rfl rfl rfl ⟨rfl, rfl, rfl, rfl, rfl⟩ rfl rfl rfl rfl rfl (by kernel_rfl) Try.func7 (by kernel_rfl)
    (of_decide_eq_true (by kernel_rfl)) (by unfold Func.isWrapper; first | (rw [if_pos (by decide +kernel)]; kernel_rfl) | (rw [if_neg (by decide +kernel)]; exact ⟨rfl, rfl⟩))
    (fun os started H enc _ => lifted os started H enc)
#print axioms proved
end LQuoteLines
end Go.Proofs.Ythhnkakobjbdlaa
