/- For whatever few and short texts, one at least, quoted in a line: with one blank more, ahead, between or behind, it is no line (no condition). -/
import Derived.Test.YthhnkakobjbdlaaLawBase
import Derived.Test.YthhnkakobjbdlaaPure01f
import Derived.Deep.LoopGhost
set_option linter.unusedVariables false
set_option linter.unusedSimpArgs false
namespace Go.Proofs.Ythhnkakobjbdlaa
open Go.ChangeShapes Go.WideShapes Go.ChangeAt Go.RowKit
open Go.ChangeMaps (open_string shut_string)
set_option linter.unusedVariables false

theorem few_twice_blank (l : List (List UInt8)) (v : Value) (n : Int) (w : World) (hv : Strs w v l) (h : fewB l = false ∨ l = []) :
    Calls Try.prog 8 #[v, .int .u8 n] w fun e w' => e = .returned (.bool true) ∧ Below w.heap.size w w' := by
  go_enter Try.func8, Try.ntmps8
  go_wp2_with fail; refine (awake_any _).mono ?_; rintro e w1 ⟨rfl, b1⟩
  go_wp2_with fail; refine (Few_any l v _ (hv.below b1)).mono ?_; rintro e w2 ⟨rfl, rfl⟩
  cases hf : fewB l
  · go_wp2_with fail; refine (awake_any _).mono ?_; rintro e w2 ⟨rfl, b2⟩
    go_wp2
    go_ret
    exact ⟨rfl, b1.trans (b2.mono b1.size)⟩
  · obtain rfl : l = [] := h.resolve_left (by simp [hf])
    obtain ⟨a, cap, rfl, _, _⟩ := hv
    clear h hf
    go_wp2_with fail; refine (awake_any _).mono ?_; rintro e w2 ⟨rfl, b2⟩
    go_wp2
    go_ret
    exact ⟨rfl, b1.trans (b2.mono b1.size)⟩

set_option maxHeartbeats 2000000 in
theorem lawBlank (l : List (List UInt8)) (v : Value) (m : Nat) (w : World) (hv : Strs w v l) (hm : m < 256) :
    Calls Try.prog 8 #[v, .int .u8 (m : Int)] w fun e w' => e = .returned (.bool true) ∧ Below w.heap.size w w' := by
  cases hf : fewB l
  · exact few_twice_blank l v m w hv (.inl hf)
  · by_cases h2 : l = []
    · exact few_twice_blank l v m w hv (.inr h2)
    · obtain ⟨hf40, hf300⟩ := fewB_small hf
      have HF := Lib.hid hf300
      clear hf300
      have hl0 : 0 < l.length := by cases l with | nil => exact absurd rfl h2 | cons _ _ => simp
      obtain ⟨n, hn⟩ : ∃ n, n = m % (l.length + 1) := ⟨_, rfl⟩
      have hnl : n ≤ l.length := by rw [hn]; have := Nat.mod_lt m (show 0 < l.length + 1 by omega); omega
      have hnm : ((m : Int) % ((l.length : Int) + 1)) = (n : Int) := by rw [hn]; simp
      have HNM := Lib.hid hnm
      clear hnm
      have HNO := Lib.hid (blank_none h2 hnl)
      have hT := blank_len hf40 HF.out hnl
      clear hn
      have hlb : ((l.length : Int) == 0) = false := by simp; omega
      go_enter Try.func8, Try.ntmps8
      go_wp2_with fail; refine (awake_any _).mono ?_; rintro e w1 ⟨rfl, b1⟩
      go_wp2_with fail; refine (Few_any l v _ (hv.below b1)).mono ?_; rintro e w2 ⟨rfl, rfl⟩
      rw [hf]
      obtain ⟨a, cap, rfl, _, HA⟩ := hv
      have HC := Lib.hid HA
      clear HA hf h2
      go_wp2
      rw [HNM.out]
      go_loopg [6, 7] l.length (fun g s6 s7 wr => ∃ (k : Nat) (p : List UInt8), k + g = l.length ∧ s7 = .int .i64 k ∧ s6 = .string ⟨p.toArray⟩ ∧ p.length ≤ 60000 ∧ Aside (p ++ joinB (restP l n k) = blankT l n) ∧ Below w.heap.size w wr)
      case atStart => exact ⟨0, [], by omega, rfl, rfl, by simp, rfl, b1⟩
      case round =>
        obtain ⟨k, p, hkg, rfl, rfl, hpl, HP, hb⟩ := hrel
        by_cases hlt : k < l.length
        · obtain ⟨G, rfl⟩ : ∃ G, gk = G + 1 := ⟨gk - 1, by omega⟩
          obtain ⟨ba, oa, rfl, hba, hca⟩ := HC.out (by omega)
          have c1 : wr.cell? ⟨ba, oa + k, none⟩ = some (.string ⟨l[k].toArray⟩) := (hb.cell (p := ⟨ba, oa + k, none⟩) hba).trans (hca k hlt)
          clear hca
          have h300 := HF.out l[k] (List.getElem_mem hlt)
          have hql := quoteB_len l[k]
          have hst := blank_step hnl hlt
          by_cases hkn : k = n
          · have hkb : ((k : Int) == (n : Int)) = true := by simp; omega
            by_cases hc : k + 1 < l.length ∨ n = l.length
            · have HS : Hid (p ++ [32] ++ quoteB l[k] ++ [32] ++ joinB (restP l n (k + 1)) = blankT l n) := by
                show _ = _
                rw [← HP.out, hst, if_pos hkn, if_pos hc]; simp
              have hk1 : (k : Int) + 1 < (l.length : Int) := by omega
              clear hst HP hkn hc
              go_wp2_with fail; refine (Quote_any l[k] _ (by omega)).mono ?_; rintro e w3 ⟨rfl, b3⟩
              go_wp2
              go_roundg G
              case measure => omega
              case rel => exact ⟨k + 1, p ++ [32] ++ quoteB l[k] ++ [32], by omega, by go_num, by simp, blank_le HS.out hT (Nat.le_refl _), HS.out, hb.trans (b3.mono hb.size)⟩
            · have HS : Hid (p ++ [32] ++ quoteB l[k] ++ joinB (restP l n (k + 1)) = blankT l n) := by
                show _ = _
                rw [← HP.out, hst, if_pos hkn, if_neg hc]; simp
              have hk1 : ¬ (k : Int) + 1 < (l.length : Int) := by omega
              have hk2 : ((n : Int) == (l.length : Int)) = false := by simp; omega
              clear hst HP hkn hc
              go_wp2_with fail; refine (Quote_any l[k] _ (by omega)).mono ?_; rintro e w3 ⟨rfl, b3⟩
              go_wp2
              go_roundg G
              case measure => omega
              case rel => exact ⟨k + 1, p ++ [32] ++ quoteB l[k], by omega, by go_num, by simp, blank_le HS.out hT (Nat.le_refl _), HS.out, hb.trans (b3.mono hb.size)⟩
          · have hkb : ((k : Int) == (n : Int)) = false := by simp; omega
            by_cases hk1 : (k : Int) + 1 < (l.length : Int)
            · have HS : Hid (p ++ quoteB l[k] ++ [32] ++ joinB (restP l n (k + 1)) = blankT l n) := by
                show _ = _
                rw [← HP.out, hst, if_neg hkn, if_pos (.inl (by omega))]; simp
              clear hst HP hkn
              go_wp2_with fail; refine (Quote_any l[k] _ (by omega)).mono ?_; rintro e w3 ⟨rfl, b3⟩
              go_wp2
              go_roundg G
              case measure => omega
              case rel => exact ⟨k + 1, p ++ quoteB l[k] ++ [32], by omega, by go_num, by simp, blank_le HS.out hT (Nat.le_refl _), HS.out, hb.trans (b3.mono hb.size)⟩
            · cases hk2 : ((n : Int) == (l.length : Int))
              · have HS : Hid (p ++ quoteB l[k] ++ joinB (restP l n (k + 1)) = blankT l n) := by
                  show _ = _
                  simp at hk2
                  rw [← HP.out, hst, if_neg hkn, if_neg (by omega)]; simp
                clear hst HP hkn
                go_wp2_with fail; refine (Quote_any l[k] _ (by omega)).mono ?_; rintro e w3 ⟨rfl, b3⟩
                go_wp2
                go_roundg G
                case measure => omega
                case rel => exact ⟨k + 1, p ++ quoteB l[k], by omega, by go_num, by simp, blank_le HS.out hT (Nat.le_refl _), HS.out, hb.trans (b3.mono hb.size)⟩
              · have HS : Hid (p ++ quoteB l[k] ++ [32] ++ joinB (restP l n (k + 1)) = blankT l n) := by
                  show _ = _
                  simp at hk2
                  rw [← HP.out, hst, if_neg hkn, if_pos (.inr (by omega))]; simp
                clear hst HP hkn
                go_wp2_with fail; refine (Quote_any l[k] _ (by omega)).mono ?_; rintro e w3 ⟨rfl, b3⟩
                go_wp2
                go_roundg G
                case measure => omega
                case rel => exact ⟨k + 1, p ++ quoteB l[k] ++ [32], by omega, by go_num, by simp, blank_le HS.out hT (Nat.le_refl _), HS.out, hb.trans (b3.mono hb.size)⟩
        · obtain rfl : k = l.length := by omega
          have hp := HP.out
          rw [blank_end hnl, List.append_nil] at hp
          subst hp
          clear HP
          go_wp2_with fail; refine (Split_any _ _ (by omega)).mono ?_; rintro e w3 ⟨v3, rfl, o3, b3⟩
          rw [HNO.out] at o3 ⊢
          obtain ⟨a3, c3, rfl, _, _⟩ := own_strs (l := []) o3
          clear o3
          go_wp2
          go_ret
          exact ⟨rfl, hb.trans (b3.mono hb.size)⟩

namespace LQuoteBlank
set_option maxRecDepth 100000 in
theorem lifted (os : Os) (started : os.Started) (H : Type) (enc : TypeId × Value → H) :
    ReturnsInHanded {} Try.checked os 8 .any (Rows.quoteBlankSpec.pre6 enc Try.prog Try.f8 Rows.quoteBlankRow.domain false) (Rows.quoteBlankSpec.post enc Try.prog Try.f8 false true false false) := by
  refine returnsInHanded_of_change (C := Try.checked) (by kernel_rfl) started (by kernel_rfl) Try.func8
    (ChangeSpec.witness6 (enc := enc) (C := Try.checked) false ⟨#[], #[.slice none 0 0, .int .u8 0], []⟩ 8 (by kernel_rfl) (by kernel_rfl) (by kernel_rfl) (by kernel_rfl)) ?_
  intro W base args ds gs before hval0 hW hcnd _
  have hval : ∀ (j : Nat) t v, Try.f8.params[j]? = some t → args[j]? = some v → Value.okWide Try.prog W .any base t v := hval0
  have hW' := hW
  obtain ⟨p, q, hA0, hV, rfl, hfz, hnd⟩ := hW
  have hA : DataW.TrodAll enc Try.prog W 0 (fun _ => true) true Try.f8.params.toList args.toList ds p := hA0
  rw [Try.params8] at hA hval
  obtain ⟨v0, vs0, d0, ds0, p0, q0, hargs, rfl, rfl, k0, r0⟩ := trodAll_cons hA
  obtain ⟨v1, vs1, d1, ds1, p1, q1, rfl, rfl, rfl, k1, r1⟩ := trodAll_cons r0
  obtain ⟨rfl, rfl, rfl⟩ := trodAll_nil r1
  obtain rfl : args = #[v0, v1] := by cases args; simp_all
  obtain ⟨rfl, rfl⟩ := trodVars_none hV
  have ok0 := hval 0 27 v0 rfl rfl
  have ok1 := hval 1 5 v1 rfl rfl
  have lt0 : ∀ x ∈ p0, x.block < W.heap.size := by obtain ⟨m, hm⟩ := k0; exact DataW.trod_lt m _ _ _ hm
  have lt1 : ∀ x ∈ p1, x.block < W.heap.size := by obtain ⟨m, hm⟩ := k1; exact DataW.trod_lt m _ _ _ hm
  have C : Calls Try.prog 8 #[v0, v1] W fun e w' => e = .returned (.bool true) ∧ Below W.heap.size W w' := by
    clear hA0 hval0 hval hW' hcnd hV hfz hnd
    obtain ⟨l, hl⟩ := strs_of_trod ok0 k0
    obtain ⟨a, rfl, rfl, rfl, ha⟩ := open_int Try.underlying5 ok1 k1
    have hb := bounds_u8 ha
    obtain ⟨m, rfl⟩ := Int.eq_ofNat_of_zero_le hb.1
    exact lawBlank l _ m W hl (by omega)
  refine C.mono fun e W' ⟨he, bel⟩ => ?_
  subst he
  exact ⟨_, rfl, _, _, _, [], _, [], hW', trodAll_mk1 (shut_bool Try.underlying4 _), (trodAll_cons_mk (Below.trod laidOut (by kernel_rfl) (of_decide_eq_true (by kernel_rfl)) k0 bel lt0) (trodAll_cons_mk (Below.trod laidOut (by kernel_rfl) (of_decide_eq_true (by kernel_rfl)) k1 bel lt1) trodAll_mk0)), rfl, bel.frame _, fun h => by cases h⟩
theorem proved : Rows.QuoteBlankSaid :=
  OpenClaim.holds_of_wide 8 Try.f8 rfl rfl rfl rfl rfl rfl rfl ⟨rfl, rfl, rfl, rfl, rfl⟩ rfl rfl rfl rfl rfl (by kernel_rfl) Try.func8 (by kernel_rfl)
    (of_decide_eq_true (by kernel_rfl)) (by unfold Func.isWrapper; first | (rw [if_pos (by decide +kernel)]; kernel_rfl) | (rw [if_neg (by decide +kernel)]; exact ⟨rfl, rfl⟩))
    (fun os started H enc _ => lifted os started H enc)
#print axioms proved
end LQuoteBlank
end Go.Proofs.Ythhnkakobjbdlaa
