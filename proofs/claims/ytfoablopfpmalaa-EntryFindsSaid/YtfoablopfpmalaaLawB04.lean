/- For every list of right entries, and every name: the number that package entry finds, the entries without the name, and the names are the document's (no condition). -/
import Derived.Test.YtfoablopfpmalaaLawBase04
import Derived.BigQuiet
namespace Go.Proofs.Ytfoablopfpmalaa
open Go.ChangeShapes Go.WideShapes Go.ChangeAt Go.RowKit
open Go.ChangeMaps (open_string shut_string)
set_option linter.unusedVariables false

theorem short_up {l : List Ent} (h : shortP 300 l) (b : Nat) (hb : 300 ≤ b) : shortP b l := fun e he => Nat.le_trans (h e he) hb

set_option maxHeartbeats 2000000 in
theorem lawFinds (l : List Ent) (n : List UInt8) (v : Value) (w : World) (hv : Ents w v l) (hn : n.length ≤ maxLen) :
    Calls Try.prog 4 #[v, .string ⟨n.toArray⟩] w fun e w' => e = .returned (.bool true) ∧ Below w.heap.size w w' := by
  unfold maxLen at hn
  obtain ⟨a, ca, rfl, _, _, _⟩ := id hv
  cases hf : fewE l
  · go_enter Try.func4, Try.ntmps4
    go_wp2_with fail; refine (awake_any _).mono ?_; rintro e w1 ⟨rfl, b1⟩
    go_wp2_with fail; refine (few_any l _ _ (hv.below b1)).mono ?_; rintro e w2 ⟨rfl, rfl⟩
    rw [hf]
    go_wp2_with fail; refine (awake_any _).mono ?_; rintro e w2 ⟨rfl, b2⟩
    go_wp2
    go_ret
    exact ⟨rfl, b1.trans (b2.mono b1.size)⟩
  have hsm := fewE_small hf
  have hs1 := short_up hsm.2 1000000 (by decide)
  have hs2 := short_up hsm.2 100000000 (by decide)
  have hl50 := hsm.1
  cases hr : rightB l
  · go_enter Try.func4, Try.ntmps4
    go_wp2_with fail; refine (awake_any _).mono ?_; rintro e w1 ⟨rfl, b1⟩
    have h1 := hv.below b1
    go_wp2_with fail; refine (few_any l _ _ h1).mono ?_; rintro e w2 ⟨rfl, rfl⟩
    rw [hf]
    go_wp2_with fail; refine (refRight_any l _ _ h1 hs1).mono ?_; rintro e w2 ⟨rfl, b2⟩
    replace b2 := b1.trans (b2.mono b1.size)
    rw [hr]
    go_wp2_with fail; refine (awake_any _).mono ?_; rintro e w3 ⟨rfl, b3⟩
    go_wp2
    go_ret
    exact ⟨rfl, b2.trans (b3.mono b2.size)⟩
  have hso := ((rightB_iff l).1 hr).2
  by_cases hn3 : n.length ≤ 300
  · have hwo := without_eq n hso
    have HSM := Lib.hid hsm
    clear hsm
    go_enter Try.func4, Try.ntmps4
    go_wp2_with fail; refine (awake_any _).mono ?_; rintro e w1 ⟨rfl, b1⟩
    have h1 := hv.below b1
    clear hv
    go_wp2_with fail; refine (few_any l _ _ h1).mono ?_; rintro e w2 ⟨rfl, rfl⟩
    rw [hf]
    go_wp2_with fail; refine (refRight_any l _ _ h1 hs1).mono ?_; rintro e w2 ⟨rfl, b2⟩
    replace h1 := h1.below b2
    replace b2 := b1.trans (b2.mono b1.size)
    rw [hr]
    clear b1
    go_wp2_with fail; refine (Find_any l n _ _ h1 hso (by omega)).mono ?_; rintro e w3 ⟨rfl, b3⟩
    replace h1 := h1.below b3
    replace b3 := b2.trans (b3.mono b2.size)
    clear b2
    go_wp2_with fail; refine (refFind_any l n _ _ h1).mono ?_; rintro e w4 ⟨rfl, rfl⟩
    go_wp2_with fail; refine (Names_any l _ _ h1 (by omega) hs2).mono ?_; rintro e w4 ⟨x, rfl, hx, b4⟩
    replace h1 := h1.below b4
    replace b4 := b3.trans (b4.mono b3.size)
    clear b3
    obtain ⟨xn, cn, rfl, hxm, HN0⟩ := hx
    simp only [List.length_map] at HN0 hxm ⊢
    have HN := Lib.hid HN0
    clear HN0
    obtain ⟨_, _, hu, _, _, HA0⟩ := id h1
    simp only [Value.slice.injEq] at hu
    obtain ⟨rfl, _, rfl⟩ := hu
    have HA := Lib.hid HA0
    clear HA0
    have H1 := Lib.hid h1
    clear h1
    have hnum : (numB l n != numB l n) = false := by simp
    have hhas : (hasB l n != hasB l n) = false := by simp
    have hlen : ((l.length : Int) != (l.length : Int)) = false := by simp
    go_wp2
    go_loopw [10] (fun s10 wr => ∃ k : Nat, k ≤ l.length ∧ s10 = .int .i64 k ∧ Below w4.heap.size w4 wr) (fun s10 _ => l.length - (intOf s10).toNat)
    case atStart => exact ⟨0, Nat.zero_le _, rfl, Below.refl _ _⟩
    case round =>
      obtain ⟨k, hk, rfl, hbw⟩ := hrel
      by_cases hlt : k < l.length
      · obtain ⟨b, o, rfl, hb, hcl⟩ := HA.out (by omega)
        obtain ⟨bn, on, rfl, hbn, hcn⟩ := HN.out (by omega)
        have c1 : wr.cell? ⟨b, o + k * 2, none⟩ = some (.string ⟨l[k].1.toArray⟩) := (hbw.cell (p := ⟨b, o + k * 2, none⟩) hb).trans (hcl k hlt).1
        have c3 : wr.cell? ⟨bn, on + k, none⟩ = some (.string ⟨l[k].1.toArray⟩) := (hbw.cell (p := ⟨bn, on + k, none⟩) hbn).trans (by first | exact hcn k hlt | (rw [hcn k hlt]; simp))
        clear hcl hcn
        have k0 : (0 : Int) ≤ (k : Int) := by omega
        have k1 : (k : Int) < (l.length : Int) := by omega
        have he : (l[k].1 != l[k].1) = false := by simp
        go_wp2
        go_quiet (fail)
        go_wp2
        go_roundw
        case rel => exact ⟨k + 1, by omega, by go_num, below_drewN hbw _⟩
        case measure => simp [intOf]; omega
      · obtain rfl : k = l.length := by omega
        have h2 := H1.out.below hbw
        have b5 := b4.trans (hbw.mono b4.size)
        clear hbw b4
        go_wp2_with fail; refine (Without_any l n _ _ h2 hso (by omega) hs2).mono ?_; rintro e w5 h5
        obtain ⟨y, rfl, h6, b6⟩ := new_ents h5 (Nat.le_trans (without_len l n) (by unfold maxLen; omega))
        replace h2 := h2.below b6
        replace b6 := b5.trans (b6.mono b5.size)
        clear b5 h5
        go_wp2_with fail; refine (refWithout_any l n _ _ h2 (by omega)).mono ?_; rintro e w7 ⟨z, rfl, ho, b7⟩
        rw [hwo] at ho
        have h7 := own_ents ho
        replace h6 := h6.below b7
        replace b7 := b6.trans (b7.mono b6.size)
        clear b6 ho
        go_wp2_with fail; refine (refSame_any _ _ _ _ _ h6 h7).mono ?_; rintro e w8 ⟨rfl, b8⟩
        go_wp2
        go_ret
        exact ⟨ret_bool (by simp), b7.trans (b8.mono b7.size)⟩
  · go_enter Try.func4, Try.ntmps4
    go_wp2_with fail; refine (awake_any _).mono ?_; rintro e w1 ⟨rfl, b1⟩
    have h1 := hv.below b1
    go_wp2_with fail; refine (few_any l _ _ h1).mono ?_; rintro e w2 ⟨rfl, rfl⟩
    rw [hf]
    go_wp2_with fail; refine (refRight_any l _ _ h1 hs1).mono ?_; rintro e w2 ⟨rfl, b2⟩
    replace b2 := b1.trans (b2.mono b1.size)
    rw [hr]
    go_wp2_with fail; refine (awake_any _).mono ?_; rintro e w3 ⟨rfl, b3⟩
    go_wp2
    go_ret
    exact ⟨rfl, b2.trans (b3.mono b2.size)⟩

namespace LEntryFinds
set_option maxRecDepth 100000 in
theorem lifted (os : Os) (started : os.Started) (H : Type) (enc : TypeId × Value → H) :
    ReturnsInHanded {} Try.checked os 4 .any (Rows.entryFindsSpec.pre6 enc Try.prog Try.f4 Rows.entryFindsRow.domain false) (Rows.entryFindsSpec.post enc Try.prog Try.f4 false true false false) := by
  refine returnsInHanded_of_change (C := Try.checked) (by kernel_rfl) started (by kernel_rfl) Try.func4
    (ChangeSpec.witness6 (enc := enc) (C := Try.checked) false ⟨#[], #[.slice none 0 0, .string ByteArray.empty], []⟩ 8 (by kernel_rfl) (by kernel_rfl) (by kernel_rfl) (by kernel_rfl)) ?_
  intro W base args ds gs before hval0 hW hcnd _
  have hval : ∀ (j : Nat) t v, Try.f4.params[j]? = some t → args[j]? = some v → Value.okWide Try.prog W .any base t v := hval0
  have hW' := hW
  obtain ⟨p, q, hA0, hV, rfl, hfz, hnd⟩ := hW
  have hA : DataW.TrodAll enc Try.prog W 0 (fun _ => true) true Try.f4.params.toList args.toList ds p := hA0
  rw [Try.params4] at hA hval
  obtain ⟨v0, vs0, d0, ds0, p0, q0, hargs, rfl, rfl, k0, r0⟩ := trodAll_cons hA
  obtain ⟨v1, vs1, d1, ds1, p1, q1, rfl, rfl, rfl, k1, r1⟩ := trodAll_cons r0
  obtain ⟨rfl, rfl, rfl⟩ := trodAll_nil r1
  obtain rfl : args = #[v0, v1] := by cases args; simp_all
  obtain ⟨rfl, rfl⟩ := trodVars_none hV
  have ok0 := hval 0 22 v0 rfl rfl
  have ok1 := hval 1 9 v1 rfl rfl
  have lt0 : ∀ x ∈ p0, x.block < W.heap.size := by obtain ⟨m, hm⟩ := k0; exact DataW.trod_lt m _ _ _ hm
  have lt1 : ∀ x ∈ p1, x.block < W.heap.size := by obtain ⟨m, hm⟩ := k1; exact DataW.trod_lt m _ _ _ hm
  have C : Calls Try.prog 4 #[v0, v1] W fun e w' => e = .returned (.bool true) ∧ Below W.heap.size W w' := by
    clear hA0 hval0 hval hW' hcnd hV hfz hnd
    obtain ⟨l, hl⟩ := ents_of_trod ok0 k0
    obtain ⟨s, rfl, rfl, rfl, hs⟩ := open_string Try.underlying9 ok1 k1
    rw [str_eta s]
    exact lawFinds l _ _ W hl (str_len hs)
  refine C.mono fun e W' ⟨he, bel⟩ => ?_
  subst he
  exact ⟨_, rfl, _, _, _, [], _, [], hW', trodAll_mk1 (shut_bool Try.underlying4 _), (trodAll_cons_mk (Below.trod laidOut (by kernel_rfl) (of_decide_eq_true (by kernel_rfl)) k0 bel lt0) (trodAll_cons_mk (Below.trod laidOut (by kernel_rfl) (of_decide_eq_true (by kernel_rfl)) k1 bel lt1) trodAll_mk0)), rfl, bel.frame _, fun h => by cases h⟩
theorem proved : Rows.EntryFindsSaid :=
  OpenClaim.holds_of_wide 4 Try.f4 rfl rfl rfl rfl rfl rfl rfl ⟨rfl, rfl, rfl, rfl, rfl⟩ rfl rfl rfl rfl rfl (by kernel_rfl) Try.func4 (by kernel_rfl)
    (of_decide_eq_true (by kernel_rfl)) (by unfold Func.isWrapper; first | (rw [if_pos (by decide +kernel)]; kernel_rfl) | (rw [if_neg (by decide +kernel)]; exact ⟨rfl, rfl⟩))
    (fun os started H enc _ => lifted os started H enc)
#print axioms proved
end LEntryFinds
end Go.Proofs.Ytfoablopfpmalaa
