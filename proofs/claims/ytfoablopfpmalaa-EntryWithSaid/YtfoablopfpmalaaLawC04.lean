/- For every list of right entries, every name that may be and every number above 0: the entries with it that package entry answers are the document's (no condition). -/
import Derived.Test.YtfoablopfpmalaaLawBase04
namespace Go.Proofs.Ytfoablopfpmalaa
open Go.ChangeShapes Go.WideShapes Go.ChangeAt Go.RowKit
open Go.ChangeMaps (open_string shut_string)
set_option linter.unusedVariables false

set_option maxHeartbeats 2000000 in
theorem lawWith (l : List Ent) (n : List UInt8) (i : Int) (v : Value) (w : World) (hv : Ents w v l) (hn : n.length ≤ maxLen) :
    Calls Try.prog 5 #[v, .string ⟨n.toArray⟩, .int .i64 i] w fun e w' => e = .returned (.bool true) ∧ Below w.heap.size w w' := by
  unfold maxLen at hn
  obtain ⟨a, ca, rfl, _, _, _⟩ := id hv
  cases hf : fewE l
  · go_enter Try.func5, Try.ntmps5
    go_wp2_with fail; refine (awake_any _).mono ?_; rintro e w1 ⟨rfl, b1⟩
    go_wp2_with fail; refine (few_any l _ _ (hv.below b1)).mono ?_; rintro e w2 ⟨rfl, rfl⟩
    rw [hf]
    go_wp2_with fail; refine (awake_any _).mono ?_; rintro e w2 ⟨rfl, b2⟩
    go_wp2
    go_ret
    exact ⟨rfl, b1.trans (b2.mono b1.size)⟩
  have hsm := fewE_small hf
  have hs1 : shortP 1000000 l := fun e he => Nat.le_trans (hsm.2 e he) (by decide)
  have hs2 : shortP 100000000 l := fun e he => Nat.le_trans (hsm.2 e he) (by decide)
  have hl50 := hsm.1
  cases hr : rightB l
  · go_enter Try.func5, Try.ntmps5
    go_wp2_with fail; refine (awake_any _).mono ?_; rintro e w1 ⟨rfl, b1⟩
    have h1 := hv.below b1
    go_wp2_with fail; refine (few_any l _ _ h1).mono ?_; rintro e w2 ⟨rfl, rfl⟩
    rw [hf]
    go_wp2_with fail; refine (refRight_any l _ _ h1 hs1).mono ?_; rintro e w2 ⟨rfl, b2⟩
    replace b2 := b1.trans (b2.mono b1.size)
    rw [hr]
    go_wp2_with fail; refine (awake_any _).mono ?_; rintro e w3 ⟨rfl, b3⟩
    go_wp2
    go_ret
    exact ⟨rfl, b2.trans (b3.mono b2.size)⟩
  have hso := ((rightB_iff l).1 hr).2
  cases hm : mayB n
  · go_enter Try.func5, Try.ntmps5
    go_wp2_with fail; refine (awake_any _).mono ?_; rintro e w1 ⟨rfl, b1⟩
    have h1 := hv.below b1
    go_wp2_with fail; refine (few_any l _ _ h1).mono ?_; rintro e w2 ⟨rfl, rfl⟩
    rw [hf]
    go_wp2_with fail; refine (refRight_any l _ _ h1 hs1).mono ?_; rintro e w2 ⟨rfl, b2⟩
    replace b2 := b1.trans (b2.mono b1.size)
    rw [hr]
    go_wp2_with fail; refine (refMay_all n _ (by omega)).mono ?_; rintro e w3 ⟨rfl, rfl⟩
    rw [hm]
    go_wp2_with fail; refine (awake_any _).mono ?_; rintro e w3 ⟨rfl, b3⟩
    go_wp2
    go_ret
    exact ⟨rfl, b2.trans (b3.mono b2.size)⟩
  have hn255 := may_len hm
  by_cases hi : i < 1
  · go_enter Try.func5, Try.ntmps5
    go_wp2_with fail; refine (awake_any _).mono ?_; rintro e w1 ⟨rfl, b1⟩
    have h1 := hv.below b1
    go_wp2_with fail; refine (few_any l _ _ h1).mono ?_; rintro e w2 ⟨rfl, rfl⟩
    rw [hf]
    go_wp2_with fail; refine (refRight_any l _ _ h1 hs1).mono ?_; rintro e w2 ⟨rfl, b2⟩
    replace b2 := b1.trans (b2.mono b1.size)
    rw [hr]
    go_wp2_with fail; refine (refMay_all n _ (by omega)).mono ?_; rintro e w3 ⟨rfl, rfl⟩
    rw [hm]
    go_wp2_with fail; refine (awake_any _).mono ?_; rintro e w3 ⟨rfl, b3⟩
    go_wp2
    go_ret
    exact ⟨rfl, b2.trans (b3.mono b2.size)⟩
  · go_enter Try.func5, Try.ntmps5
    go_wp2_with fail; refine (awake_any _).mono ?_; rintro e w1 ⟨rfl, b1⟩
    have h1 := hv.below b1
    clear hv
    go_wp2_with fail; refine (few_any l _ _ h1).mono ?_; rintro e w2 ⟨rfl, rfl⟩
    rw [hf]
    go_wp2_with fail; refine (refRight_any l _ _ h1 hs1).mono ?_; rintro e w2 ⟨rfl, b2⟩
    replace h1 := h1.below b2
    replace b2 := b1.trans (b2.mono b1.size)
    clear b1
    rw [hr]
    go_wp2_with fail; refine (refMay_all n _ (by omega)).mono ?_; rintro e w3 ⟨rfl, rfl⟩
    rw [hm]
    have hwl := with_len l n i
    go_wp2_with fail; refine (With_any l n i _ _ h1 hso (by omega) hs2 (by omega)).mono ?_; rintro e w5 h5
    obtain ⟨y, rfl, h6, b6⟩ := new_ents h5 (Nat.le_trans hwl (by unfold maxLen; omega))
    replace h1 := h1.below b6
    replace b6 := b2.trans (b6.mono b2.size)
    clear b2 h5
    go_wp2_with fail; refine (refWith_any l n i _ _ h1 hso (by omega)).mono ?_; rintro e w7 ⟨z, rfl, ho, b7⟩
    have h7 := own_ents ho
    replace h6 := h6.below b7
    replace b7 := b6.trans (b7.mono b6.size)
    clear b6 ho
    go_wp2_with fail; refine (refSame_any _ _ _ _ _ h6 h7).mono ?_; rintro e w8 ⟨rfl, b8⟩
    go_wp2
    go_ret
    exact ⟨ret_bool (by simp), b7.trans (b8.mono b7.size)⟩

namespace LEntryWith
set_option maxRecDepth 100000 in
theorem lifted (os : Os) (started : os.Started) (H : Type) (enc : TypeId × Value → H) :
    ReturnsInHanded {} Try.checked os 5 .any (Rows.entryWithSpec.pre6 enc Try.prog Try.f5 Rows.entryWithRow.domain false) (Rows.entryWithSpec.post enc Try.prog Try.f5 false true false false) := by
  refine returnsInHanded_of_change (C := Try.checked) (by kernel_rfl) started (by kernel_rfl) Try.func5
    (ChangeSpec.witness6 (enc := enc) (C := Try.checked) false ⟨#[], #[.slice none 0 0, .string ByteArray.empty, .int .i64 0], []⟩ 8 (by kernel_rfl) (by kernel_rfl) (by kernel_rfl) (by kernel_rfl)) ?_
  intro W base args ds gs before hval0 hW hcnd _
  have hval : ∀ (j : Nat) t v, Try.f5.params[j]? = some t → args[j]? = some v → Value.okWide Try.prog W .any base t v := hval0
  have hW' := hW
  obtain ⟨p, q, hA0, hV, rfl, hfz, hnd⟩ := hW
  have hA : DataW.TrodAll enc Try.prog W 0 (fun _ => true) true Try.f5.params.toList args.toList ds p := hA0
  rw [Try.params5] at hA hval
  obtain ⟨v0, vs0, d0, ds0, p0, q0, hargs, rfl, rfl, k0, r0⟩ := trodAll_cons hA
  obtain ⟨v1, vs1, d1, ds1, p1, q1, rfl, rfl, rfl, k1, r1⟩ := trodAll_cons r0
  obtain ⟨v2, vs2, d2, ds2, p2, q2, rfl, rfl, rfl, k2, r2⟩ := trodAll_cons r1
  obtain ⟨rfl, rfl, rfl⟩ := trodAll_nil r2
  obtain rfl : args = #[v0, v1, v2] := by cases args; simp_all
  obtain ⟨rfl, rfl⟩ := trodVars_none hV
  have ok0 := hval 0 22 v0 rfl rfl
  have ok1 := hval 1 9 v1 rfl rfl
  have ok2 := hval 2 3 v2 rfl rfl
  have lt0 : ∀ x ∈ p0, x.block < W.heap.size := by obtain ⟨m, hm⟩ := k0; exact DataW.trod_lt m _ _ _ hm
  have lt1 : ∀ x ∈ p1, x.block < W.heap.size := by obtain ⟨m, hm⟩ := k1; exact DataW.trod_lt m _ _ _ hm
  have lt2 : ∀ x ∈ p2, x.block < W.heap.size := by obtain ⟨m, hm⟩ := k2; exact DataW.trod_lt m _ _ _ hm
  have C : Calls Try.prog 5 #[v0, v1, v2] W fun e w' => e = .returned (.bool true) ∧ Below W.heap.size W w' := by
    clear hA0 hval0 hval hW' hcnd hV hfz hnd
    obtain ⟨l, hl⟩ := ents_of_trod ok0 k0
    obtain ⟨s, rfl, rfl, rfl, hs⟩ := open_string Try.underlying9 ok1 k1
    obtain ⟨n, rfl, rfl, rfl, hn⟩ := open_int Try.underlying3 ok2 k2
    rw [str_eta s]
    exact lawWith l _ n _ W hl (str_len hs)
  refine C.mono fun e W' ⟨he, bel⟩ => ?_
  subst he
  exact ⟨_, rfl, _, _, _, [], _, [], hW', trodAll_mk1 (shut_bool Try.underlying4 _), (trodAll_cons_mk (Below.trod laidOut (by kernel_rfl) (of_decide_eq_true (by kernel_rfl)) k0 bel lt0) (trodAll_cons_mk (Below.trod laidOut (by kernel_rfl) (of_decide_eq_true (by kernel_rfl)) k1 bel lt1) (trodAll_cons_mk (Below.trod laidOut (by kernel_rfl) (of_decide_eq_true (by kernel_rfl)) k2 bel lt2) trodAll_mk0))), rfl, bel.frame _, fun h => by cases h⟩
theorem proved : Rows.EntryWithSaid :=
  OpenClaim.holds_of_wide 5 Try.f5 rfl rfl rfl rfl rfl rfl rfl ⟨rfl, rfl, rfl, rfl, rfl⟩ rfl rfl rfl rfl rfl (by kernel_rfl) Try.func5 (by kernel_rfl)
    (of_decide_eq_true (by kernel_rfl)) (by unfold Func.isWrapper; first | (rw [if_pos (by decide +kernel)]; kernel_rfl) | (rw [if_neg (by decide +kernel)]; exact ⟨rfl, rfl⟩))
    (fun os started H enc _ => lifted os started H enc)
#print axioms proved
end LEntryWith
end Go.Proofs.Ytfoablopfpmalaa
