/- For every text: the names whose plain path it is are the document's; and of every two texts that are plain paths: whether the one lies below the other is as the document says (no condition). -/
import Derived.Test.YtgonjgbdggpedaaLawBase03
namespace Go.Proofs.Ytgonjgbdggpedaa
open Go.ChangeShapes Go.WideShapes Go.ChangeAt Go.RowKit
open Go.ChangeMaps (open_string shut_string)
set_option linter.unusedVariables false

theorem plain_twice (p q : List UInt8) (w : World) (hp : p.length ≤ 9223372036854775807) (hq : q.length ≤ 9223372036854775807) (h : 5000 < p.length ∨ 5000 < q.length) :
    Calls Try.prog 6 #[.string ⟨p.toArray⟩, .string ⟨q.toArray⟩] w fun e w' => e = .returned (.bool true) ∧ Below w.heap.size w w' := by
  by_cases h1 : 5000 < p.length
  · clear h
    go_enter Try.func6, Try.ntmps6
    go_wp2_with fail; refine (awake_any _).mono ?_; rintro e w1 ⟨rfl, b1⟩
    go_wp2_with fail; refine (awake_any _).mono ?_; rintro e w2 ⟨rfl, b2⟩
    go_wp2
    go_ret
    exact ⟨rfl, b1.trans (b2.mono b1.size)⟩
  · have h2 : 5000 < q.length := h.resolve_left h1
    clear h
    go_enter Try.func6, Try.ntmps6
    go_wp2_with fail; refine (awake_any _).mono ?_; rintro e w1 ⟨rfl, b1⟩
    go_wp2_with fail; refine (awake_any _).mono ?_; rintro e w2 ⟨rfl, b2⟩
    go_wp2
    go_ret
    exact ⟨rfl, b1.trans (b2.mono b1.size)⟩

set_option maxHeartbeats 2000000 in
theorem lawPlain (p q : List UInt8) (w : World) (hp : p.length ≤ maxLen) (hq : q.length ≤ maxLen) :
    Calls Try.prog 6 #[.string ⟨p.toArray⟩, .string ⟨q.toArray⟩] w fun e w' => e = .returned (.bool true) ∧ Below w.heap.size w w' := by
  unfold maxLen at hp hq
  by_cases h1 : 5000 < p.length
  · exact plain_twice p q w hp hq (.inl h1)
  by_cases h2 : 5000 < q.length
  · exact plain_twice p q w hp hq (.inr h2)
  go_enter Try.func6, Try.ntmps6
  go_wp2_with fail; refine (awake_any _).mono ?_; rintro e w1 ⟨rfl, b1⟩
  go_wp2_with fail; refine (Plain_any p _ (by omega)).mono ?_; rintro e w2 ⟨v2, rfl, s2, b2⟩
  replace b2 := b1.trans (b2.mono b1.size)
  clear b1
  go_wp2_with fail; refine (refPlain_any p _ (by omega)).mono ?_; rintro e w3 ⟨v3, rfl, s3, b3⟩
  replace s2 := s2.below b3
  replace b3 := b2.trans (b3.mono b2.size)
  clear b2
  go_wp2_with fail; refine (refPlain_any q _ (by omega)).mono ?_; rintro e w4 ⟨v4, rfl, s4, b4⟩
  replace s2 := s2.below b4
  replace s3 := s3.below b4
  replace b4 := b3.trans (b4.mono b3.size)
  clear b3 s4
  have hsame : ((plainB p).isSome != (plainB p).isSome) = false := by simp
  go_wp2_with fail; refine (Same_any _ _ _ _ _ s2 s3).mono ?_; rintro e w5 ⟨rfl, b5⟩
  have hd : decide ((plainB p).getD [] = (plainB p).getD []) = true := by simp
  rw [hd]
  replace b5 := b4.trans (b5.mono b4.size)
  clear b4 s2 s3
  cases hpp : plainB p with
  | none =>
    go_wp2
    go_ret
    exact ⟨rfl, b5⟩
  | some ns =>
    cases hqq : plainB q with
    | none =>
      go_wp2
      go_ret
      exact ⟨rfl, b5⟩
    | some ms =>
      have HU : Hid (underB p q = (namesB q).isPrefixOf (namesB p)) := by
        obtain ⟨j1, g1, e1⟩ := plainB_yes hpp
        obtain ⟨j2, g2, e2⟩ := plainB_yes hqq
        (show _ = _); rw [e1, e2, ← j1, ← j2]; exact under_prefix g1 g2
      go_wp2_with fail; refine (Under_any p q _ (by omega) (by omega)).mono ?_; rintro e w6 ⟨rfl, rfl⟩
      go_wp2_with fail; refine (refUnder_any p q _ (by omega) (by omega)).mono ?_; rintro e w6 ⟨rfl, b6⟩
      go_wp2
      go_ret
      exact ⟨ret_bool (by rw [HU.out]; simp), b5.trans (b6.mono b5.size)⟩

namespace LPathPlain
set_option maxRecDepth 100000 in
theorem lifted (os : Os) (started : os.Started) (H : Type) (enc : TypeId × Value → H) :
    ReturnsInHanded {} Try.checked os 6 .any (Rows.pathPlainSpec.pre6 enc Try.prog Try.f6 Rows.pathPlainRow.domain false) (Rows.pathPlainSpec.post enc Try.prog Try.f6 false true false false) := by
  refine returnsInHanded_of_change (C := Try.checked) (by kernel_rfl) started (by kernel_rfl) Try.func6
    (ChangeSpec.witness6 (enc := enc) (C := Try.checked) false ⟨#[], #[.string ByteArray.empty, .string ByteArray.empty], []⟩ 8 (by kernel_rfl) (by kernel_rfl) (by kernel_rfl) (by kernel_rfl)) ?_
  intro W base args ds gs before hval0 hW hcnd _
  have hval : ∀ (j : Nat) t v, Try.f6.params[j]? = some t → args[j]? = some v → Value.okWide Try.prog W .any base t v := hval0
  have hW' := hW
  obtain ⟨p, q, hA0, hV, rfl, hfz, hnd⟩ := hW
  have hA : DataW.TrodAll enc Try.prog W 0 (fun _ => true) true Try.f6.params.toList args.toList ds p := hA0
  rw [Try.params6] at hA hval
  obtain ⟨v0, vs0, d0, ds0, p0, q0, hargs, rfl, rfl, k0, r0⟩ := trodAll_cons hA
  obtain ⟨v1, vs1, d1, ds1, p1, q1, rfl, rfl, rfl, k1, r1⟩ := trodAll_cons r0
  obtain ⟨rfl, rfl, rfl⟩ := trodAll_nil r1
  obtain rfl : args = #[v0, v1] := by cases args; simp_all
  obtain ⟨rfl, rfl⟩ := trodVars_none hV
  have ok0 := hval 0 9 v0 rfl rfl
  have ok1 := hval 1 9 v1 rfl rfl
  have lt0 : ∀ x ∈ p0, x.block < W.heap.size := by obtain ⟨m, hm⟩ := k0; exact DataW.trod_lt m _ _ _ hm
  have lt1 : ∀ x ∈ p1, x.block < W.heap.size := by obtain ⟨m, hm⟩ := k1; exact DataW.trod_lt m _ _ _ hm
  have C : Calls Try.prog 6 #[v0, v1] W fun e w' => e = .returned (.bool true) ∧ Below W.heap.size W w' := by
    clear hA0 hval0 hval hW' hcnd hV hfz hnd
    obtain ⟨s, rfl, rfl, rfl, hs⟩ := open_string Try.underlying9 ok0 k0
    obtain ⟨t, rfl, rfl, rfl, ht⟩ := open_string Try.underlying9 ok1 k1
    rw [str_eta s, str_eta t]
    exact lawPlain _ _ W (str_len hs) (str_len ht)
  refine C.mono fun e W' ⟨he, bel⟩ => ?_
  subst he
  exact ⟨_, rfl, _, _, _, [], _, [], hW', trodAll_mk1 (shut_bool Try.underlying4 _), (trodAll_cons_mk (Below.trod laidOut (by kernel_rfl) (of_decide_eq_true (by kernel_rfl)) k0 bel lt0) (trodAll_cons_mk (Below.trod laidOut (by kernel_rfl) (of_decide_eq_true (by kernel_rfl)) k1 bel lt1) trodAll_mk0)), rfl, bel.frame _, fun h => by cases h⟩
theorem proved : Rows.PathPlainSaid :=
  OpenClaim.holds_of_wide 6 Try.f6 rfl rfl rfl rfl rfl rfl rfl ⟨rfl, rfl, rfl, rfl, rfl⟩ rfl rfl rfl rfl rfl (by kernel_rfl) Try.func6 (by kernel_rfl)
    (of_decide_eq_true (by kernel_rfl)) (by unfold Func.isWrapper; first | (rw [if_pos (by decide +kernel)]; kernel_rfl) | (rw [if_neg (by decide +kernel)]; exact ⟨rfl, rfl⟩))
    (fun os started H enc _ => lifted os started H enc)
#print axioms proved
end LPathPlain

end Go.Proofs.Ytgonjgbdggpedaa
