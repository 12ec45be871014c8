/- For every name and number: whether the name may be, and whether it, and it with so many zero bytes behind it, is too long, is as the document says (no condition). -/
import Derived.Test.YtgonjgbdggpedaaLawBase03
namespace Go.Proofs.Ytgonjgbdggpedaa
open Go.ChangeShapes Go.WideShapes Go.ChangeAt Go.RowKit
open Go.ChangeMaps (open_string shut_string)
set_option linter.unusedVariables false

theorem may_twice (l : List UInt8) (k : Nat) (w : World) (hl : l.length ≤ 9223372036854775807) (hk : k ≤ 65535) (h : 5000 < l.length ∨ 5000 < k) :
    Calls Try.prog 5 #[.string ⟨l.toArray⟩, .int .u16 (k : Int)] w fun e w' => e = .returned (.bool true) ∧ Below w.heap.size w w' := by
  by_cases h1 : 5000 < l.length
  · clear h
    go_enter Try.func5, Try.ntmps5
    go_wp2_with fail; refine (awake_any _).mono ?_; rintro e w1 ⟨rfl, b1⟩
    go_wp2_with fail; refine (awake_any _).mono ?_; rintro e w2 ⟨rfl, b2⟩
    go_wp2
    go_ret
    exact ⟨rfl, b1.trans (b2.mono b1.size)⟩
  · have h2 : 5000 < k := h.resolve_left h1
    clear h
    go_enter Try.func5, Try.ntmps5
    go_wp2_with fail; refine (awake_any _).mono ?_; rintro e w1 ⟨rfl, b1⟩
    go_wp2_with fail; refine (awake_any _).mono ?_; rintro e w2 ⟨rfl, b2⟩
    go_wp2
    go_ret
    exact ⟨rfl, b1.trans (b2.mono b1.size)⟩

set_option maxHeartbeats 2000000 in
theorem lawMay (l : List UInt8) (k : Nat) (w : World) (hl : l.length ≤ maxLen) (hk : k ≤ 65535) :
    Calls Try.prog 5 #[.string ⟨l.toArray⟩, .int .u16 (k : Int)] w fun e w' => e = .returned (.bool true) ∧ Below w.heap.size w w' := by
  unfold maxLen at hl
  by_cases h1 : 5000 < l.length
  · exact may_twice l k w hl hk (.inl h1)
  by_cases h2 : 5000 < k
  · exact may_twice l k w hl hk (.inr h2)
  have hrl : (List.replicate k (0 : UInt8)).length = k := by simp
  go_enter Try.func5, Try.ntmps5
  go_wp2_with fail; refine (awake_any _).mono ?_; rintro e w1 ⟨rfl, b1⟩
  obtain ⟨w2, hm, hcv, b2⟩ := zeros k (by omega) w1
  replace b2 := b1.trans (b2.mono b1.size)
  clear b1
  go_wp2_with fail
  clear hm hcv
  have hcat : ByteArray.mk l.toArray ++ ByteArray.mk (Array.replicate k 0) = ⟨(l ++ List.replicate k 0).toArray⟩ := by
    apply ByteArray.ext; simp [ByteArray.data_append]
  have hL : (l ++ List.replicate k (0 : UInt8)).length ≤ 10000 := by rw [List.length_append, hrl]; omega
  rw [hcat]
  clear hcat hrl
  generalize l ++ List.replicate k (0 : UInt8) = L at *
  refine (May_any l _ (by omega)).mono ?_
  rintro e w3 ⟨rfl, b3⟩
  replace b3 := b2.trans (b3.mono b2.size)
  clear b2
  go_wp2_with fail; refine (refMay_any l _ (by omega)).mono ?_; rintro e w4 ⟨rfl, rfl⟩
  go_wp2_with fail; refine (Long_any l (by omega) _).mono ?_; rintro e w4 ⟨rfl, b4⟩
  replace b4 := b3.trans (b4.mono b3.size)
  clear b3
  go_wp2_with fail; refine (refLong_any l _ (by omega)).mono ?_; rintro e w5 ⟨rfl, b5⟩
  replace b5 := b4.trans (b5.mono b4.size)
  clear b4
  go_wp2_with fail; refine (Long_any L (by omega) _).mono ?_; rintro e w6 ⟨rfl, b6⟩
  replace b6 := b5.trans (b6.mono b5.size)
  clear b5
  go_wp2_with fail; refine (refLong_any L _ (by omega)).mono ?_; rintro e w7 ⟨rfl, b7⟩
  replace b7 := b6.trans (b7.mono b6.size)
  clear b6
  go_wp2_with fail; refine (May_any L _ (by omega)).mono ?_; rintro e w8 ⟨rfl, b8⟩
  replace b8 := b7.trans (b8.mono b7.size)
  clear b7
  go_wp2_with fail; refine (refMay_any L _ (by omega)).mono ?_; rintro e w9 ⟨rfl, rfl⟩
  go_wp2
  go_ret
  exact ⟨ret_bool (by simp), b8⟩

namespace LPathMay
set_option maxRecDepth 100000 in
theorem lifted (os : Os) (started : os.Started) (H : Type) (enc : TypeId × Value → H) :
    ReturnsInHanded {} Try.checked os 5 .any (Rows.pathMaySpec.pre6 enc Try.prog Try.f5 Rows.pathMayRow.domain false) (Rows.pathMaySpec.post enc Try.prog Try.f5 false true false false) := by
  refine returnsInHanded_of_change (C := Try.checked) (by kernel_rfl) started (by kernel_rfl) Try.func5
    (ChangeSpec.witness6 (enc := enc) (C := Try.checked) false ⟨#[], #[.string ByteArray.empty, .int .u16 0], []⟩ 8 (by kernel_rfl) (by kernel_rfl) (by kernel_rfl) (by kernel_rfl)) ?_
  intro W base args ds gs before hval0 hW hcnd _
  have hval : ∀ (j : Nat) t v, Try.f5.params[j]? = some t → args[j]? = some v → Value.okWide Try.prog W .any base t v := hval0
  have hW' := hW
  obtain ⟨p, q, hA0, hV, rfl, hfz, hnd⟩ := hW
  have hA : DataW.TrodAll enc Try.prog W 0 (fun _ => true) true Try.f5.params.toList args.toList ds p := hA0
  rw [Try.params5] at hA hval
  obtain ⟨v0, vs0, d0, ds0, p0, q0, hargs, rfl, rfl, k0, r0⟩ := trodAll_cons hA
  obtain ⟨v1, vs1, d1, ds1, p1, q1, rfl, rfl, rfl, k1, r1⟩ := trodAll_cons r0
  obtain ⟨rfl, rfl, rfl⟩ := trodAll_nil r1
  obtain rfl : args = #[v0, v1] := by cases args; simp_all
  obtain ⟨rfl, rfl⟩ := trodVars_none hV
  have ok0 := hval 0 9 v0 rfl rfl
  have ok1 := hval 1 35 v1 rfl rfl
  have lt0 : ∀ x ∈ p0, x.block < W.heap.size := by obtain ⟨m, hm⟩ := k0; exact DataW.trod_lt m _ _ _ hm
  have lt1 : ∀ x ∈ p1, x.block < W.heap.size := by obtain ⟨m, hm⟩ := k1; exact DataW.trod_lt m _ _ _ hm
  have C : Calls Try.prog 5 #[v0, v1] W fun e w' => e = .returned (.bool true) ∧ Below W.heap.size W w' := by
    clear hA0 hval0 hval hW' hcnd hV hfz hnd
    obtain ⟨s, rfl, rfl, rfl, hs⟩ := open_string Try.underlying9 ok0 k0
    obtain ⟨n, rfl, rfl, rfl, hn⟩ := open_int Try.underlying35 ok1 k1
    obtain ⟨n0, n1⟩ := bounds_u16 hn
    obtain ⟨k, rfl⟩ : ∃ k : Nat, n = k := ⟨n.toNat, by omega⟩
    rw [str_eta s]
    exact lawMay _ k W (str_len hs) (by omega)
  refine C.mono fun e W' ⟨he, bel⟩ => ?_
  subst he
  exact ⟨_, rfl, _, _, _, [], _, [], hW', trodAll_mk1 (shut_bool Try.underlying4 _), (trodAll_cons_mk (Below.trod laidOut (by kernel_rfl) (of_decide_eq_true (by kernel_rfl)) k0 bel lt0) (trodAll_cons_mk (Below.trod laidOut (by kernel_rfl) (of_decide_eq_true (by kernel_rfl)) k1 bel lt1) trodAll_mk0)), rfl, bel.frame _, fun h => by cases h⟩
theorem proved : Rows.PathMaySaid :=
  OpenClaim.holds_of_wide 5 Try.f5 rfl rfl rfl rfl rfl rfl rfl ⟨rfl, rfl, rfl, rfl, rfl⟩ rfl rfl rfl rfl rfl (by kernel_rfl) Try.func5 (by kernel_rfl)
    (of_decide_eq_true (by kernel_rfl)) (by unfold Func.isWrapper; first | (rw [if_pos (by decide +kernel)]; kernel_rfl) | (rw [if_neg (by decide +kernel)]; exact ⟨rfl, rfl⟩))
    (fun os started H enc _ => lifted os started H enc)
#print axioms proved
end LPathMay

end Go.Proofs.Ytgonjgbdggpedaa
