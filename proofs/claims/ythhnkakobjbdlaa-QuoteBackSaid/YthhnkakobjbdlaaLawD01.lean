/- For every two texts: what is quoted is read as it was; what is read, quoted, is the form; unlike texts have unlike forms, of signs and blanks alone (no condition). -/
import Derived.Test.YthhnkakobjbdlaaLawBase
import Derived.Test.YthhnkakobjbdlaaPure01f
import Derived.Deep.LoopGhost
set_option linter.unusedVariables false
set_option linter.unusedSimpArgs false
namespace Go.Proofs.Ythhnkakobjbdlaa
open Go.ChangeShapes Go.WideShapes Go.ChangeAt Go.RowKit
open Go.ChangeMaps (open_string shut_string)
set_option linter.unusedVariables false

set_option maxHeartbeats 1000000 in
theorem lawBack (s t : List UInt8) (w : World) (hs : s.length ≤ maxLen) (ht : t.length ≤ maxLen) :
    Calls Try.prog 6 #[.string ⟨s.toArray⟩, .string ⟨t.toArray⟩] w fun e w' => e = .returned (.bool true) ∧ Below w.heap.size w w' := by
  unfold maxLen at hs ht
  by_cases h1 : s.length ≤ 1000
  · by_cases h2 : t.length ≤ 1000
    · go_enter Try.func6, Try.ntmps6
      go_wp2_with fail
      refine (awake_any _).mono ?_
      rintro e w1 ⟨rfl, b1⟩
      go_wp2_with fail
      refine (Quote_any s _ (by omega)).mono ?_
      rintro e w2 ⟨rfl, b2⟩
      replace b2 := b1.trans (b2.mono b1.size)
      clear b1
      have hqs := Lib.hid (quoteB_sign s)
      have hql := quoteB_len s
      have hqi : (quoteB s == quoteB t) = (s == t) := by
        rw [Bool.eq_iff_iff]; simp only [beq_iff_eq]; exact ⟨quoteB_inj, fun e => by rw [e]⟩
      have HU := Lib.hid (unqV_some (unquoteB_quote s))
      have HB := Lib.hid (fun b (h : unquoteB t = some b) => unquoteB_some h)
      generalize quoteB s = q at *
      go_wp2_with fail
      refine (Unquote_any q _ (by omega)).mono ?_
      rintro e w3 ⟨rfl, b3⟩
      rw [HU.out]
      replace b3 := b2.trans (b3.mono b2.size)
      clear b2 HU
      go_wp2_with fail
      refine (Quote_any t _ (by omega)).mono ?_
      rintro e w4 ⟨rfl, b4⟩
      replace b4 := b3.trans (b4.mono b3.size)
      clear b3
      go_wp2
      go_loop [8] (fun i => ∃ k : Nat, k ≤ q.length ∧ i = .int .i64 k) (fun i => q.length - (intOf i).toNat)
      case atStart => exact ⟨0, Nat.zero_le _, rfl⟩
      case round =>
        obtain ⟨k, hk, rfl⟩ := hrel
        by_cases hlt : k < q.length
        · have hg := hqs.out q[k] (List.getElem_mem hlt)
          simp only [signB, Bool.and_eq_true, decide_eq_true_eq] at hg
          obtain ⟨hg1, hg2⟩ := hg
          have g1 : (32 : Int) ≤ (q[k].toNat : Int) := by omega
          have g2 : (q[k].toNat : Int) ≤ 126 := by omega
          clear hqi
          go_wp2
          go_round
          case rel => exact ⟨k + 1, by omega, by go_num⟩
          case measure => simp [intOf]; omega
        · clear hqi
          go_wp2_with fail; refine (Unquote_any t _ (by omega)).mono ?_; rintro e w5 ⟨rfl, b5⟩
          replace b5 := b4.trans (b5.mono b4.size)
          clear b4
          cases hu : unquoteB t with
          | none =>
            rw [unqV_none hu]
            go_wp2
            go_ret
            exact ⟨rfl, b5⟩
          | some b =>
            rw [unqV_some hu]
            have hb := HB.out b hu
            have hbl : b.length ≤ 1000 := by
              have h3 := congrArg List.length hb
              have h4 := forms_len (x := b) (r := []) rfl
              simp [quoteB] at h3 h4; omega
            have HBB := Lib.hid (show (quoteB b == t) = true by simp [hb])
            clear hu hb
            go_wp2_with fail; refine (Quote_any b _ (by omega)).mono ?_; rintro e w6 ⟨rfl, b6⟩
            go_wp2
            go_ret
            exact ⟨ret_bool HBB.out, b5.trans (b6.mono b5.size)⟩
    · (go_enter Try.func6, Try.ntmps6; go_wp2_with fail; refine (awake_any _).mono ?_; rintro e w1 ⟨rfl, b1⟩; go_wp2_with fail; refine (awake_any _).mono ?_; rintro e w2 ⟨rfl, b2⟩; go_wp2; go_ret; exact ⟨rfl, b1.trans (b2.mono b1.size)⟩)
  · (go_enter Try.func6, Try.ntmps6; go_wp2_with fail; refine (awake_any _).mono ?_; rintro e w1 ⟨rfl, b1⟩; go_wp2_with fail; refine (awake_any _).mono ?_; rintro e w2 ⟨rfl, b2⟩; go_wp2; go_ret; exact ⟨rfl, b1.trans (b2.mono b1.size)⟩)

namespace LQuoteBack
set_option maxRecDepth 100000 in
theorem lifted (os : Os) (started : os.Started) (H : Type) (enc : TypeId × Value → H) :
    ReturnsInHanded {} Try.checked os 6 .any (Rows.quoteBackSpec.pre6 enc Try.prog Try.f6 Rows.quoteBackRow.domain false) (Rows.quoteBackSpec.post enc Try.prog Try.f6 false true false false) := by
  refine returnsInHanded_of_change (C := Try.checked) (by kernel_rfl) started (by kernel_rfl) Try.func6
    (ChangeSpec.witness6 (enc := enc) (C := Try.checked) false ⟨#[], #[.string ByteArray.empty, .string ByteArray.empty], []⟩ 8 (by kernel_rfl) (by kernel_rfl) (by kernel_rfl) (by kernel_rfl)) ?_
  intro W base args ds gs before hval0 hW hcnd _
  have hval : ∀ (j : Nat) t v, Try.f6.params[j]? = some t → args[j]? = some v → Value.okWide Try.prog W .any base t v := hval0
  have hW' := hW
  obtain ⟨p, q, hA0, hV, rfl, hfz, hnd⟩ := hW
  have hA : DataW.TrodAll enc Try.prog W 0 (fun _ => true) true Try.f6.params.toList args.toList ds p := hA0
  rw [Try.params6] at hA hval
  obtain ⟨v0, vs0, d0, ds0, p0, q0, hargs, rfl, rfl, k0, r0⟩ := trodAll_cons hA
  obtain ⟨v1, vs1, d1, ds1, p1, q1, rfl, rfl, rfl, k1, r1⟩ := trodAll_cons r0
  obtain ⟨rfl, rfl, rfl⟩ := trodAll_nil r1
  obtain rfl : args = #[v0, v1] := by cases args; simp_all
  obtain ⟨rfl, rfl⟩ := trodVars_none hV
  have ok0 := hval 0 9 v0 rfl rfl
  have ok1 := hval 1 9 v1 rfl rfl
  have lt0 : ∀ x ∈ p0, x.block < W.heap.size := by obtain ⟨m, hm⟩ := k0; exact DataW.trod_lt m _ _ _ hm
  have lt1 : ∀ x ∈ p1, x.block < W.heap.size := by obtain ⟨m, hm⟩ := k1; exact DataW.trod_lt m _ _ _ hm
  have C : Calls Try.prog 6 #[v0, v1] W fun e w' => e = .returned (.bool true) ∧ Below W.heap.size W w' := by
    clear hA0 hval0 hval hW' hcnd hV hfz hnd
    obtain ⟨s, rfl, rfl, rfl, hs⟩ := open_string Try.underlying9 ok0 k0
    obtain ⟨t, rfl, rfl, rfl, ht⟩ := open_string Try.underlying9 ok1 k1
    rw [str_eta s, str_eta t]
    exact lawBack _ _ W (str_len hs) (str_len ht)
  refine C.mono fun e W' ⟨he, bel⟩ => ?_
  subst he
  exact ⟨_, rfl, _, _, _, [], _, [], hW', trodAll_mk1 (shut_bool Try.underlying4 _), (trodAll_cons_mk (Below.trod laidOut (by kernel_rfl) (of_decide_eq_true (by kernel_rfl)) k0 bel lt0) (trodAll_cons_mk (Below.trod laidOut (by kernel_rfl) (of_decide_eq_true (by kernel_rfl)) k1 bel lt1) trodAll_mk0)), rfl, bel.frame _, fun h => by cases h⟩
theorem proved : Rows.QuoteBackSaid :=
  OpenClaim.holds_of_wide 6 Try.f6 rfl rfl rfl rfl rfl rfl rfl ⟨rfl, rfl, rfl, rfl, rfl⟩ rfl rfl rfl rfl rfl (by kernel_rfl) Try.func6 (by kernel_rfl)
    (of_decide_eq_true (by kernel_rfl)) (by unfold Func.isWrapper; first | (rw [if_pos (by decide +kernel)]; kernel_rfl) | (rw [if_neg (by decide +kernel)]; exact ⟨rfl, rfl⟩))
    (fun os started H enc _ => lifted os started H enc)
#print axioms proved
end LQuoteBack
end Go.Proofs.Ythhnkakobjbdlaa
