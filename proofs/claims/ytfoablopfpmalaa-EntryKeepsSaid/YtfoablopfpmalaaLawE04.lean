/- For every list of right entries, name that may be and number above 0: what is handed in to With and Without stays, and what they answer is new memory (no condition). -/
import Derived.Test.YtfoablopfpmalaaLawBase04
import Derived.Test.YtfoablopfpmalaaKeep04
import Derived.BigQuiet
namespace Go.Proofs.Ytfoablopfpmalaa
open Go.ChangeShapes Go.WideShapes Go.ChangeAt Go.RowKit
open Go.ChangeMaps (open_string shut_string)
set_option linter.unusedVariables false

set_option maxHeartbeats 4000000 in
set_option maxRecDepth 100000 in
theorem lawKeeps (l : List Ent) (n : List UInt8) (i : Int) (v : Value) (w : World) (hv : Ents w v l) (hn : n.length ≤ maxLen) :
    Calls Try.prog 7 #[v, .string ⟨n.toArray⟩, .int .i64 i] w fun e w' => e = .returned (.bool true) ∧ Below w.heap.size w w' := by
  unfold maxLen at hn
  obtain ⟨a, ca, rfl, _, _, _⟩ := id hv
  cases hf : fewE l
  · go_enter Try.func7, Try.ntmps7
    go_wp2_with fail; refine (awake_any _).mono ?_; rintro e w1 ⟨rfl, b1⟩
    go_wp2_with fail; refine (few_any l _ _ (hv.below b1)).mono ?_; rintro e w2 ⟨rfl, rfl⟩
    rw [hf]
    go_wp2_with fail; refine (awake_any _).mono ?_; rintro e w2 ⟨rfl, b2⟩
    go_wp2
    go_ret
    exact ⟨rfl, b1.trans (b2.mono b1.size)⟩
  have hsm := fewE_small hf
  have hs1 : shortP 1000000 l := fun e he => Nat.le_trans (hsm.2 e he) (by decide)
  have hs2 : shortP 100000000 l := fun e he => Nat.le_trans (hsm.2 e he) (by decide)
  have hl50 := hsm.1
  cases hr : rightB l
  · go_enter Try.func7, Try.ntmps7
    go_wp2_with fail; refine (awake_any _).mono ?_; rintro e w1 ⟨rfl, b1⟩
    have h1 := hv.below b1
    go_wp2_with fail; refine (few_any l _ _ h1).mono ?_; rintro e w2 ⟨rfl, rfl⟩
    rw [hf]
    go_wp2_with fail; refine (refRight_any l _ _ h1 hs1).mono ?_; rintro e w2 ⟨rfl, b2⟩
    replace b2 := b1.trans (b2.mono b1.size)
    rw [hr]
    go_wp2_with fail; refine (awake_any _).mono ?_; rintro e w3 ⟨rfl, b3⟩
    go_wp2
    go_ret
    exact ⟨rfl, b2.trans (b3.mono b2.size)⟩
  have hso := ((rightB_iff l).1 hr).2
  cases hm : mayB n
  · go_enter Try.func7, Try.ntmps7
    go_wp2_with fail; refine (awake_any _).mono ?_; rintro e w1 ⟨rfl, b1⟩
    have h1 := hv.below b1
    go_wp2_with fail; refine (few_any l _ _ h1).mono ?_; rintro e w2 ⟨rfl, rfl⟩
    rw [hf]
    go_wp2_with fail; refine (refRight_any l _ _ h1 hs1).mono ?_; rintro e w2 ⟨rfl, b2⟩
    replace b2 := b1.trans (b2.mono b1.size)
    rw [hr]
    go_wp2_with fail; refine (refMay_all n _ (by omega)).mono ?_; rintro e w3 ⟨rfl, rfl⟩
    rw [hm]
    go_wp2_with fail; refine (awake_any _).mono ?_; rintro e w3 ⟨rfl, b3⟩
    go_wp2
    go_ret
    exact ⟨rfl, b2.trans (b3.mono b2.size)⟩
  have hn255 := may_len hm
  by_cases hi : i < 1
  · go_enter Try.func7, Try.ntmps7
    go_wp2_with fail; refine (awake_any _).mono ?_; rintro e w1 ⟨rfl, b1⟩
    have h1 := hv.below b1
    go_wp2_with fail; refine (few_any l _ _ h1).mono ?_; rintro e w2 ⟨rfl, rfl⟩
    rw [hf]
    go_wp2_with fail; refine (refRight_any l _ _ h1 hs1).mono ?_; rintro e w2 ⟨rfl, b2⟩
    replace b2 := b1.trans (b2.mono b1.size)
    rw [hr]
    go_wp2_with fail; refine (refMay_all n _ (by omega)).mono ?_; rintro e w3 ⟨rfl, rfl⟩
    rw [hm]
    go_wp2_with fail; refine (awake_any _).mono ?_; rintro e w3 ⟨rfl, b3⟩
    go_wp2
    go_ret
    exact ⟨rfl, b2.trans (b3.mono b2.size)⟩
  · have hwl := with_len l n i
    have hol := without_len l n
    have hwo := without_eq n hso
    have HV := Lib.hid hv
    obtain ⟨i0, hif, hz0, hz1, hz2⟩ := info_parts infoE
    go_enter Try.func7, Try.ntmps7
    go_wp2_with fail; refine (awake_any _).mono ?_; rintro e w1 ⟨rfl, b1⟩
    have h1 := hv.below b1
    clear hv
    go_wp2_with fail; refine (few_any l _ _ h1).mono ?_; rintro e w2 ⟨rfl, rfl⟩
    rw [hf]
    go_wp2_with fail; refine (refRight_any l _ _ h1 hs1).mono ?_; rintro e w2 ⟨rfl, b2⟩
    replace h1 := h1.below b2
    replace b2 := b1.trans (b2.mono b1.size)
    clear b1
    rw [hr]
    go_wp2_with fail; refine (refMay_all n _ (by omega)).mono ?_; rintro e w3 ⟨rfl, rfl⟩
    rw [hm]
    go_wp2_with (at_make; refine wpList_make_full _ rfl _ _ 22 rfl w2.heap.size 30 i0 (.agg #[.string ⟨#[]⟩, .int .i64 0]) 2 Try.underlying22 hif hz0 hz1 _ _ _ _ (l.length + 3) rfl rfl (by omega) (by omega) (by rw [hz2]; omega) (by unfold maxLen; omega) (Nat.le_refl _) ?_; intro w3 hown hgr; obtain ⟨w4, hrun, hB, hbl⟩ := room_copy (by unfold maxLen; omega) hown (h1.below ((Below.refl _ _).grown hgr (Nat.le_refl _) (fun k hk => by cases hk))))
    have hgl : w2.heap.size < w3.heap.size := (hown.lt _ rfl).2
    have b3 : Below w.heap.size w w3 := b2.trans (((Below.refl _ _).grown hgr (Nat.le_refl _) (fun k hk => by cases hk)).mono b2.size)
    have hbg : w.heap.size ≤ w2.heap.size := b2.size
    have b4 := hbl _ _ b3 hbg
    clear hbl hown hgr hrun b3 hgl b2 h1
    generalize w2.heap.size = g at *
    have hO4 := room_own hB (by unfold maxLen; omega)
    refine (With_any l n i _ _ hO4 hso (by omega) hs2 (by omega)).mono ?_
    rintro e w5 ⟨ga, rfl, hga, hBa, b5⟩
    have hgga : g < ga := Nat.lt_of_lt_of_le hB.lt hga
    have hO5 := hO4.below b5
    have hB5 := hB.next b5
    have b5' := b4.trans (b5.mono b4.size)
    have hgb5 := hB5.lt
    clear hO4 hB b4 b5 hga
    go_wp2_with fail; refine (Without_any l n _ _ hO5 hso (by omega) hs2).mono ?_; rintro e w6 ⟨gb, rfl, hgb, hBb, b6⟩
    have hggb : g < gb := Nat.lt_of_lt_of_le hgb5 hgb
    have hO6 := hO5.below b6
    have hB6 := hB5.next b6
    have hBa6 := hBa.next b6
    have b6' := b5'.trans (b6.mono b5'.size)
    clear hO5 hB5 hBa b5' b6 hgb hgb5
    have hL6 := HV.out.below b6'
    go_wp2_with fail; refine (refSame_any _ _ _ _ _ hO6 hL6).mono ?_; rintro e w7 ⟨rfl, b7⟩
    have hB7 := hB6.next b7
    have hBa7 := hBa6.next b7
    have hBb7 := hBb.next b7
    have b7' := b6'.trans (b7.mono b6'.size)
    clear hO6 hL6 hB6 hBa6 hBb b6' b7
    rw [show decide (l = l) = true from decide_eq_true rfl]
    have hat := entsV_at (l ++ List.replicate 3 zeroE) l.length (by rw [List.length_append, List.length_replicate]; omega)
    have hzz : (l ++ List.replicate 3 zeroE)[l.length]'(by rw [List.length_append, List.length_replicate]; omega) = zeroE := by
      rw [List.getElem_append_right (Nat.le_refl _)]; simp
    rw [hzz] at hat
    have d0 : w7.cell? ⟨g, l.length * 2, none⟩ = some (.string ⟨#[]⟩) := by rw [hB7.cell]; simpa using hat.1
    have d1 : w7.cell? ⟨g, l.length * 2 + 1, none⟩ = some (.int .i64 0) := by rw [hB7.cell]; simpa using hat.2
    have HB7 : Hid (∃ C : Array Value, C.size = (l.length + 3) * 2 ∧ Blk w7 g 30 C) := ⟨_, by rw [List.size_toArray, entsV_len, List.length_append, List.length_replicate], hB7⟩
    have HA7 := Lib.hid hBa7
    have HX7 := Lib.hid hBb7
    clear hat hzz hB7 hBa7 hBb7
    go_wp2
    go_loopw [11] (fun s11 wr => ∃ k : Nat, k ≤ l.length ∧ s11 = .int .i64 k ∧ Below g w7 wr ∧ Aside (∃ C : Array Value, C.size = (l.length + 3) * 2 ∧ Blk wr g 30 C) ∧ Aside (Blk wr ga 30 (entsV (withB l n i)).toArray) ∧ Aside (Blk wr gb 30 (entsV (withoutB l n)).toArray)) (fun s11 _ => l.length - (intOf s11).toNat)
    case atStart => exact ⟨0, Nat.zero_le _, rfl, Below.refl _ _, HB7.out, HA7.out, HX7.out⟩
    case round =>
      clear d0 d1
      obtain ⟨k, hk, rfl, hbw, HB, HA, HX⟩ := hrel
      by_cases hlt : k < l.length
      · obtain ⟨C, hC, hCB⟩ := HB.out
        have e0 : wr.cell? ⟨g, k * 2, none⟩ = some (C[k * 2]'(by omega)) := by rw [hCB.cell, Array.getElem?_eq_getElem]
        have e1 : wr.cell? ⟨g, k * 2 + 1, none⟩ = some (C[k * 2 + 1]'(by omega)) := by rw [hCB.cell, Array.getElem?_eq_getElem]
        have f0 : wr.frozen? ⟨g, k * 2, none⟩ = false := hCB.frozen _
        have f1 : wr.frozen? ⟨g, k * 2 + 1, none⟩ = false := hCB.frozen _
        have HC := Lib.hid hC
        have HCB := Lib.hid hCB
        generalize C[k * 2] = v0 at e0
        generalize C[k * 2 + 1] = v1 at e1
        clear hC hCB HB
        go_wp2
        go_roundw
        case rel =>
          have n1 : ga ≠ g := by omega
          have n2 : gb ≠ g := by omega
          exact ⟨k + 1, by omega, by go_num, (hbw.setCell (p := ⟨g, k * 2, none⟩) (Nat.le_refl _) _).setCell (p := ⟨g, k * 2 + 1, none⟩) (Nat.le_refl _) _, ⟨_, by rw [Array.size_setIfInBounds, Array.size_setIfInBounds]; exact HC.out, (HCB.out.set _ _).set _ _⟩,
            (HA.out.other n1 _).other n1 _, (HX.out.other n2 _).other n2 _⟩
        case measure => simp [intOf]; omega
      · obtain rfl : k = l.length := by omega
        have bw := b7'.trans (hbw.mono hbg)
        have hL := HV.out.below bw
        have hA := blk_ents HA.out (Nat.le_trans hwl (by unfold maxLen; omega))
        have hX := blk_ents HX.out (Nat.le_trans hol (by unfold maxLen; omega))
        clear b7' hbw HA HX HB
        go_wp2_with fail; refine (refWith_any l n i _ _ hL hso (by omega)).mono ?_; rintro e w9 ⟨z, rfl, ho, b9⟩
        have hz := own_ents ho
        replace hL := hL.below b9
        replace hA := hA.below b9
        replace hX := hX.below b9
        replace bw := bw.trans (b9.mono bw.size)
        clear ho b9
        go_wp2_with fail; refine (refSame_any _ _ _ _ _ hA hz).mono ?_; rintro e w10 ⟨rfl, b10⟩
        replace hL := hL.below b10
        replace hX := hX.below b10
        replace bw := bw.trans (b10.mono bw.size)
        clear hA hz b10
        rw [show decide (withB l n i = withB l n i) = true from decide_eq_true rfl]
        go_wp2_with fail; refine (refWithout_any l n _ _ hL (by omega)).mono ?_; rintro e w11 ⟨y, rfl, ho, b11⟩
        rw [hwo] at ho
        have hy := own_ents ho
        replace hX := hX.below b11
        replace bw := bw.trans (b11.mono bw.size)
        clear ho b11 hL
        go_wp2_with fail; refine (refSame_any _ _ _ _ _ hX hy).mono ?_; rintro e w12 ⟨rfl, b12⟩
        rw [show decide (withoutB l n = withoutB l n) = true from decide_eq_true rfl]
        go_wp2
        go_ret
        exact ⟨rfl, bw.trans (b12.mono bw.size)⟩

namespace LEntryKeeps
set_option maxRecDepth 100000 in
theorem lifted (os : Os) (started : os.Started) (H : Type) (enc : TypeId × Value → H) :
    ReturnsInHanded {} Try.checked os 7 .any (Rows.entryKeepsSpec.pre6 enc Try.prog Try.f7 Rows.entryKeepsRow.domain false) (Rows.entryKeepsSpec.post enc Try.prog Try.f7 false true false false) := by
  refine returnsInHanded_of_change (C := Try.checked) (by kernel_rfl) started (by kernel_rfl) Try.func7
    (ChangeSpec.witness6 (enc := enc) (C := Try.checked) false ⟨#[], #[.slice none 0 0, .string ByteArray.empty, .int .i64 0], []⟩ 8 (by kernel_rfl) (by kernel_rfl) (by kernel_rfl) (by kernel_rfl)) ?_
  intro W base args ds gs before hval0 hW hcnd _
  have hval : ∀ (j : Nat) t v, Try.f7.params[j]? = some t → args[j]? = some v → Value.okWide Try.prog W .any base t v := hval0
  have hW' := hW
  obtain ⟨p, q, hA0, hV, rfl, hfz, hnd⟩ := hW
  have hA : DataW.TrodAll enc Try.prog W 0 (fun _ => true) true Try.f7.params.toList args.toList ds p := hA0
  rw [Try.params7] at hA hval
  obtain ⟨v0, vs0, d0, ds0, p0, q0, hargs, rfl, rfl, k0, r0⟩ := trodAll_cons hA
  obtain ⟨v1, vs1, d1, ds1, p1, q1, rfl, rfl, rfl, k1, r1⟩ := trodAll_cons r0
  obtain ⟨v2, vs2, d2, ds2, p2, q2, rfl, rfl, rfl, k2, r2⟩ := trodAll_cons r1
  obtain ⟨rfl, rfl, rfl⟩ := trodAll_nil r2
  obtain rfl : args = #[v0, v1, v2] := by cases args; simp_all
  obtain ⟨rfl, rfl⟩ := trodVars_none hV
  have ok0 := hval 0 22 v0 rfl rfl
  have ok1 := hval 1 9 v1 rfl rfl
  have ok2 := hval 2 3 v2 rfl rfl
  have lt0 : ∀ x ∈ p0, x.block < W.heap.size := by obtain ⟨m, hm⟩ := k0; exact DataW.trod_lt m _ _ _ hm
  have lt1 : ∀ x ∈ p1, x.block < W.heap.size := by obtain ⟨m, hm⟩ := k1; exact DataW.trod_lt m _ _ _ hm
  have lt2 : ∀ x ∈ p2, x.block < W.heap.size := by obtain ⟨m, hm⟩ := k2; exact DataW.trod_lt m _ _ _ hm
  have C : Calls Try.prog 7 #[v0, v1, v2] W fun e w' => e = .returned (.bool true) ∧ Below W.heap.size W w' := by
    clear hA0 hval0 hval hW' hcnd hV hfz hnd
    obtain ⟨l, hl⟩ := ents_of_trod ok0 k0
    obtain ⟨s, rfl, rfl, rfl, hs⟩ := open_string Try.underlying9 ok1 k1
    obtain ⟨n, rfl, rfl, rfl, hn⟩ := open_int Try.underlying3 ok2 k2
    rw [str_eta s]
    exact lawKeeps l _ n _ W hl (str_len hs)
  refine C.mono fun e W' ⟨he, bel⟩ => ?_
  subst he
  exact ⟨_, rfl, _, _, _, [], _, [], hW', trodAll_mk1 (shut_bool Try.underlying4 _), (trodAll_cons_mk (Below.trod laidOut (by kernel_rfl) (of_decide_eq_true (by kernel_rfl)) k0 bel lt0) (trodAll_cons_mk (Below.trod laidOut (by kernel_rfl) (of_decide_eq_true (by kernel_rfl)) k1 bel lt1) (trodAll_cons_mk (Below.trod laidOut (by kernel_rfl) (of_decide_eq_true (by kernel_rfl)) k2 bel lt2) trodAll_mk0))), rfl, bel.frame _, fun h => by cases h⟩
theorem proved : Rows.EntryKeepsSaid :=
  OpenClaim.holds_of_wide 7 Try.f7 rfl rfl rfl rfl rfl rfl rfl ⟨rfl, rfl, rfl, rfl, rfl⟩ rfl rfl rfl rfl rfl (by kernel_rfl) Try.func7 (by kernel_rfl)
    (of_decide_eq_true (by kernel_rfl)) (by unfold Func.isWrapper; first | (rw [if_pos (by decide +kernel)]; kernel_rfl) | (rw [if_neg (by decide +kernel)]; exact ⟨rfl, rfl⟩))
    (fun os started H enc _ => lifted os started H enc)
#print axioms proved
end LEntryKeeps
end Go.Proofs.Ytfoablopfpmalaa
