/- For every sequence of entries put in and taken away again: what was put last under a name is found, what was taken away isn't, and the entries stay right (no condition). -/
import Derived.Test.YtfoablopfpmalaaLawBase04
import Derived.BigQuiet
import Derived.Deep.RegionWith
import Derived.Deep.Cut
import Derived.Deep.CutRange
namespace Go.Proofs.Ytfoablopfpmalaa
open Go.ChangeShapes Go.WideShapes Go.ChangeAt Go.RowKit
open Go.ChangeMaps (open_string shut_string)
set_option linter.unusedVariables false

/-- What the rounds keep. -/
def SetsInv (E : List Ent) (n : List UInt8) (last : Int) : Prop := rightP E ∧ numB E n = last ∧ hasB E n = decide (0 < last)
theorem sets_start (n : List UInt8) : SetsInv [] n 0 := ⟨⟨by simp, List.Pairwise.nil⟩, rfl, rfl⟩
theorem sets_with {E : List Ent} {n : List UInt8} {last : Int} (h : SetsInv E n last) {m : List UInt8} {i : Int} (hg : goodE (m, i) = true) : SetsInv (withB E m i) n (if m = n then i else last) := by
  obtain ⟨h1, h2, h3⟩ := h
  have hi : 0 < i := by unfold goodE at hg; simp at hg; exact hg.2
  refine ⟨with_right h1 hg, ?_, ?_⟩
  · rw [with_num m n i h1.2, h2]
  · rw [with_has m n i h1.2, h3]; split
    · exact (decide_eq_true hi).symm
    · rfl
theorem sets_without {E : List Ent} {n : List UInt8} {last : Int} (h : SetsInv E n last) (m : List UInt8) : SetsInv (withoutB E m) n (if m = n then 0 else last) := by
  obtain ⟨h1, h2, h3⟩ := h
  refine ⟨without_right m h1, ?_, ?_⟩
  · rw [without_num m n h1.2, h2]
  · rw [without_has m n h1.2, h3]; split <;> rfl

set_option maxHeartbeats 4000000 in
set_option maxRecDepth 100000 in
theorem lawSets (l : List Ent) (y : List Nat) (n : List UInt8) (v vy : Value) (w : World) (hv : Ents w v l) (hy : Byts w vy y) (hn : n.length ≤ maxLen) :
    Calls Try.prog 6 #[v, vy, .string ⟨n.toArray⟩] w fun e w' => e = .returned (.bool true) ∧ Below w.heap.size w w' := by
  unfold maxLen at hn
  obtain ⟨a, ca, rfl, _, _, _⟩ := id hv
  obtain ⟨ay, cy, rfl, hym, hy256, _⟩ := id hy
  unfold maxLen at hym
  cases hf : fewE l
  · go_enter Try.func6, Try.ntmps6
    go_wp2_with fail; refine (awake_any _).mono ?_; rintro e w1 ⟨rfl, b1⟩
    go_wp2_with fail; refine (few_any l _ _ (hv.below b1)).mono ?_; rintro e w2 ⟨rfl, rfl⟩
    rw [hf]
    go_wp2_with fail; refine (awake_any _).mono ?_; rintro e w2 ⟨rfl, b2⟩
    go_wp2
    go_ret
    exact ⟨rfl, b1.trans (b2.mono b1.size)⟩
  have hsm := fewE_small hf
  have hs1 : shortP 300 l := hsm.2
  have hl50 := hsm.1
  by_cases hy50 : y.length ≤ 50
  · by_cases hn3 : n.length ≤ 300
    · have HS1 := Lib.hid hs1
      clear hs1 hsm
      go_enter Try.func6, Try.ntmps6
      go_wp2_with fail; refine (awake_any _).mono ?_; rintro e w1 ⟨rfl, b1⟩
      have h1 := hv.below b1
      have y1 := hy.below b1
      clear hv hy
      go_wp2_with fail; refine (few_any l _ _ h1).mono ?_; rintro e w2 ⟨rfl, rfl⟩
      rw [hf]
      obtain ⟨_, _, hu, _, _, HA0⟩ := id h1
      simp only [Value.slice.injEq] at hu
      obtain ⟨rfl, _, rfl⟩ := hu
      have HA := Lib.hid HA0
      clear HA0
      obtain ⟨_, _, hu, _, _, HY0⟩ := id y1
      simp only [Value.slice.injEq] at hu
      obtain ⟨rfl, _, rfl⟩ := hu
      have HY := Lib.hid HY0
      have H256 := Lib.hid hy256
      clear HY0 h1 y1 hy256
      go_wp2
      go_loopg [7, 8, 9] l.length (fun g s7 s8 s9 wr => ∃ (k : Nat) (E : List Ent) (last : Int), k + g = l.length ∧ s9 = .int .i64 k ∧ s8 = .int .i64 last ∧ Below w1.heap.size w1 wr ∧ E.length ≤ k ∧ Aside (Ents wr s7 E) ∧ Aside (SetsInv E n last))
      case atStart => exact ⟨0, [], 0, by omega, rfl, rfl, Below.refl _ _, Nat.le_refl _, Ents.nil_ _, sets_start n⟩
      case round =>
        obtain ⟨k, E, last, hkg, rfl, rfl, hbw, hEl, HE, HI⟩ := hrel
        by_cases hlt : k < l.length
        · obtain ⟨G, rfl⟩ : ∃ G, gk = G + 1 := ⟨gk - 1, by omega⟩
          obtain ⟨b, o, rfl, hb, hcl⟩ := HA.out (by omega)
          have HC := Lib.hid (hcl k hlt)
          have c1 : wr.cell? ⟨b, o + k * 2, none⟩ = some (.string ⟨l[k].1.toArray⟩) := (hbw.cell (p := ⟨b, o + k * 2, none⟩) hb).trans (hcl k hlt).1
          have c2 : wr.cell? ⟨b, o + k * 2 + 1, none⟩ = some (.int .i64 l[k].2) := (hbw.cell (p := ⟨b, o + k * 2 + 1, none⟩) hb).trans (hcl k hlt).2
          clear hcl
          have hks := HS1.out _ (List.getElem_mem hlt)
          go_wp2_with fail; refine (refMay_all l[k].1 _ (by omega)).mono ?_; rintro e w3 ⟨rfl, rfl⟩
          cases hm : mayB l[k].1
          · go_wp2
            go_roundg G
            case measure => omega
            case rel => exact ⟨k + 1, E, last, by omega, by go_num, rfl, hbw, by omega, HE.out, HI.out⟩
          · by_cases hi : l[k].2 < 1
            · go_wp2
              go_roundg G
              case measure => omega
              case rel => exact ⟨k + 1, E, last, by omega, by go_num, rfl, hbw, by omega, HE.out, HI.out⟩
            · have hg : goodE l[k] = true := ent_good hm (by omega)
              have HI2 : Hid (SetsInv (withB E l[k].1 l[k].2) n (if l[k].1 = n then l[k].2 else last)) := sets_with (m := l[k].1) (i := l[k].2) HI.out hg
              have HR := Lib.hid HI.out.1
              have hwl := with_len E l[k].1 l[k].2
              go_upto_region 9 with fail
              go_cut [7] from 30 to 100 (fun s7 wc => Aside (Ents wc s7 (withB E l[k].1 l[k].2)) ∧ Below wr.heap.size wr wc)
              case first =>
                go_region_with (go_at_call 19; refine (With_any E _ _ _ _ (HE.out.below (Below.refl _ wr).drew) HR.out.2 (by omega) (fun e he => Nat.le_trans (right_short HR.out e he) (by decide)) (by omega)).mono ?_; rintro e w5 h5; obtain ⟨x5, rfl, h6, b5⟩ := new_ents h5 (Nat.le_trans hwl (by unfold maxLen; omega)))
                all_goals (go_wp2_with fail; go_meet)
                all_goals exact ⟨h6, (Below.refl _ wr).drew.trans b5⟩
              case rest =>
                obtain ⟨HE2, hbc⟩ := hcut
                have hbw2 := hbw.trans (hbc.mono hbw.size)
                have d1 : wc.cell? ⟨b, o + k * 2, none⟩ = some (.string ⟨l[k].1.toArray⟩) := (hbw2.cell (p := ⟨b, o + k * 2, none⟩) hb).trans HC.out.1
                have d2 : wc.cell? ⟨b, o + k * 2 + 1, none⟩ = some (.int .i64 l[k].2) := (hbw2.cell (p := ⟨b, o + k * 2 + 1, none⟩) hb).trans HC.out.2
                have HC1 : Hid (w1.cell? ⟨b, o + k * 2, none⟩ = some (.string ⟨l[k].1.toArray⟩)) := HC.out.1
                clear c1 c2 HI HE hbc hbw HR HC
                by_cases hy1 : k < y.length
                · obtain ⟨by0, oy, rfl, hby, hcy⟩ := HY.out (by omega)
                  have e1 : wc.cell? ⟨by0, oy + k, none⟩ = some (.int .u8 (y[k] : Int)) := (hbw2.cell (p := ⟨by0, oy + k, none⟩) hby).trans (hcy k hy1)
                  have hy2 := H256.out _ (List.getElem_mem hy1)
                  clear hcy
                  cases h3 : ((y[k] : Int) % 3 == 0)
                  · cases he : (l[k].1 == n)
                    · have HI3 : Hid (SetsInv (withB E l[k].1 l[k].2) n last) := by have := HI2.out; rwa [if_neg (by simpa using he)] at this
                      go_wp2
                      go_roundg G
                      case measure => omega
                      case rel => exact ⟨k + 1, _, last, by omega, by go_num, rfl, hbw2, by omega, HE2, HI3.out⟩
                    · have HI3 : Hid (SetsInv (withB E l[k].1 l[k].2) n l[k].2) := by have := HI2.out; rwa [if_pos (by simpa using he)] at this
                      go_wp2
                      go_roundg G
                      case measure => omega
                      case rel => exact ⟨k + 1, _, l[k].2, by omega, by go_num, rfl, hbw2, by omega, HE2, HI3.out⟩
                  · have HI4 := Lib.hid (sets_without HI2.out l[k].1)
                    have hwl2 := without_len (withB E l[k].1 l[k].2) l[k].1
                    have hso := HI2.out.1.2
                    have hsh : shortP 100000000 (withB E l[k].1 l[k].2) := fun e he => Nat.le_trans (right_short HI2.out.1 e he) (by decide)
                    cases he : (l[k].1 == n)
                    · have HI3 : Hid (SetsInv (withoutB (withB E l[k].1 l[k].2) l[k].1) n last) := by
                        have := HI4.out; rwa [if_neg (by simpa using he), if_neg (by simpa using he)] at this
                      go_wp2_with fail; refine (Without_any _ l[k].1 _ _ HE2 hso (by omega) hsh).mono ?_; rintro e w6 h6
                      obtain ⟨x6, rfl, h7, b6⟩ := new_ents h6 (Nat.le_trans hwl2 (by unfold maxLen; omega))
                      have hbw3 := hbw2.trans (b6.mono hbw2.size)
                      have d3 : w6.cell? ⟨b, o + k * 2, none⟩ = some (.string ⟨l[k].1.toArray⟩) := (hbw3.cell (p := ⟨b, o + k * 2, none⟩) hb).trans HC1.out
                      have H7 := Lib.hid h7
                      clear h7 hso hsh h6 HI4 HI2 d1 d2 e1
                      go_wp2
                      go_roundg G
                      case measure => omega
                      case rel => exact ⟨k + 1, _, last, by omega, by go_num, rfl, hbw3, by omega, H7.out, HI3.out⟩
                    · have HI3 : Hid (SetsInv (withoutB (withB E l[k].1 l[k].2) l[k].1) n 0) := by
                        have := HI4.out; rwa [if_pos (by simpa using he)] at this
                      go_wp2_with fail; refine (Without_any _ l[k].1 _ _ HE2 hso (by omega) hsh).mono ?_; rintro e w6 h6
                      obtain ⟨x6, rfl, h7, b6⟩ := new_ents h6 (Nat.le_trans hwl2 (by unfold maxLen; omega))
                      have hbw3 := hbw2.trans (b6.mono hbw2.size)
                      have d3 : w6.cell? ⟨b, o + k * 2, none⟩ = some (.string ⟨l[k].1.toArray⟩) := (hbw3.cell (p := ⟨b, o + k * 2, none⟩) hb).trans HC1.out
                      have H7 := Lib.hid h7
                      clear h7 hso hsh h6 HI4 HI2 d1 d2 e1
                      go_wp2
                      go_roundg G
                      case measure => omega
                      case rel => exact ⟨k + 1, _, 0, by omega, by go_num, rfl, hbw3, by omega, H7.out, HI3.out⟩
                · cases he : (l[k].1 == n)
                  · have HI3 : Hid (SetsInv (withB E l[k].1 l[k].2) n last) := by have := HI2.out; rwa [if_neg (by simpa using he)] at this
                    go_wp2
                    go_roundg G
                    case measure => omega
                    case rel => exact ⟨k + 1, _, last, by omega, by go_num, rfl, hbw2, by omega, HE2, HI3.out⟩
                  · have HI3 : Hid (SetsInv (withB E l[k].1 l[k].2) n l[k].2) := by have := HI2.out; rwa [if_pos (by simpa using he)] at this
                    go_wp2
                    go_roundg G
                    case measure => omega
                    case rel => exact ⟨k + 1, _, l[k].2, by omega, by go_num, rfl, hbw2, by omega, HE2, HI3.out⟩
        · obtain rfl : k = l.length := by omega
          have hso := HI.out.1.2
          have hsh : shortP 1000000 E := fun e he => Nat.le_trans (right_short HI.out.1 e he) (by decide)
          have hri := (rightB_iff E).2 HI.out.1
          have hnu := HI.out.2.1
          have hha := HI.out.2.2
          have hb2 := b1.trans (hbw.mono b1.size)
          clear HI
          go_wp2_with fail; refine (Find_any E n _ _ HE.out hso (by omega)).mono ?_; rintro e w4 ⟨rfl, b4⟩
          have h4 := HE.out.below b4
          have hb4 := hb2.trans (b4.mono hb2.size)
          rw [hnu, hha]
          clear hnu hha hb2 b4
          go_wp2_with fail; refine (Right_any E _ _ h4 hsh).mono ?_; rintro e w5 ⟨rfl, b5⟩
          rw [hri]
          clear hri
          go_wp2
          go_ret
          exact ⟨ret_bool (by simp), hb4.trans (b5.mono hb4.size)⟩
    · go_enter Try.func6, Try.ntmps6
      go_wp2_with fail; refine (awake_any _).mono ?_; rintro e w1 ⟨rfl, b1⟩
      go_wp2_with fail; refine (few_any l _ _ (hv.below b1)).mono ?_; rintro e w2 ⟨rfl, rfl⟩
      rw [hf]
      go_wp2_with fail; refine (awake_any _).mono ?_; rintro e w2 ⟨rfl, b2⟩
      go_wp2
      go_ret
      exact ⟨rfl, b1.trans (b2.mono b1.size)⟩
  · go_enter Try.func6, Try.ntmps6
    go_wp2_with fail; refine (awake_any _).mono ?_; rintro e w1 ⟨rfl, b1⟩
    go_wp2_with fail; refine (few_any l _ _ (hv.below b1)).mono ?_; rintro e w2 ⟨rfl, rfl⟩
    rw [hf]
    go_wp2_with fail; refine (awake_any _).mono ?_; rintro e w2 ⟨rfl, b2⟩
    go_wp2
    go_ret
    exact ⟨rfl, b1.trans (b2.mono b1.size)⟩

namespace LEntrySets
set_option maxRecDepth 100000 in
theorem lifted (os : Os) (started : os.Started) (H : Type) (enc : TypeId × Value → H) :
    ReturnsInHanded {} Try.checked os 6 .any (Rows.entrySetsSpec.pre6 enc Try.prog Try.f6 Rows.entrySetsRow.domain false) (Rows.entrySetsSpec.post enc Try.prog Try.f6 false true false false) := by
  refine returnsInHanded_of_change (C := Try.checked) (by kernel_rfl) started (by kernel_rfl) Try.func6
    (ChangeSpec.witness6 (enc := enc) (C := Try.checked) false ⟨#[], #[.slice none 0 0, .slice none 0 0, .string ByteArray.empty], []⟩ 8 (by kernel_rfl) (by kernel_rfl) (by kernel_rfl) (by kernel_rfl)) ?_
  intro W base args ds gs before hval0 hW hcnd _
  have hval : ∀ (j : Nat) t v, Try.f6.params[j]? = some t → args[j]? = some v → Value.okWide Try.prog W .any base t v := hval0
  have hW' := hW
  obtain ⟨p, q, hA0, hV, rfl, hfz, hnd⟩ := hW
  have hA : DataW.TrodAll enc Try.prog W 0 (fun _ => true) true Try.f6.params.toList args.toList ds p := hA0
  rw [Try.params6] at hA hval
  obtain ⟨v0, vs0, d0, ds0, p0, q0, hargs, rfl, rfl, k0, r0⟩ := trodAll_cons hA
  obtain ⟨v1, vs1, d1, ds1, p1, q1, rfl, rfl, rfl, k1, r1⟩ := trodAll_cons r0
  obtain ⟨v2, vs2, d2, ds2, p2, q2, rfl, rfl, rfl, k2, r2⟩ := trodAll_cons r1
  obtain ⟨rfl, rfl, rfl⟩ := trodAll_nil r2
  obtain rfl : args = #[v0, v1, v2] := by cases args; simp_all
  obtain ⟨rfl, rfl⟩ := trodVars_none hV
  have ok0 := hval 0 22 v0 rfl rfl
  have ok1 := hval 1 37 v1 rfl rfl
  have ok2 := hval 2 9 v2 rfl rfl
  have lt0 : ∀ x ∈ p0, x.block < W.heap.size := by obtain ⟨m, hm⟩ := k0; exact DataW.trod_lt m _ _ _ hm
  have lt1 : ∀ x ∈ p1, x.block < W.heap.size := by obtain ⟨m, hm⟩ := k1; exact DataW.trod_lt m _ _ _ hm
  have lt2 : ∀ x ∈ p2, x.block < W.heap.size := by obtain ⟨m, hm⟩ := k2; exact DataW.trod_lt m _ _ _ hm
  have C : Calls Try.prog 6 #[v0, v1, v2] W fun e w' => e = .returned (.bool true) ∧ Below W.heap.size W w' := by
    clear hA0 hval0 hval hW' hcnd hV hfz hnd
    obtain ⟨l, hl⟩ := ents_of_trod ok0 k0
    obtain ⟨y, hy⟩ := byts_of_trod ok1 k1
    obtain ⟨s, rfl, rfl, rfl, hs⟩ := open_string Try.underlying9 ok2 k2
    rw [str_eta s]
    exact lawSets l y _ _ _ W hl hy (str_len hs)
  refine C.mono fun e W' ⟨he, bel⟩ => ?_
  subst he
  exact ⟨_, rfl, _, _, _, [], _, [], hW', trodAll_mk1 (shut_bool Try.underlying4 _), (trodAll_cons_mk (Below.trod laidOut (by kernel_rfl) (of_decide_eq_true (by kernel_rfl)) k0 bel lt0) (trodAll_cons_mk (Below.trod laidOut (by kernel_rfl) (of_decide_eq_true (by kernel_rfl)) k1 bel lt1) (trodAll_cons_mk (Below.trod laidOut (by kernel_rfl) (of_decide_eq_true (by kernel_rfl)) k2 bel lt2) trodAll_mk0))), rfl, bel.frame _, fun h => by cases h⟩
theorem proved : Rows.EntrySetsSaid :=
  OpenClaim.holds_of_wide 6 Try.f6 rfl rfl rfl rfl rfl rfl rfl ⟨rfl, rfl, rfl, rfl, rfl⟩ rfl rfl rfl rfl rfl (by kernel_rfl) Try.func6 (by kernel_rfl)
    (of_decide_eq_true (by kernel_rfl)) (by unfold Func.isWrapper; first | (rw [if_pos (by decide +kernel)]; kernel_rfl) | (rw [if_neg (by decide +kernel)]; exact ⟨rfl, rfl⟩))
    (fun os started H enc _ => lifted os started H enc)
#print axioms proved
end LEntrySets
end Go.Proofs.Ytfoablopfpmalaa
