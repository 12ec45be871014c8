/- WalkLists: of every sound file system the program's walk is the document's, from Root, and from whatever inode by whatever plain path. Of file systems that are not sound, or too large for the statement, and of paths of more than 1,000 bytes, it asks only its fixed answers. -/
import Derived.Test.YtneklkjlcpgdgaaQWalkF07
import Derived.Test.YtneklkjlcpgdgaaQAwakeB08
import Derived.Test.YtneklkjlcpgdgaaQLawBase05
import Derived.Test.YtneklkjlcpgdgaaQPlain03
import Derived.BigQuiet
import Derived.Deep.RegionHeld3
namespace Go.Proofs.Ytneklkjlcpgdgaa
open Go.ChangeShapes Go.WideShapes Go.ChangeAt Go.RowKit
open Go.ChangeMaps (open_string shut_string)
set_option linter.unusedVariables false

set_option maxHeartbeats 8000000 in
set_option maxRecDepth 100000 in
theorem lawLists (mi mb nx ino : Int) (l : List Nd) (p : List UInt8) (v : Value) (w : World) (hv : Nds w v l) :
    Calls Try.prog 3 #[.agg (fsC mi mb nx v), .int .i64 ino, .string ⟨p.toArray⟩] w fun e w' => e = .returned (.bool true) ∧ Below w.heap.size w w' := by
  obtain ⟨a, ca, rfl⟩ := nds_slice hv
  have bF := Blk.new w 24 (fsC mi mb nx (.slice a l.length ca))
  have hB := alloc_below w (.cells (fsC mi mb nx (.slice a l.length ca)) 24)
  have nV := hv.below hB
  clear hv
  by_cases hlong : okB mi mb nx l = true ∧ ¬ 1000 < p.length
  · obtain ⟨hok, hp⟩ := hlong
    have t := tree_of hok
    obtain ⟨f1, f2, f3⟩ := few_ents (ok_parts hok).1
    have hLl : (listN l).length ≤ 1000000 := by rw [list_exact t]; omega
    have hBl := below_len t (l.length + 1) ino p
    have hok7 := refOk_any mi mb nx l
    rw [hok] at hok7
    have HT := Lib.hid t
    have F3 := Lib.hid f3
    have HLL := Lib.hid hLl
    have HBL := Lib.hid hBl
    clear t f3 hok hLl hBl
    obtain ⟨⟨p0, p1, p2, p3⟩, _⟩ := bF.four
    go_enter Try.func3, Try.ntmps3
    go_wp2_with fail; refine (awake08 _).mono ?_; rintro e w1 ⟨rfl, b1⟩
    clear p0 p1 p2 p3
    (replace bF := bF.next b1; replace nV := nV.below b1; replace hB := hB.trans (b1.mono hB.size))
    obtain ⟨⟨p0, p1, p2, p3⟩, _⟩ := bF.four
    go_wp2_with fail; refine (hok7 _ _ nV).mono ?_; rintro e w2 ⟨rfl, b2⟩
    clear p0 p1 p2 p3
    (replace bF := bF.next b2; replace nV := nV.below b2; replace hB := hB.trans (b2.mono hB.size))
    have hPl := refPlain_any p w2 (by omega)
    go_wp2_with fail
    refine hPl.mono ?_
    rintro e w3 ⟨pv, rfl, hps, b3⟩
    clear hPl
    (replace bF := bF.next b3; replace nV := nV.below b3; replace hB := hB.trans (b3.mono hB.size))
    go_upto_region 4 with fail
    have HMK : ∀ W, Below w3.heap.size w3 W → (W.cell? ⟨w.heap.size, 0, none⟩ = some (.int .i64 mi) ∧ W.cell? ⟨w.heap.size, 1, none⟩ = some (.int .i64 mb) ∧ W.cell? ⟨w.heap.size, 2, none⟩ = some (.int .i64 nx) ∧ W.cell? ⟨w.heap.size, 3, none⟩ = some (.slice a l.length ca)) := fun W h => (bF.next h).four.1
    have hq := (Below.refl w3.heap.size w3).drew
    have HCL := fun W (h : Nds W (.slice a l.length ca) l) => ListW_any mi mb nx l HT.out F3.out (by omega) _ W h HLL.out
    have HCR := fun W (h : Nds W (.slice a l.length ca) l) => refList_any mi mb nx l _ W h F3.out (by omega) HLL.out
    go_cut [32] from 27 (fun s32 wc => s32 = .bool false ∧ Below w3.heap.size w3 wc)
    case first =>
      go_region_held3 (fun W => W.cell? ⟨w.heap.size, 0, none⟩ = some (.int .i64 mi) ∧ W.cell? ⟨w.heap.size, 1, none⟩ = some (.int .i64 mb) ∧ W.cell? ⟨w.heap.size, 2, none⟩ = some (.int .i64 nx) ∧ W.cell? ⟨w.heap.size, 3, none⟩ = some (.slice a l.length ca))
        (with_reducible exact HMK _ hq)
        (first
          | (go_at_call 11; refine (HCL _ (nV.below hq)).mono ?_; rintro e wz ⟨y, rfl, hown, bz⟩; have hE1 := own_ents hown; clear hown; (try have hE2 := hE2.below bz); have hq := hq.trans (bz.mono hq.size))
          | (go_at_call 12; refine (HCR _ (nV.below hq)).mono ?_; rintro e wz ⟨y, rfl, hown, bz⟩; have hE2 := own_ents hown; clear hown; (try have hE1 := hE1.below bz); have hq := hq.trans (bz.mono hq.size))
          | (go_at_call 10; refine (refSameS_any _ _ _ _ _ hE1 hE2).mono ?_; rintro e wz ⟨rfl, bz⟩; have hq := hq.trans (bz.mono hq.size)))
      all_goals (go_wp2_with fail; go_meet; case rel => exact ⟨by simp, hq⟩)
    case rest =>
      obtain ⟨rfl, bc⟩ := hcut
      (replace bF := bF.next bc; replace nV := nV.below bc; replace hB := hB.trans (bc.mono hB.size))
      clear HMK hq HCL HCR
      have HMK : ∀ W, Below wc.heap.size wc W → (W.cell? ⟨w.heap.size, 0, none⟩ = some (.int .i64 mi) ∧ W.cell? ⟨w.heap.size, 1, none⟩ = some (.int .i64 mb) ∧ W.cell? ⟨w.heap.size, 2, none⟩ = some (.int .i64 nx) ∧ W.cell? ⟨w.heap.size, 3, none⟩ = some (.slice a l.length ca)) := fun W h => (bF.next h).four.1
      have hq := (Below.refl wc.heap.size wc).drew
      cases hpl : plainB p with
      | none =>
        go_upto_region 6 with fail
        simp only [Option.isSome_none]
        (refine wp_region_held_drew (S := fun _ => True) (by kernel_rfl) (trivial) (fun hHeld => ?_))
        (refine heldTake 0 (some 33) (v := ?_) rfl rfl (by kernel_rfl) (by kernel_rfl) (by kernel_rfl) (fun _ _ _ h => h) (by rfl) ?_ (by assumption) ?_; rotate_left; (focus (intro w hSw; (try dsimp only at hSw); go_simp; try with_reducible rfl)); (try simp only [Act.put, List.setIfInBounds_toArray, List.set_cons_zero, List.set_cons_succ]))
        (refine heldTake 1 (some 34) (v := ?_) rfl rfl (by kernel_rfl) (by kernel_rfl) (by kernel_rfl) (fun _ _ _ h => h) (by rfl) ?_ (by assumption) ?_; rotate_left; (focus (intro w hSw; (try dsimp only at hSw); go_simp; try with_reducible rfl)); (try simp only [Act.put, List.setIfInBounds_toArray, List.set_cons_zero, List.set_cons_succ]))
        (refine heldTake 2 (some 35) (v := ?_) rfl rfl (by kernel_rfl) (by kernel_rfl) (by kernel_rfl) (fun _ _ _ h => h) (by rfl) ?_ (by assumption) ?_; rotate_left; (focus (intro w hSw; (try dsimp only at hSw); go_simp; try with_reducible rfl)); (try simp only [Act.put, List.setIfInBounds_toArray, List.set_cons_zero, List.set_cons_succ]))
        (refine heldSkip 3 (some 36) rfl rfl (by kernel_rfl) (by kernel_rfl) (by kernel_rfl) (fun _ _ _ h => h) (by rfl) (by assumption) ?_; (try simp only [Act.put, List.setIfInBounds_toArray, List.set_cons_zero, List.set_cons_succ]))
        (refine heldSkip 4 (some 37) rfl rfl (by kernel_rfl) (by kernel_rfl) (by kernel_rfl) (fun _ _ _ h => h) (by rfl) (by assumption) ?_; (try simp only [Act.put, List.setIfInBounds_toArray, List.set_cons_zero, List.set_cons_succ]))
        (refine heldSkip 5 (some 38) rfl rfl (by kernel_rfl) (by kernel_rfl) (by kernel_rfl) (fun _ _ _ h => h) (by rfl) (by assumption) ?_; (try simp only [Act.put, List.setIfInBounds_toArray, List.set_cons_zero, List.set_cons_succ]))
        (refine heldSkip 6 (some 39) rfl rfl (by kernel_rfl) (by kernel_rfl) (by kernel_rfl) (fun _ _ _ h => h) (by rfl) (by assumption) ?_; (try simp only [Act.put, List.setIfInBounds_toArray, List.set_cons_zero, List.set_cons_succ]))
        (refine heldSkip 7 (some 40) rfl rfl (by kernel_rfl) (by kernel_rfl) (by kernel_rfl) (fun _ _ _ h => h) (by rfl) (by assumption) ?_; (try simp only [Act.put, List.setIfInBounds_toArray, List.set_cons_zero, List.set_cons_succ]))
        (refine heldSkip 8 (some 41) rfl rfl (by kernel_rfl) (by kernel_rfl) (by kernel_rfl) (fun _ _ _ h => h) (by rfl) (by assumption) ?_; (try simp only [Act.put, List.setIfInBounds_toArray, List.set_cons_zero, List.set_cons_succ]))
        (refine heldSkip 9 (some 42) rfl rfl (by kernel_rfl) (by kernel_rfl) (by kernel_rfl) (fun _ _ _ h => h) (by rfl) (by assumption) ?_; (try simp only [Act.put, List.setIfInBounds_toArray, List.set_cons_zero, List.set_cons_succ]))
        (refine heldSkip 10 (some 43) rfl rfl (by kernel_rfl) (by kernel_rfl) (by kernel_rfl) (fun _ _ _ h => h) (by rfl) (by assumption) ?_; (try simp only [Act.put, List.setIfInBounds_toArray, List.set_cons_zero, List.set_cons_succ]))
        (refine heldSkip 11 (some 44) rfl rfl (by kernel_rfl) (by kernel_rfl) (by kernel_rfl) (fun _ _ _ h => h) (by rfl) (by assumption) ?_; (try simp only [Act.put, List.setIfInBounds_toArray, List.set_cons_zero, List.set_cons_succ]))
        (refine heldSkip 12 (some 45) rfl rfl (by kernel_rfl) (by kernel_rfl) (by kernel_rfl) (fun _ _ _ h => h) (by rfl) (by assumption) ?_; (try simp only [Act.put, List.setIfInBounds_toArray, List.set_cons_zero, List.set_cons_succ]))
        (refine heldSkip 13 (some 46) rfl rfl (by kernel_rfl) (by kernel_rfl) (by kernel_rfl) (fun _ _ _ h => h) (by rfl) (by assumption) ?_; (try simp only [Act.put, List.setIfInBounds_toArray, List.set_cons_zero, List.set_cons_succ]))
        (refine heldSkip 14 (some 47) rfl rfl (by kernel_rfl) (by kernel_rfl) (by kernel_rfl) (fun _ _ _ h => h) (by rfl) (by assumption) ?_; (try simp only [Act.put, List.setIfInBounds_toArray, List.set_cons_zero, List.set_cons_succ]))
        (refine heldTake 15 (some 48) (v := ?_) rfl rfl (by kernel_rfl) (by kernel_rfl) (by kernel_rfl) (fun _ _ _ h => h) (by rfl) ?_ (by assumption) ?_; rotate_left; (focus (intro w hSw; (try dsimp only at hSw); go_simp; try with_reducible rfl)); (try simp only [Act.put, List.setIfInBounds_toArray, List.set_cons_zero, List.set_cons_succ]))
        (refine heldTake 16 (some 6) (v := ?_) rfl rfl (by kernel_rfl) (by kernel_rfl) (by kernel_rfl) (fun _ _ _ h => h) (by rfl) ?_ (by assumption) ?_; rotate_left; (focus (intro w hSw; (try dsimp only at hSw); go_simp; try with_reducible rfl)); (try simp only [Act.put, List.setIfInBounds_toArray, List.set_cons_zero, List.set_cons_succ]))
        refine wpAnyH_done (by kernel_rfl) ?_ _
        go_wp2
        go_ret
        exact ⟨rfl, hB.trans (hq.mono hB.size)⟩
      | some ns =>
        obtain ⟨hj, _, hnm⟩ := plainB_yes hpl
        have hWB := walk_below HT.out ino (p := p) (by rw [hnm]; exact hj)
        have hWL : (walkS l ino (namesB p)).length = (belowN l (l.length + 1) ino p).length := by rw [← hWB, List.length_map]
        have hbl := HBL.out
        have HCB := fun W (h : Nds W (.slice a l.length ca) l) => BelowW_any mi mb nx l HT.out F3.out (by omega) _ W h ino p (by omega) (by rw [hWL]; omega)
        rw [hWB, hWL] at HCB
        have HCR := fun W (h : Nds W (.slice a l.length ca) l) => refBelow_any mi mb nx l _ F3.out (by omega) (l.length + 1) ino p (l.length : Int) W h (by omega) (by omega) (by omega)
        have HB1 := Lib.hid HCB
        have HB2 := Lib.hid HCR
        clear HCB HCR hWB hWL hbl hj hnm
        go_upto_region 6 with fail
        simp only [Option.isSome_some]
        go_region_held3 (fun W => W.cell? ⟨w.heap.size, 0, none⟩ = some (.int .i64 mi) ∧ W.cell? ⟨w.heap.size, 1, none⟩ = some (.int .i64 mb) ∧ W.cell? ⟨w.heap.size, 2, none⟩ = some (.int .i64 nx) ∧ W.cell? ⟨w.heap.size, 3, none⟩ = some (.slice a l.length ca))
          (with_reducible exact HMK _ hq)
          (first
            | (go_at_call 13; refine (HB1.out _ (nV.below hq)).mono ?_; rintro e wz ⟨y, rfl, hown, bz⟩; have hE1 := own_ents hown; clear hown; (try have hE2 := hE2.below bz); have hq := hq.trans (bz.mono hq.size))
            | (go_at_call 14; refine (HB2.out _ (nV.below hq)).mono ?_; rintro e wz ⟨y, rfl, hown, bz⟩; have hE2 := own_ents hown; clear hown; (try have hE1 := hE1.below bz); have hq := hq.trans (bz.mono hq.size))
            | (go_at_call 10; refine (refSameS_any _ _ _ _ _ hE1 hE2).mono ?_; rintro e wz ⟨rfl, bz⟩; have hq := hq.trans (bz.mono hq.size)))
        all_goals (go_wp2; go_ret; exact ⟨by simp, hB.trans (hq.mono hB.size)⟩)
  · have hno : ∀ q : Bool, okB mi mb nx l = q → q = false ∨ 1000 < p.length := fun q hq => by
      cases q
      · exact .inl rfl
      · exact .inr (Decidable.byContradiction fun h => hlong ⟨hq, h⟩)
    have hok7 := refOk_any mi mb nx l
    have hno2 := hno _ rfl
    clear hno hlong
    generalize okB mi mb nx l = q at *
    obtain ⟨⟨p0, p1, p2, p3⟩, _⟩ := bF.four
    go_enter Try.func3, Try.ntmps3
    go_wp2_with fail; refine (awake08 _).mono ?_; rintro e w1 ⟨rfl, b1⟩
    clear p0 p1 p2 p3
    (replace bF := bF.next b1; replace nV := nV.below b1; replace hB := hB.trans (b1.mono hB.size))
    obtain ⟨⟨p0, p1, p2, p3⟩, _⟩ := bF.four
    go_wp2_with fail; refine (hok7 _ _ nV).mono ?_; rintro e w2 ⟨rfl, b2⟩
    clear p0 p1 p2 p3
    (replace bF := bF.next b2; replace nV := nV.below b2; replace hB := hB.trans (b2.mono hB.size))
    cases q
    · go_wp2_with fail; refine (awake08 _).mono ?_; rintro e w9 ⟨rfl, b9⟩
      go_wp2
      go_ret
      exact ⟨rfl, hB.trans (b9.mono hB.size)⟩
    · have hlp : 1000 < p.length := hno2.resolve_left (by simp)
      clear hno2
      go_wp2_with fail; refine (awake08 _).mono ?_; rintro e w9 ⟨rfl, b9⟩
      go_wp2
      go_ret
      exact ⟨rfl, hB.trans (b9.mono hB.size)⟩

namespace LWalkLists
set_option maxRecDepth 100000 in
theorem lifted (os : Os) (started : os.Started) (H : Type) (enc : TypeId × Value → H) :
    ReturnsInHanded {} Try.checked os 3 .any (Rows.walkListsSpec.pre6 enc Try.prog Try.f3 Rows.walkListsRow.domain false) (Rows.walkListsSpec.post enc Try.prog Try.f3 false true false false) := by
  refine returnsInHanded_of_change (C := Try.checked) (by kernel_rfl) started (by kernel_rfl) Try.func3
    (ChangeSpec.witness6 (enc := enc) (C := Try.checked) false ⟨#[], #[.agg #[.int .i64 0, .int .i64 0, .int .i64 0, .slice none 0 0], .int .i64 0, .string ⟨#[]⟩], []⟩ 8 (by kernel_rfl) (by kernel_rfl) (by kernel_rfl) (by kernel_rfl)) ?_
  intro W base args ds gs before hval0 hW hcnd _
  have hval : ∀ (j : Nat) t v, Try.f3.params[j]? = some t → args[j]? = some v → Value.okWide Try.prog W .any base t v := hval0
  have hW' := hW
  obtain ⟨p, q, hA0, hV, rfl, hfz, hnd⟩ := hW
  have hA : DataW.TrodAll enc Try.prog W 0 (fun _ => true) true Try.f3.params.toList args.toList ds p := hA0
  rw [Try.params3] at hA hval
  obtain ⟨v0, vs0, d0, ds0, p0, q0, hargs, rfl, rfl, k0, r0⟩ := trodAll_cons hA
  obtain ⟨v1, vs1, d1, ds1, p1, q1, rfl, rfl, rfl, k1, r1⟩ := trodAll_cons r0
  obtain ⟨v2, vs2, d2, ds2, p2, q2, rfl, rfl, rfl, k2, r2⟩ := trodAll_cons r1
  obtain ⟨rfl, rfl, rfl⟩ := trodAll_nil r2
  obtain rfl : args = #[v0, v1, v2] := by cases args; simp_all
  obtain ⟨rfl, rfl⟩ := trodVars_none hV
  have ok0 := hval 0 24 v0 rfl rfl
  have ok1 := hval 1 3 v1 rfl rfl
  have ok2 := hval 2 9 v2 rfl rfl
  have lt0 : ∀ x ∈ p0, x.block < W.heap.size := by obtain ⟨m, hm⟩ := k0; exact DataW.trod_lt m _ _ _ hm
  have lt1 : ∀ x ∈ p1, x.block < W.heap.size := by obtain ⟨m, hm⟩ := k1; exact DataW.trod_lt m _ _ _ hm
  have lt2 : ∀ x ∈ p2, x.block < W.heap.size := by obtain ⟨m, hm⟩ := k2; exact DataW.trod_lt m _ _ _ hm
  have C : Calls Try.prog 3 #[v0, v1, v2] W fun e w' => e = .returned (.bool true) ∧ Below W.heap.size W w' := by
    clear hA0 hval0 hval hW' hcnd hV hfz hnd
    obtain ⟨mi, mb, nx, x, l, rfl, hx⟩ := fs_of_trod k0 ok0
    obtain ⟨i, rfl, rfl, rfl, hi⟩ := open_int Try.underlying3 ok1 k1
    obtain ⟨s2, rfl, rfl, rfl, hs2⟩ := open_string Try.underlying9 ok2 k2
    rw [str_eta s2]
    exact lawLists mi mb nx i l _ x W hx
  refine C.mono fun e W' ⟨he, bel⟩ => ?_
  subst he
  exact ⟨_, rfl, _, _, _, [], _, [], hW', trodAll_mk1 (shut_bool Try.underlying4 _), (trodAll_cons_mk (Below.trod laidOut (by kernel_rfl) (of_decide_eq_true (by kernel_rfl)) k0 bel lt0) (trodAll_cons_mk (Below.trod laidOut (by kernel_rfl) (of_decide_eq_true (by kernel_rfl)) k1 bel lt1) (trodAll_cons_mk (Below.trod laidOut (by kernel_rfl) (of_decide_eq_true (by kernel_rfl)) k2 bel lt2) trodAll_mk0))), rfl, bel.frame _, fun h => by cases h⟩
theorem proved : Rows.WalkListsSaid :=
  OpenClaim.holds_of_wide 3 Try.f3 rfl rfl rfl rfl rfl rfl rfl ⟨rfl, rfl, rfl, rfl, rfl⟩ rfl rfl rfl rfl rfl (by kernel_rfl) Try.func3 (by kernel_rfl)
    (of_decide_eq_true (by kernel_rfl)) (by unfold Func.isWrapper; first | (rw [if_pos (by decide +kernel)]; kernel_rfl) | (rw [if_neg (by decide +kernel)]; exact ⟨rfl, rfl⟩))
    (fun os started H enc _ => lifted os started H enc)
#print axioms proved
end LWalkLists
end Go.Proofs.Ytneklkjlcpgdgaa
