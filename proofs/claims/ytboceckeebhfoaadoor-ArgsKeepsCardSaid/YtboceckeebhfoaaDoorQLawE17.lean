import Derived.Test.YtboceckeebhfoaaDoorQMByts17
import Derived.Laws.OwnMore
import Derived.Deep.LoopGhost
set_option linter.unusedVariables false
set_option linter.unusedSimpArgs false
/- For whatever few and short words: reading leaves them as they were, and what it answers stays when they are written over. -/
set_option linter.unusedVariables false
set_option linter.unusedSimpArgs false
namespace Go.Proofs.YtboceckeebhfoaaDoor
open Go.ChangeShapes Go.WideShapes Go.ChangeAt Go.RowKit
set_option linter.unusedVariables false

theorem strsC_cap {w : World} {a : Option Addr} {n c : Nat} {l : List (List UInt8)} (h : StrsC w (.slice a n c) l) : a = none → n = 0 ∧ c = 0 := fun e => by
  have := h.2 a n c rfl
  have h2 := this.2 e
  exact ⟨by omega, h2⟩
set_option maxHeartbeats 8000000 in
theorem lawKeeps17 (l : List (List UInt8)) (v : Value) (w : World) (hv : StrsC w v l) (hL : Laid17 w) :
    Calls Tryd.prog 7 #[v] w fun e w' => e = .returned (.bool true) ∧ Below w.heap.size w w' := by
  have HL := Lib.hid hL
  clear hL
  obtain ⟨a, ca, rfl⟩ := strsC_slice hv
  cases hf : fewB l
  · go_enter Tryd.func7, Tryd.ntmps7; go_wp2_with fail; refine (awake17 _ HL.out).mono ?_; rintro e w1 ⟨rfl, b1⟩; go_wp2_with fail; refine (Few_any l _ _ (hv.1.below b1)).mono ?_; rintro e w2 ⟨rfl, rfl⟩; rw [hf]; go_wp2_with fail; refine (awake17 _ (HL.out.next b1)).mono ?_; rintro e w2 ⟨rfl, b2⟩; go_wp2; go_ret; exact ⟨rfl, b1.trans (b2.mono b1.size)⟩
  · obtain ⟨h40, h300⟩ := fewB_small hf
    have hR1 := fun v W (hW : StrsC W v l) (hLW : Laid17 W) => Read17_any l v W hW (by omega) (fun y hy => by have := h300 y hy; omega) hLW
    have hR2 := fun W (hW : StrsC W _ l) => refRead_any l (.slice a l.length ca) W hW (by omega) (fun y hy => by have := h300 y hy; omega)
    have hS := fun va W ha hb => Same_any l l va (.slice a l.length ca) W ha hb
    rw [show decide (l = l) = true from decide_eq_true rfl] at hS
    obtain ⟨is, hsi, hs0, hs1, hs2⟩ := info_parts infoS17
    generalize readA l = R at *
    obtain ⟨C, s⟩ := R
    dsimp only at hR1 hR2
    clear h300
    have HV := Lib.hid hv
    have hcap := strsC_cap hv
    go_enter Tryd.func7, Tryd.ntmps7
    go_wp2_with fail; refine (awake17 _ HL.out).mono ?_; rintro e w1 ⟨rfl, b1⟩
    go_wp2_with fail; refine (Few_any l _ _ (hv.1.below b1)).mono ?_; rintro e w2 ⟨rfl, rfl⟩
    rw [hf]
    clear hf hv
    have own0 := World.ownsRow_lit (base := w.heap.size) (e := 9) (size := 1) w1 #[] 0 b1.size (by decide) rfl
    have g0 := b1.alloc b1.size (.cells #[] 9)
    have hsl : (strsV l).length = l.length * 1 := by simp [strsV]
    have hsrc := strs_src17 (HV.out.below g0).1
    go_wp2_with (first | (at_builtin; refine wpList_append_all rfl (.tmp 17) (.tmp 18) 22 9 rfl Tryd.underlying22 hsi hs0 hs1 hs2 rfl (by decide) (by decide) w.heap.size (n := 0) (xs := []) a l.length ca (strsV l) rfl rfl own0 hcap hsl hsrc (strsV_one17 l) (by omega) g0.size ?_; intro v5 w5 own5 hB5) | fail)
    have o5 : w5.ownsRow w.heap.size 9 1 v5 l.length (strsV l) := by simpa using own5
    have b5 := g0.trans hB5
    clear own5 hB5 own0 g0 b1 hsl hsrc hcap
    obtain ⟨a5, c5, rfl⟩ := own_sl17 o5
    have HG := Lib.hid (fun h0 : 0 < l.length => own_at17 o5 h0)
    refine (hR1 _ _ (own_strsC17 o5) (HL.out.next b5)).mono ?_
    rintro e w6 ⟨v6, rfl, o6, b6⟩
    replace b5 := b5.trans (b6.mono b5.size)
    replace o5 := own_keep17 o5 b6
    obtain ⟨a6, c6, rfl⟩ := own_sl17 o6
    have B6 := Blk.new w6 26 (cmdC C (.slice a6 C.ops.length c6))
    have g6 := below_new w6 (.cells (cmdC C (.slice a6 C.ops.length c6)) 26)
    have h6 := b6.size
    replace b5 := b5.trans (g6.mono b5.size)
    replace o5 := own_keep17 o5 g6
    replace o6 := own_keep17 o6 g6
    clear b6 g6 hR1
    go_wp2_with fail
    refine (hS _ _ (own_strs o5) (HV.out.below b5).1).mono ?_
    rintro e w8 ⟨rfl, b8⟩
    replace b5 := b5.trans (b8.mono b5.size)
    replace o5 := own_keep17 o5 b8
    replace o6 := own_keep17 o6 b8
    replace B6 := B6.next b8
    clear b8 hS
    go_wp2
    go_loopg [6] l.length (fun f s6 wr => ∃ (k : Nat) (ys : List (List UInt8)), k + f = l.length ∧ s6 = .int .i64 k ∧ ys.length = l.length ∧ Below w.heap.size w wr ∧ Aside (wr.ownsRow w.heap.size 9 1 (.slice a5 l.length c5) l.length (strsV ys)) ∧ Aside (Blk wr w6.heap.size 26 (cmdC C (.slice a6 C.ops.length c6))) ∧ Aside (wr.ownsRow w5.heap.size 9 1 (.slice a6 C.ops.length c6) C.ops.length (strsV C.ops)))
    case atStart => exact ⟨0, l, by omega, rfl, rfl, b5, o5, B6, o6⟩
    case round =>
      clear b5 o5 B6 o6
      obtain ⟨k, ys, hkf, rfl, hyl, hbw, HO, HB, H6⟩ := hrel
      by_cases hlt : k < l.length
      · obtain ⟨G, rfl⟩ : ∃ G, gk = G + 1 := ⟨gk - 1, by omega⟩
        obtain ⟨g, rfl, hg1, hg2, _⟩ := HG.out (by omega)
        have k0 : (0 : Int) ≤ (k : Int) := by omega
        have k1 : (k : Int) < (l.length : Int) := by omega
        have oO := HO.out
        have f5 := oO.frozenAt k
        have t5 := (oO.cellAt k (by omega)).trans (show (strsV ys)[k]? = some (.string ⟨(ys[k]'(by omega)).toArray⟩) by simp [strsV, show k < ys.length by omega])
        obtain ⟨o7, hgr⟩ := oO.stored k (.string ⟨#[115, 112, 111, 105, 108, 116]⟩)
        rw [show (strsV ys).set k (.string ⟨#[115, 112, 111, 105, 108, 116]⟩) = strsV (ys.set k [115, 112, 111, 105, 108, 116]) by simp [strsV, List.map_set]] at o7
        have B7 := HB.out.kept hgr (by simp; omega)
        have o67 := H6.out.kept hgr (own_far17 H6.out hg2)
        have b7 := hbw.grown hgr hbw.size (fun j hj => by cases hj; exact hg1)
        clear hgr oO
        generalize hw7 : World.setCell wr ⟨g, k, none⟩ (.string ⟨#[115, 112, 111, 105, 108, 116]⟩) = w7 at *
        go_wp2
        go_roundg G
        case rel => exact ⟨k + 1, ys.set k [115, 112, 111, 105, 108, 116], by omega, by go_num, by rw [List.length_set]; exact hyl, b7, o7, B7, o67⟩
        case measure => omega
      · obtain rfl : k = l.length := by omega
        clear HO HG
        go_wp2_with fail
        refine (hR2 _ (HV.out.below hbw)).mono ?_
        rintro e w9 ⟨v9, rfl, o9, b9⟩
        obtain ⟨a9, c9, rfl⟩ := own_sl17 o9
        have g9 := below_new w9 (.cells (cmdC C (.slice a9 C.ops.length c9)) 26)
        have B9 := Blk.new w9 26 (cmdC C (.slice a9 C.ops.length c9))
        have b10 := b9.trans (g9.mono b9.size)
        have B10 := HB.out.next b10
        have s6 := own_strs (own_keep17 H6.out b10)
        have s9 := own_strs (own_keep17 o9 g9)
        have hb10 := hbw.trans (b10.mono hbw.size)
        obtain ⟨⟨p0, p1, p2⟩, _⟩ := B10.tri
        obtain ⟨⟨q0, q1, q2⟩, _⟩ := B9.tri
        clear o9 b9 g9 b10 hR2 HB H6
        go_wp2_with fail
        refine (aw_same C _ _ _ s6 s9).mono ?_
        rintro e w11 ⟨rfl, b11⟩
        go_wp2
        go_ret
        exact ⟨rfl, hb10.trans (b11.mono hb10.size)⟩
namespace LArgsKeeps
set_option maxRecDepth 100000 in
theorem lifted (os : Os) (started : os.Started) (H : Type) (enc : TypeId × Value → H) :
    ReturnsInHanded {} Tryd.checked os 7 .any (fun w args => (Rows.argsKeepsSpec.pre enc Tryd.prog Tryd.f7 [] false w args ∧ laidMetH Tryd.prog Rows.argsKeepsRow.laid w) ∧ sizedMet enc Tryd.prog Tryd.f7 (OpenSpec.ofChange Rows.argsKeepsSpec) false w args) (Rows.argsKeepsSpec.post enc Tryd.prog Tryd.f7 false true false false) := by
  refine returnsInHanded_of_change_and (C := Tryd.checked) (X := fun w _ => laidMetH Tryd.prog Rows.argsKeepsRow.laid w) (fun _ _ _ hh h => h.of_heap hh) (by kernel_rfl) started (by kernel_rfl) Tryd.func7
    (ChangeSpec.witness_shaped (enc := enc) (C := Tryd.checked) (os := os) (X := fun w _ => laidMetH Tryd.prog Rows.argsKeepsRow.laid w) false (World.laidAll Tryd.prog os Rows.argsKeepsRow.laid) #[.slice none 0 0] 8 (World.laidAll_os _ _ _)
      (World.shaped_of_ZipB (by kernel_rfl) (by kernel_rfl)) (by kernel_rfl) (by kernel_rfl) (by kernel_rfl)
      (by rw [MakeChecks.laidMetH_plain _ _ _ (by kernel_rfl)]; exact laidMet_laidAll _ (by kernel_rfl) (by kernel_rfl))) ?_
  intro W base args ds gs before hval0 hW hcnd _ hLaid _
  have hL := of_laid hLaid
  clear hLaid
  have hval : ∀ (j : Nat) t v, Tryd.f7.params[j]? = some t → args[j]? = some v → Value.okWide Tryd.prog W .any base t v := hval0
  have hW' := hW
  obtain ⟨p, q, hA0, hV, rfl, hfz, hnd⟩ := hW
  have hA : DataW.TrodAll enc Tryd.prog W 0 (fun _ => true) true Tryd.f7.params.toList args.toList ds p := hA0
  rw [Tryd.params7] at hA hval
  obtain ⟨v0, vs0, d0, ds0, p0, q0, hargs, rfl, rfl, k0, r0⟩ := trodAll_cons hA
  obtain ⟨rfl, rfl, rfl⟩ := trodAll_nil r0
  obtain rfl : args = #[v0] := by cases args; simp_all
  obtain ⟨rfl, rfl⟩ := trodVars_none hV
  have ok0 := hval 0 22 v0 rfl rfl
  have lt0 : ∀ x ∈ p0, x.block < W.heap.size := by obtain ⟨m, hm⟩ := k0; exact DataW.trod_lt m _ _ _ hm
  have C : Calls Tryd.prog 7 #[v0] W fun e w' => e = .returned (.bool true) ∧ Below W.heap.size W w' := by
    clear hA0 hval0 hval hW' hcnd hV hfz hnd
    obtain ⟨l, hl⟩ := strsC_of_trod ok0 k0
    exact lawKeeps17 l _ W hl hL
  refine C.mono fun e W' ⟨he, bel⟩ => ?_
  subst he
  exact ⟨_, rfl, _, _, _, [], _, [], hW', trodAll_mk1 (shut_bool Tryd.underlying4 _), (trodAll_cons_mk (Below.trod laidOut (by kernel_rfl) (of_decide_eq_true (by kernel_rfl)) k0 bel lt0) trodAll_mk0), rfl, bel.frame _, fun h => by cases h⟩
theorem bare : Rows.ArgsKeepsSaid :=
  OpenClaim.holds_of_wide 7 Tryd.f7 rfl rfl rfl rfl rfl rfl rfl ⟨rfl, rfl, rfl, rfl, rfl⟩ rfl rfl rfl rfl rfl (by kernel_rfl) Tryd.func7 (by kernel_rfl)
    (of_decide_eq_true (by kernel_rfl)) (by unfold Func.isWrapper; first | (rw [if_pos (by decide +kernel)]; kernel_rfl) | (rw [if_neg (by decide +kernel)]; exact ⟨rfl, rfl⟩))
    (fun os started H enc _ => lifted os started H enc)
theorem proved : Rows.ArgsKeepsCardSaid :=
  Claim7.holds_tied_plain_at .later [] Rows.argsKeepsCard.laidKinds true Rows.argsKeepsCard.stood.harness false
    bare (fun _ h => by cases h) (by kernel_rfl) (fun _ h => by cases h) argsKeeps_row_tie rfl ⟨rfl, rfl⟩ (by kernel_rfl) rfl
    (fun f fn hf hfn => by
      obtain rfl : f = 7 := Option.some.inj ((show Tryd.prog.funcNamed "drayman/draymanlaw17.ArgsKeeps" = some 7 by kernel_rfl).symm.trans hf) |>.symm
      obtain rfl : fn = Tryd.f7 := (Option.some.inj (Tryd.func7.symm.trans hfn)).symm
      exact ⟨by kernel_rfl, fun j t ht => by
        rw [Tryd.params7] at ht
        have hm : t ∈ [22] := by simpa using Array.mem_of_getElem? ht
        have hall : ([22].all fun u => !Tryd.prog.wantsStandIn u) = true := by kernel_rfl
        exact (show Tryd.prog.wantsStandIn t = false by simpa using List.all_eq_true.1 hall t hm)⟩)
    (by kernel_rfl)
#print axioms proved
end LArgsKeeps
end Go.Proofs.YtboceckeebhfoaaDoor
