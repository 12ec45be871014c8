import Derived.Test.YtboceckeebhfoaaDoorQMByts17
import Derived.Test.YtboceckeebhfoaaDoorQMWalkA01
import Derived.Laws.OwnMore
set_option linter.unusedVariables false
set_option linter.unusedSimpArgs false
/- For every command, whatever short word doesn't begin with a hyphen that more follows, and whatever few and short words behind it: these are the operands, as they stand. -/
set_option linter.unusedVariables false
set_option linter.unusedSimpArgs false
namespace Go.Proofs.YtboceckeebhfoaaDoor
open Go.ChangeShapes Go.WideShapes Go.ChangeAt Go.RowKit
open Go.ChangeMaps (open_string shut_string)
set_option linter.unusedVariables false

theorem strsC_cap' {w : World} {a : Option Addr} {n c : Nat} {l : List (List UInt8)} (h : StrsC w (.slice a n c) l) : a = none → n = 0 ∧ c = 0 := fun e => by
  have := h.2 a n c rfl
  have h2 := this.2 e
  exact ⟨by omega, h2⟩
set_option maxHeartbeats 8000000 in
set_option maxRecDepth 100000 in
theorem lawOperands17 (m : Nat) (f : List UInt8) (l : List (List UInt8)) (v : Value) (w : World) (hm : m < 256) (hfl : f.length ≤ maxLen) (hv : StrsC w v l) (hL : Laid17 w) :
    Calls Tryd.prog 6 #[.int .u8 (m : Int), .string ⟨f.toArray⟩, v] w fun e w' => e = .returned (.bool true) ∧ Below w.heap.size w w' := by
  have HL := Lib.hid hL
  clear hL
  obtain ⟨a, ca, rfl⟩ := strsC_slice hv
  unfold maxLen at hfl
  cases hf : fewB l
  · go_enter Tryd.func6, Tryd.ntmps6; go_wp2_with fail; refine (awake17 _ HL.out).mono ?_; rintro e w1 ⟨rfl, b1⟩; go_wp2_with fail; refine (Few_any l _ _ (hv.1.below b1)).mono ?_; rintro e w2 ⟨rfl, rfl⟩; rw [hf]; go_wp2_with fail; refine (awake17 _ (HL.out.next b1)).mono ?_; rintro e w2 ⟨rfl, b2⟩; go_wp2; go_ret; exact ⟨rfl, b1.trans (b2.mono b1.size)⟩
  by_cases h3 : f.length ≤ 300
  rotate_left
  · have h3' : 300 < f.length := by omega
    go_enter Tryd.func6, Tryd.ntmps6; go_wp2_with fail; refine (awake17 _ HL.out).mono ?_; rintro e w1 ⟨rfl, b1⟩; go_wp2_with fail; refine (Few_any l _ _ (hv.1.below b1)).mono ?_; rintro e w2 ⟨rfl, rfl⟩; rw [hf]; go_wp2_with fail; refine (awake17 _ (HL.out.next b1)).mono ?_; rintro e w2 ⟨rfl, b2⟩; go_wp2; go_ret; exact ⟨rfl, b1.trans (b2.mono b1.size)⟩
  by_cases h1 : 1 < f.length ∧ f.head? = some 45
  · have h1' := h1.1
    have h0 : 0 < f.length := by omega
    have hb0 : (((f[0]'h0).toNat : Int) == 45) = true := by
      have := h1.2
      rw [List.head?_eq_getElem?, List.getElem?_eq_getElem h0] at this
      rw [Option.some.inj this]; rfl
    clear h1
    go_enter Tryd.func6, Tryd.ntmps6; go_wp2_with fail; refine (awake17 _ HL.out).mono ?_; rintro e w1 ⟨rfl, b1⟩; go_wp2_with fail; refine (Few_any l _ _ (hv.1.below b1)).mono ?_; rintro e w2 ⟨rfl, rfl⟩; rw [hf]; go_wp2_with fail; refine (awake17 _ (HL.out.next b1)).mono ?_; rintro e w2 ⟨rfl, b2⟩; go_wp2; go_ret; exact ⟨rfl, b1.trans (b2.mono b1.size)⟩
  obtain ⟨h40, h300⟩ := fewB_small hf
  have hfirst : (∃ h0 : 0 < f.length, 1 < f.length ∧ (((f[0]'h0).toNat : Int) == 45) = false) ∨ ¬ 1 < f.length := by
    by_cases h : 1 < f.length
    · refine Or.inl ⟨by omega, h, ?_⟩
      rw [beq_eq_false_iff_ne]
      intro e
      refine h1 ⟨h, ?_⟩
      rw [List.head?_eq_getElem?, List.getElem?_eq_getElem (by omega)]
      exact congrArg some (UInt8.toNat_inj.1 (show (f[0]'(by omega)).toNat = 45 by omega))
    · exact Or.inr h
  obtain ⟨K, hK⟩ : ∃ K : Int, K = 1 + (m : Int) % 5 := ⟨_, rfl⟩
  have hK1 : 1 ≤ K ∧ K ≤ 5 := by omega
  have HK := Lib.hid hK
  have hread := read_first hK1.1 hK1.2 h1 l
  have hnl : (nameK K).length ≤ 1000 := by rcases (show K = 1 ∨ K = 2 ∨ K = 3 ∨ K = 4 ∨ K = 5 by omega) with rfl | rfl | rfl | rfl | rfl <;> decide
  have hR1 := fun v W (hW : StrsC W v (nameK K :: f :: l)) (hLW : Laid17 W) => Read17_any (nameK K :: f :: l) v W hW (by simp; omega) (fun y hy => by
    simp only [List.mem_cons] at hy
    rcases hy with rfl | rfl | hy
    · exact hnl
    · omega
    · have := h300 y hy; omega) hLW
  rw [hread] at hR1
  have hN := fun W => refName_any K W
  generalize nameK K = nm at *
  obtain ⟨is, hsi, hs0, hs1, hs2⟩ := info_parts infoS17
  have hcap := strsC_cap' hv
  have hsl : (strsV l).length = l.length * 1 := by simp [strsV]
  have HV := Lib.hid hv
  clear h300 h1 hread hK
  rcases hfirst with ⟨h0, h1l, hb0⟩ | h1l
  all_goals go_enter Tryd.func6, Tryd.ntmps6
  all_goals go_wp2_with fail; refine (awake17 _ HL.out).mono ?_; rintro e w1 ⟨rfl, b1⟩
  all_goals go_wp2_with fail; refine (Few_any l _ _ (hv.1.below b1)).mono ?_; rintro e w2 ⟨rfl, rfl⟩
  all_goals rw [hf]
  all_goals have own0 := World.ownsRow_lit (base := w.heap.size) (e := 9) (size := 1) w1 #[.string ⟨f.toArray⟩] 1 b1.size (by decide) rfl
  all_goals have g0 := b1.alloc b1.size (.cells #[.string ⟨f.toArray⟩] 9)
  all_goals have hsrc := strs_src17 (HV.out.below g0).1
  all_goals go_wp2_with (first | (at_builtin; refine wpList_append_all rfl (.tmp 39) (.tmp 40) 22 9 rfl Tryd.underlying22 hsi hs0 hs1 hs2 rfl (by decide) (by decide) w.heap.size (n := 1) (xs := [.string ⟨f.toArray⟩]) a l.length ca (strsV l) rfl rfl own0 hcap hsl hsrc (strsV_one17 l) (by omega) g0.size ?_; intro v5 w5 own5 hB5) | fail)
  all_goals rw [← HK.out]
  all_goals refine (hN _).mono ?_
  all_goals rintro e w6 ⟨rfl, b6⟩
  all_goals have o5 : w5.ownsRow w.heap.size 9 1 v5 (l.length + 1) (strsV (f :: l)) := by simpa [strsV, Nat.add_comm] using own5
  all_goals obtain ⟨a5, c5, rfl⟩ := own_sl17 o5
  all_goals have b5 := g0.trans hB5
  all_goals replace b5 := b5.trans (b6.mono b5.size)
  all_goals replace o5 := own_keep17 o5 b6
  all_goals have own1 := World.ownsRow_lit (base := w6.heap.size) (e := 9) (size := 1) w6 #[.string ⟨nm.toArray⟩] 1 (Nat.le_refl _) (by decide) rfl
  all_goals have g1 := below_new w6 (.cells #[.string ⟨nm.toArray⟩] 9)
  all_goals have hsrc2 := strs_src17 (own_strs (own_keep17 o5 g1))
  all_goals have hcap2 := strsC_cap' (own_strsC17 o5)
  all_goals have hsl2 : (strsV (f :: l)).length = (l.length + 1) * 1 := by simp [strsV]
  all_goals clear own5 hB5 own0 g0 b6 hsrc hcap hsl hN b1
  all_goals go_wp2_with (first | (at_builtin; refine wpList_append_all rfl (.tmp 45) (.tmp 46) 22 9 rfl Tryd.underlying22 hsi hs0 hs1 hs2 rfl (by decide) (by decide) w6.heap.size (n := 1) (xs := [.string ⟨nm.toArray⟩]) a5 (l.length + 1) c5 (strsV (f :: l)) rfl rfl own1 hcap2 hsl2 hsrc2 (strsV_one17 _) (by omega) g1.size ?_; intro v7 w7 own7 hB7) | fail)
  all_goals have o7 : w7.ownsRow w6.heap.size 9 1 v7 (1 + (l.length + 1)) (strsV (nm :: f :: l)) := by simpa [strsV] using own7
  all_goals have g7 := g1.trans hB7
  all_goals replace o5 := own_keep17 o5 g7
  all_goals replace b5 := b5.trans (g7.mono b5.size)
  all_goals obtain ⟨a7, c7, rfl⟩ := own_sl17 o7
  all_goals refine (hR1 _ _ (own_strsC17 o7) (HL.out.next b5)).mono ?_
  all_goals rintro e w8 ⟨v8, rfl, o8, b8⟩
  all_goals replace b5 := b5.trans (b8.mono b5.size)
  all_goals replace o5 := own_keep17 o5 b8
  all_goals clear own7 hB7 o7 g7 b8 hR1 hsrc2 hcap2 hsl2 own1 g1
  all_goals
    by_cases hc : 4 ≤ K ∧ l = []
    · rw [if_pos hc] at o8 ⊢
      dsimp only at o8 ⊢
      obtain ⟨a8, c8, rfl⟩ := own_sl17 o8
      obtain ⟨hk4, hl0⟩ := hc
      have hl00 : ((l.length : Int) == 0) = true := by rw [hl0]; rfl
      have hT : (nm ++ sDest ++ quoteB f).isEmpty = false := by simp [sDest]
      generalize nm ++ sDest ++ quoteB f = T at *
      clear hl0 o8 o5
      go_wp2
      go_ret
      exact ⟨rfl, b5.alloc b5.size _⟩
    · rw [if_neg hc] at o8 ⊢
      dsimp only at o8 ⊢
      obtain ⟨a8, c8, rfl⟩ := own_sl17 o8
      have B8 := Blk.new w8 26 (cmdC ⟨K, [], f :: l⟩ (.slice a8 (f :: l).length c8))
      have g8 := below_new w8 (.cells (cmdC ⟨K, [], f :: l⟩ (.slice a8 (f :: l).length c8)) 26)
      have s8 := own_strs (own_keep17 o8 g8)
      have s5 := own_strs (own_keep17 o5 g8)
      have b8 := b5.trans (g8.mono b5.size)
      have hS := Same_any (f :: l) (f :: l) _ _ _ s8 s5
      rw [show decide (f :: l = f :: l) = true from decide_eq_true rfl] at hS
      obtain ⟨⟨p0, p1, p2⟩, _⟩ := B8.tri
      dsimp only at p0 p1 p2
      clear hc g8 s8 s5 o8 o5
      go_wp2_with fail
      refine hS.mono ?_
      rintro e w9 ⟨rfl, b9⟩
      go_wp2
      go_ret
      exact ⟨rfl, b8.trans (b9.mono b8.size)⟩
namespace LArgsOperands
set_option maxRecDepth 100000 in
theorem lifted (os : Os) (started : os.Started) (H : Type) (enc : TypeId × Value → H) :
    ReturnsInHanded {} Tryd.checked os 6 .any (fun w args => (Rows.argsOperandsSpec.pre enc Tryd.prog Tryd.f6 [] false w args ∧ laidMetH Tryd.prog Rows.argsOperandsRow.laid w) ∧ sizedMet enc Tryd.prog Tryd.f6 (OpenSpec.ofChange Rows.argsOperandsSpec) false w args) (Rows.argsOperandsSpec.post enc Tryd.prog Tryd.f6 false true false false) := by
  refine returnsInHanded_of_change_and (C := Tryd.checked) (X := fun w _ => laidMetH Tryd.prog Rows.argsOperandsRow.laid w) (fun _ _ _ hh h => h.of_heap hh) (by kernel_rfl) started (by kernel_rfl) Tryd.func6
    (ChangeSpec.witness_shaped (enc := enc) (C := Tryd.checked) (os := os) (X := fun w _ => laidMetH Tryd.prog Rows.argsOperandsRow.laid w) false (World.laidAll Tryd.prog os Rows.argsOperandsRow.laid) #[.int .u8 0, .string ByteArray.empty, .slice none 0 0] 8 (World.laidAll_os _ _ _)
      (World.shaped_of_ZipB (by kernel_rfl) (by kernel_rfl)) (by kernel_rfl) (by kernel_rfl) (by kernel_rfl)
      (by rw [MakeChecks.laidMetH_plain _ _ _ (by kernel_rfl)]; exact laidMet_laidAll _ (by kernel_rfl) (by kernel_rfl))) ?_
  intro W base args ds gs before hval0 hW hcnd _ hLaid _
  have hL := of_laid hLaid
  clear hLaid
  have hval : ∀ (j : Nat) t v, Tryd.f6.params[j]? = some t → args[j]? = some v → Value.okWide Tryd.prog W .any base t v := hval0
  have hW' := hW
  obtain ⟨p, q, hA0, hV, rfl, hfz, hnd⟩ := hW
  have hA : DataW.TrodAll enc Tryd.prog W 0 (fun _ => true) true Tryd.f6.params.toList args.toList ds p := hA0
  rw [Tryd.params6] at hA hval
  obtain ⟨v0, vs0, d0, ds0, p0, q0, hargs, rfl, rfl, k0, r0⟩ := trodAll_cons hA
  obtain ⟨v1, vs1, d1, ds1, p1, q1, rfl, rfl, rfl, k1, r1⟩ := trodAll_cons r0
  obtain ⟨v2, vs2, d2, ds2, p2, q2, rfl, rfl, rfl, k2, r2⟩ := trodAll_cons r1
  obtain ⟨rfl, rfl, rfl⟩ := trodAll_nil r2
  obtain rfl : args = #[v0, v1, v2] := by cases args; simp_all
  obtain ⟨rfl, rfl⟩ := trodVars_none hV
  have ok0 := hval 0 5 v0 rfl rfl
  have ok1 := hval 1 9 v1 rfl rfl
  have ok2 := hval 2 22 v2 rfl rfl
  have lt0 : ∀ x ∈ p0, x.block < W.heap.size := by obtain ⟨m, hm⟩ := k0; exact DataW.trod_lt m _ _ _ hm
  have lt1 : ∀ x ∈ p1, x.block < W.heap.size := by obtain ⟨m, hm⟩ := k1; exact DataW.trod_lt m _ _ _ hm
  have lt2 : ∀ x ∈ p2, x.block < W.heap.size := by obtain ⟨m, hm⟩ := k2; exact DataW.trod_lt m _ _ _ hm
  have C : Calls Tryd.prog 6 #[v0, v1, v2] W fun e w' => e = .returned (.bool true) ∧ Below W.heap.size W w' := by
    clear hA0 hval0 hval hW' hcnd hV hfz hnd
    obtain ⟨x, rfl, rfl, rfl, hx⟩ := open_int Tryd.underlying5 ok0 k0
    have hb := bounds_u8 hx
    obtain ⟨y, rfl⟩ := Int.eq_ofNat_of_zero_le hb.1
    obtain ⟨s, rfl, rfl, rfl, hs⟩ := open_string Tryd.underlying9 ok1 k1
    obtain ⟨l, hl⟩ := strsC_of_trod ok2 k2
    rw [str_eta s]
    exact lawOperands17 y _ l _ W (by omega) (str_len hs) hl hL
  refine C.mono fun e W' ⟨he, bel⟩ => ?_
  subst he
  exact ⟨_, rfl, _, _, _, [], _, [], hW', trodAll_mk1 (shut_bool Tryd.underlying4 _), (trodAll_cons_mk (Below.trod laidOut (by kernel_rfl) (of_decide_eq_true (by kernel_rfl)) k0 bel lt0) (trodAll_cons_mk (Below.trod laidOut (by kernel_rfl) (of_decide_eq_true (by kernel_rfl)) k1 bel lt1) (trodAll_cons_mk (Below.trod laidOut (by kernel_rfl) (of_decide_eq_true (by kernel_rfl)) k2 bel lt2) trodAll_mk0))), rfl, bel.frame _, fun h => by cases h⟩
theorem bare : Rows.ArgsOperandsSaid :=
  OpenClaim.holds_of_wide 6 Tryd.f6 rfl rfl rfl rfl rfl rfl rfl ⟨rfl, rfl, rfl, rfl, rfl⟩ rfl rfl rfl rfl rfl (by kernel_rfl) Tryd.func6 (by kernel_rfl)
    (of_decide_eq_true (by kernel_rfl)) (by unfold Func.isWrapper; first | (rw [if_pos (by decide +kernel)]; kernel_rfl) | (rw [if_neg (by decide +kernel)]; exact ⟨rfl, rfl⟩))
    (fun os started H enc _ => lifted os started H enc)
theorem proved : Rows.ArgsOperandsCardSaid :=
  Claim7.holds_tied_plain_at .later [] Rows.argsOperandsCard.laidKinds true Rows.argsOperandsCard.stood.harness false
    bare (fun _ h => by cases h) (by kernel_rfl) (fun _ h => by cases h) argsOperands_row_tie rfl ⟨rfl, rfl⟩ (by kernel_rfl) rfl
    (fun f fn hf hfn => by
      obtain rfl : f = 6 := Option.some.inj ((show Tryd.prog.funcNamed "drayman/draymanlaw17.ArgsOperands" = some 6 by kernel_rfl).symm.trans hf) |>.symm
      obtain rfl : fn = Tryd.f6 := (Option.some.inj (Tryd.func6.symm.trans hfn)).symm
      exact ⟨by kernel_rfl, fun j t ht => by
        rw [Tryd.params6] at ht
        have hm : t ∈ [5, 9, 22] := by simpa using Array.mem_of_getElem? ht
        have hall : ([5, 9, 22].all fun u => !Tryd.prog.wantsStandIn u) = true := by kernel_rfl
        exact (show Tryd.prog.wantsStandIn t = false by simpa using List.all_eq_true.1 hall t hm)⟩)
    (by kernel_rfl)
#print axioms proved
end LArgsOperands
end Go.Proofs.YtboceckeebhfoaaDoor
