/- For every few calls with short texts, and every place in them: a script done by package build is its beginning, and then its rest, in the file system and in the errors (no condition). Printed by tools/law15d.py. -/
import Derived.Test.YtkdmfeikikmiiaaGreatQMLawBase15
import Derived.Deep.LoopGhost
import Derived.Deep.RegionWith
import Derived.BigQuiet
set_option linter.unusedVariables false
set_option linter.unusedSimpArgs false
namespace Go.Proofs.YtkdmfeikikmiiaaGreat
open Go.ChangeShapes Go.WideShapes Go.ChangeAt Go.RowKit
set_option linter.unusedVariables false
theorem Cls.tail2 {w : World} {ac : Option Addr} {cc : Nat} {l : List CallV} (h : Cls w (.slice ac l.length cc) l) {n : Nat} (hn : n ≤ l.length) : Cls w (.slice (if cc = n then ac else Option.map (fun x => x.add (n * 4)) ac) (l.length - n) (cc - n)) (l.drop n) := by
  by_cases hc : cc = n
  · obtain ⟨a', cap', e, h1, hm, he, h0, _⟩ := h
    simp only [Value.slice.injEq] at e
    obtain ⟨rfl, _, rfl⟩ := e
    rw [if_pos hc]
    refine ⟨_, _, by rw [List.length_drop], by rw [List.length_drop]; omega, by omega, fun c hc => he c (List.mem_of_mem_drop hc), (fun h => by have := h0 h; omega), fun hp => ?_⟩
    rw [List.length_drop] at hp
    omega
  · rw [if_neg hc]
    cases ac with
    | none =>
      obtain ⟨a', cap', e, h1, hm, he, h0, _⟩ := h
      simp only [Value.slice.injEq] at e
      obtain ⟨rfl, _, rfl⟩ := e
      exact absurd (h0 rfl) (by omega)
    | some ad =>
      by_cases hl : 0 < l.length
      · obtain ⟨a', cap', e, h1, hm, he, h0, h2⟩ := id h
        obtain ⟨b, off, e2, _⟩ := h2 hl
        simp only [Value.slice.injEq] at e
        obtain ⟨rfl, _, rfl⟩ := e
        obtain rfl := Option.some.inj e2
        rw [Option.map_some, Addr.add_lit]
        exact h.tail hn
      · obtain ⟨a', cap', e, h1, hm, he, h0, h2⟩ := h
        simp only [Value.slice.injEq] at e
        obtain ⟨rfl, _, rfl⟩ := e
        exact ⟨_, _, by rw [List.length_drop], by rw [List.length_drop]; omega, by omega, fun c hc => he c (List.mem_of_mem_drop hc), (fun h => by simp at h), fun hp => by rw [List.length_drop] at hp; omega⟩
theorem sub_nat15 (k n : Nat) : ((k : Int) - (n : Int)).toNat = k - n := by omega
theorem parts_eq {cs : List CallV} {n : Nat} (hn : n ≤ cs.length) {s b t : St} {es gs hs : List Int} (h3 : RanN 20 99 [47] (2, [rootN]) cs cs.length s es) (h4 : RanN 20 99 [47] (2, [rootN]) (cs.take n) (cs.take n).length b gs) (h5 : RanN 20 99 [47] b (cs.drop n) (cs.drop n).length t hs) :
    es = gs ++ hs ∧ gs.length = n ∧ t.1 = s.1 ∧ s.2.map Nd.key = t.2.map Nd.key := by
  have hl : (cs.take n).length = n := by rw [List.length_take]; omega
  rw [hl] at h4
  have h6 := ran_parts (ran_take h4) h5
  rw [List.length_drop, show n + (cs.length - n) = cs.length from by omega] at h6
  obtain ⟨e1, e2, e3⟩ := run_same h3 h6
  exact ⟨e1.symm, ran_len h4, e2, e3⟩
theorem kit_take {cs : List CallV} {n : Nat} (hk : Kit 20 99 0 (2, [rootN])) (hn : n ≤ cs.length) (hsh : ∀ c ∈ cs, c.a.length ≤ 300 ∧ c.b.length ≤ 300 ∧ c.data.length ≤ 300) {s : St} {gs : List Int} (hl : cs.length ≤ 25) (h4 : RanN 20 99 [47] (2, [rootN]) (cs.take n) (cs.take n).length s gs) : Kit 20 99 (0 + n) s := by
  have h2 : (cs.take n).length = n := by rw [List.length_take]; omega
  rw [h2] at h4
  exact ran_kit hk (fun c hc => (hsh c (List.mem_of_mem_take hc)).2.2) (by omega) h4
set_option maxHeartbeats 16000000 in
set_option maxRecDepth 100000 in
theorem lawParts15 (ct : Int) (h1 : 0 ≤ ct ∧ ct ≤ 255) (cs : List CallV) (vc : Value) (w : World) (hc : Cls w vc cs) :
    Calls Tryz.prog 6 #[vc, .int .u8 ct] w fun e w' => e = .returned (.bool true) ∧ Below w.heap.size w w' := by
  cases hf : fewC cs
  · go_enter Tryz.func6, Tryz.ntmps6
    go_wp2_with fail; refine (awake15 _).mono ?_; rintro e w1 ⟨rfl, b1⟩
    go_wp2_with fail; refine (fewC_any cs _ _ (hc.below b1)).mono ?_; rintro e w2 ⟨rfl, rfl⟩
    rw [hf]
    go_wp2_with fail; refine (awake15 _).mono ?_; rintro e w3 ⟨rfl, b3⟩
    go_wp2
    go_ret
    exact ⟨rfl, b1.trans (b3.mono b1.size)⟩
  obtain ⟨hl, hsh⟩ := fewC_small hf
  have hw1 : IntKind.i64.wrap ct = ct := by rw [IntKind.wrap_i64]; omega
  obtain ⟨ac, cc, rfl, hcc, hcm, _, hcn, _⟩ := id hc
  unfold maxLen at hcm
  obtain ⟨n, hn⟩ : ∃ n : Nat, ct % ((cs.length : Int) + 1) = n := ⟨(ct % ((cs.length : Int) + 1)).toNat, by have := Int.emod_nonneg ct (b := (cs.length : Int) + 1) (by omega); omega⟩
  have hn1 : n ≤ cs.length := by have := Int.emod_lt_of_pos ct (b := (cs.length : Int) + 1) (by omega); omega
  have hw4 : IntKind.i64.wrap (n : Int) = (n : Int) := by rw [IntKind.wrap_i64]; omega
  have hkit : Kit 20 99 0 (2, [rootN]) := root_kit (by decide) (by decide) (by decide) (by decide)
  go_enter Tryz.func6, Tryz.ntmps6
  go_wp2_with fail; refine (awake15 _).mono ?_; rintro e w1 ⟨rfl, b1⟩
  replace hc := hc.below b1
  go_wp2_with fail; refine (fewC_any cs _ _ hc).mono ?_; rintro e w2 ⟨rfl, rfl⟩
  rw [hf]
  go_wp2_with fail
  rw [hn]
  clear hn hw1 h1
  refine (refNewT_any 20 99 _).mono ?_
  rintro e w2 ⟨v2, rfl, n2, b2⟩
  obtain ⟨a2, c2, rfl⟩ := nds_slice n2
  have s2 := alloc_below w2 (.cells (fsC 20 99 2 (.slice a2 1 c2)) 28)
  have bF := Blk.new w2 28 (fsC 20 99 2 (.slice a2 1 c2))
  have d2 := b2.trans (s2.mono b2.size)
  replace n2 := n2.below s2
  replace hc := hc.below d2
  have hB := b1.trans (d2.mono b1.size)
  clear b1 b2 s2 d2
  obtain ⟨⟨p0, p1, p2, p3⟩, _⟩ := bF.four
  go_wp2_with fail
  refine (Run15_any 20 99 2 [rootN] cs [47] _ _ _ n2 hc (n := 0) hkit (by omega) (by decide) hsh).mono ?_
  rintro e w3 ⟨y3, vo, ⟨x3, l3⟩, es, rfl, hM3, hO3, hR3, b3⟩
  have n3 := hM3.now n2 b3
  have hI3 := Its.own hO3
  obtain ⟨a3, c3, rfl⟩ := nds_slice n3
  obtain ⟨ao, co, rfl, ho1, ho2, _⟩ := id hI3
  have s3 := alloc_below w3 (.cells (fsC 20 99 x3 (.slice a3 l3.length c3)) 28)
  have bA := Blk.new w3 28 (fsC 20 99 x3 (.slice a3 l3.length c3))
  have d3 := b3.trans (s3.mono b3.size)
  replace n3 := n3.below s3
  replace hI3 := hI3.below s3
  replace n2 := n2.below d3
  replace hc := hc.below d3
  replace bF := bF.next d3
  replace hB := hB.trans (d3.mono hB.size)
  clear b3 s3 hM3 hO3 p0 p1 p2 p3
  go_upto_region 6 with fail
  have hlF := bF.lt
  generalize w3.alloc (.cells (fsC 20 99 x3 (.slice a3 l3.length c3)) 28) = wa at *
  generalize w2.heap.size = BF at *
  generalize w3.heap.size = BA at *
  clear d3
  have HBF := Lib.hid bF
  have HBA := Lib.hid bA
  have HNA := Lib.hid n3
  have HIA := Lib.hid hI3
  have HMK6 : ∀ W, Below wa.heap.size wa W → (W.cell? ⟨BF, 0, none⟩ = some (.int .i64 20) ∧ W.cell? ⟨BF, 1, none⟩ = some (.int .i64 99) ∧ W.cell? ⟨BF, 2, none⟩ = some (.int .i64 2) ∧ W.cell? ⟨BF, 3, none⟩ = some (.slice a2 1 c2)) := by
    intro W h
    exact (HBF.out.next h).four.1
  have HN2 := Lib.hid n2
  have HCs := Lib.hid hc
  clear n2 hc bF bA n3 hI3
  have hq0 : Below wa.heap.size wa wa.drew := (Below.refl _ _).drew
  have k0 : (0 : Int) ≤ (n : Int) := by omega
  have k1 : (n : Int) ≤ (cc : Int) := by omega
  have k2 : n ≤ cc := by omega
  have hR6 := fun v W hv hC => Run15_any 20 99 2 [rootN] (cs.take n) [47] v (.slice ac n cc) W hv hC (n := 0) hkit (by rw [List.length_take]; omega) (by decide) (fun c hc => hsh c (List.mem_of_mem_take hc))
  have HR6 := Lib.hid hR6
  clear hR6
  (refine wp_region_held_drew (S := (fun W => (W.cell? ⟨BF, 0, none⟩ = some (.int .i64 20) ∧ W.cell? ⟨BF, 1, none⟩ = some (.int .i64 99) ∧ W.cell? ⟨BF, 2, none⟩ = some (.int .i64 2) ∧ W.cell? ⟨BF, 3, none⟩ = some (.slice a2 1 c2)))) (by kernel_rfl) (HMK6 _ hq0) (fun hHeld => ?_))
  (refine heldTake 0 (some 36) (v := ?_) rfl rfl (by kernel_rfl) (by kernel_rfl) (by kernel_rfl) (fun _ _ _ h => h) (by rfl) ?_ (by assumption) ?_; rotate_left; (focus (intro w hSw; (try dsimp only at hSw); go_simp; try with_reducible rfl)); (try simp only [Act.put, List.setIfInBounds_toArray, List.set_cons_zero, List.set_cons_succ]))
  (refine heldTake 1 (some 37) (v := ?_) rfl rfl (by kernel_rfl) (by kernel_rfl) (by kernel_rfl) (fun _ _ _ h => h) (by rfl) ?_ (by assumption) ?_; rotate_left; (focus (intro w hSw; (try dsimp only at hSw); go_simp; try with_reducible rfl)); (try simp only [Act.put, List.setIfInBounds_toArray, List.set_cons_zero, List.set_cons_succ]))
  (refine heldTake 2 (some 38) (v := ?_) rfl rfl (by kernel_rfl) (by kernel_rfl) (by kernel_rfl) (fun _ _ _ h => h) (by rfl) ?_ (by assumption) ?_; rotate_left; (focus (intro w hSw; (try dsimp only at hSw); go_simp; try with_reducible rfl)); (try simp only [Act.put, List.setIfInBounds_toArray, List.set_cons_zero, List.set_cons_succ]))
  (refine heldTake 3 (some 39) (v := ?_) rfl rfl (by kernel_rfl) (by kernel_rfl) (by kernel_rfl) (fun _ _ _ h => h) (by rfl) ?_ (by assumption) ?_; rotate_left; (focus (intro w hSw; (try dsimp only at hSw); go_simp; try with_reducible rfl)); (try simp only [Act.put, List.setIfInBounds_toArray, List.set_cons_zero, List.set_cons_succ]))
  (refine wpAnyH_ready (rs := [4, 8]) (by kernel_rfl) (by simp) ?_; refine AllReadyH.cons rfl (fun K hK => ?_) (AllReadyH.cons rfl (fun K hK => ?_) AllReadyH.nil))
  · (go_simp; go_at_call 10; refine (HR6.out _ _ (HN2.out.below hq0) ((HCs.out.below hq0).head hn1)).mono ?_; rintro e w4 ⟨y4, vq, ⟨x4, l4⟩, gs, rfl, hM4, hO4, hR4, b4⟩; have n4 := hM4.now (HN2.out.below hq0) b4; have hI4 := Its.own hO4; obtain ⟨a4, c4, rfl⟩ := nds_slice n4; obtain ⟨aq4, cq4, rfl, hq14, hq24, _⟩ := id hI4; have hqa := hq0.trans (b4.mono hq0.size); dsimp only at n4; (try dsimp only); refine hK.out _ _ (HMK6 _ hqa) (fun hHeld => ?_); clear hK K; (try simp only [Act.put, List.setIfInBounds_toArray, List.set_cons_zero, List.set_cons_succ]))
    (refine heldTake 5 (some 35) (v := ?_) rfl rfl (by kernel_rfl) (by kernel_rfl) (by kernel_rfl) (fun _ _ _ h => h) (by rfl) ?_ (by assumption) ?_; rotate_left; (focus (intro w hSw; (try dsimp only at hSw); go_simp; try with_reducible rfl)); (try simp only [Act.put, List.setIfInBounds_toArray, List.set_cons_zero, List.set_cons_succ]))
    (refine heldTake 6 (some 41) (v := ?_) rfl rfl (by kernel_rfl) (by kernel_rfl) (by kernel_rfl) (fun _ _ _ h => h) (by rfl) ?_ (by assumption) ?_; rotate_left; (focus (intro w hSw; (try dsimp only at hSw); go_simp; try with_reducible rfl)); (try simp only [Act.put, List.setIfInBounds_toArray, List.set_cons_zero, List.set_cons_succ]))
    (refine heldTake 7 (some 42) (v := ?_) rfl rfl (by kernel_rfl) (by kernel_rfl) (by kernel_rfl) (fun _ _ _ h => h) (by rfl) ?_ (by assumption) ?_; rotate_left; (focus (intro w hSw; (try dsimp only at hSw); go_simp; try with_reducible rfl)); (try simp only [Act.put, List.setIfInBounds_toArray, List.set_cons_zero, List.set_cons_succ]))
    have sz := alloc_below w4 (.cells (fsC 0 0 0 (.slice none 0 0)) 28)
    have hqb := hqa.trans (sz.mono hqa.size)
    (refine wpAnyH_ready (rs := [8]) (by kernel_rfl) (by simp) ?_; refine AllReadyH.cons rfl (fun K hK => ?_) AllReadyH.nil; go_simp; skip; (try dsimp only); refine hK.out _ _ (HMK6 _ hqb) (fun hHeld => ?_); clear hK K; (try simp only [Act.put, List.setIfInBounds_toArray, List.set_cons_zero, List.set_cons_succ]))
    have bG := Blk.new w4 28 (fsC 20 99 x4 (.slice a4 l4.length c4))
    have sg := alloc_below w4 (.cells (fsC 20 99 x4 (.slice a4 l4.length c4)) 28)
    have hqc := hqa.trans (sg.mono hqa.size)
    (refine wpAnyH_ready (rs := [9]) (by kernel_rfl) (by simp) ?_; refine AllReadyH.cons rfl (fun K hK => ?_) AllReadyH.nil; go_simp; skip; (try dsimp only); refine hK.out _ _ (HMK6 _ hqc) (fun hHeld => ?_); clear hK K; (try simp only [Act.put, List.setIfInBounds_toArray, List.set_cons_zero, List.set_cons_succ]))
    (refine heldTake 10 (some 10) (v := ?_) rfl rfl (by kernel_rfl) (by kernel_rfl) (by kernel_rfl) (fun _ _ _ h => h) (by rfl) ?_ (by assumption) ?_; rotate_left; (focus (intro w hSw; (try dsimp only at hSw); go_simp; try with_reducible rfl)); (try simp only [Act.put, List.setIfInBounds_toArray, List.set_cons_zero, List.set_cons_succ]))
    refine wpAnyH_done (by kernel_rfl) ?_ _
    replace n4 := n4.below sg
    replace hI4 := hI4.below sg
    have hGl := bG.lt
    clear sz hqb sg hqa hM4 hO4
    generalize hWW : w4.alloc (.cells (fsC 20 99 x4 (.slice a4 l4.length c4)) 28) = wc at *
    clear hWW
    generalize w4.heap.size = BG4 at *
    have hqc6 := hqc
    clear hqc hq0 HMK6 HBF HN2 HR6
    have HR7 := Lib.hid (fun v W hv hC => Run15_any 20 99 x4 l4 (cs.drop n) [47] v (.slice (if cc = n then ac else Option.map (fun x => x.add (n * 4)) ac) (cs.length - n) (cc - n)) W hv hC (n := 0 + n) (kit_take hkit hn1 hsh hl hR4) (by rw [List.length_drop]; omega) (by decide) (fun c hc => hsh c (List.mem_of_mem_drop hc)))
    go_upto_region 7 with fail
    have hq0 : Below wc.heap.size wc wc.drew := (Below.refl _ _).drew
    have HBG := Lib.hid bG
    have HN4 := Lib.hid n4
    have HC7 := Lib.hid (HCs.out.below hqc6)
    have HTl := Lib.hid (fun W (h : Cls W (.slice ac cs.length cc) cs) => Cls.tail2 h hn1)
    have HMK7 : ∀ W, Below wc.heap.size wc W → (W.cell? ⟨BG4, 0, none⟩ = some (.int .i64 20) ∧ W.cell? ⟨BG4, 1, none⟩ = some (.int .i64 99) ∧ W.cell? ⟨BG4, 2, none⟩ = some (.int .i64 x4) ∧ W.cell? ⟨BG4, 3, none⟩ = some (.slice a4 l4.length c4)) := by
      intro W h
      exact (HBG.out.next h).four.1
    clear bG n4 HCs
    generalize wc = wd at *
    (refine wp_region_held_drew (S := (fun W => (W.cell? ⟨BG4, 0, none⟩ = some (.int .i64 20) ∧ W.cell? ⟨BG4, 1, none⟩ = some (.int .i64 99) ∧ W.cell? ⟨BG4, 2, none⟩ = some (.int .i64 x4) ∧ W.cell? ⟨BG4, 3, none⟩ = some (.slice a4 l4.length c4)))) (by kernel_rfl) (HMK7 _ hq0) (fun hHeld => ?_))
    (refine heldTake 0 (some 44) (v := ?_) rfl rfl (by kernel_rfl) (by kernel_rfl) (by kernel_rfl) (fun _ _ _ h => h) (by rfl) ?_ (by assumption) ?_; rotate_left; (focus (intro w hSw; (try dsimp only at hSw); go_simp; try with_reducible rfl)); (try simp only [Act.put, List.setIfInBounds_toArray, List.set_cons_zero, List.set_cons_succ]))
    (refine heldTake 1 (some 45) (v := ?_) rfl rfl (by kernel_rfl) (by kernel_rfl) (by kernel_rfl) (fun _ _ _ h => h) (by rfl) ?_ (by assumption) ?_; rotate_left; (focus (intro w hSw; (try dsimp only at hSw); go_simp; try with_reducible rfl)); (try simp only [Act.put, List.setIfInBounds_toArray, List.set_cons_zero, List.set_cons_succ]))
    (refine heldTake 2 (some 46) (v := ?_) rfl rfl (by kernel_rfl) (by kernel_rfl) (by kernel_rfl) (fun _ _ _ h => h) (by rfl) ?_ (by assumption) ?_; rotate_left; (focus (intro w hSw; (try dsimp only at hSw); go_simp; try with_reducible rfl)); (try simp only [Act.put, List.setIfInBounds_toArray, List.set_cons_zero, List.set_cons_succ]))
    (refine heldTake 3 (some 47) (v := ?_) rfl rfl (by kernel_rfl) (by kernel_rfl) (by kernel_rfl) (fun _ _ _ h => h) (by rfl) ?_ (by assumption) ?_; rotate_left; (focus (intro w hSw; (try dsimp only at hSw); go_simp; try with_reducible rfl)); (try simp only [Act.put, List.setIfInBounds_toArray, List.set_cons_zero, List.set_cons_succ]))
    generalize hif : (if cc = n then ac else Option.map (fun x => x.add (n * 4)) ac) = acn at *
    clear hif
    (refine wpAnyH_ready (rs := [4, 8]) (by kernel_rfl) (by simp) ?_; refine AllReadyH.cons rfl (fun K hK => ?_) (AllReadyH.cons rfl (fun K hK => ?_) AllReadyH.nil))
    · (go_simp; go_at_call 10; refine (HR7.out _ _ (HN4.out.below hq0) (HTl.out _ (HC7.out.below hq0))).mono ?_; rintro e w5 ⟨y5, vq, ⟨x5, l5⟩, hs, rfl, hM5, hO5, hR5, b5⟩; have n5 := hM5.now (HN4.out.below hq0) b5; have hI5 := Its.own hO5; obtain ⟨a5, c5, rfl⟩ := nds_slice n5; obtain ⟨aq5, cq5, rfl, hq15, hq25, _⟩ := id hI5; have hqa := hq0.trans (b5.mono hq0.size); dsimp only at n5; (try dsimp only); refine hK.out _ _ (HMK7 _ hqa) (fun hHeld => ?_); clear hK K; (try simp only [Act.put, List.setIfInBounds_toArray, List.set_cons_zero, List.set_cons_succ]))
      (refine heldTake 5 (some 43) (v := ?_) rfl rfl (by kernel_rfl) (by kernel_rfl) (by kernel_rfl) (fun _ _ _ h => h) (by rfl) ?_ (by assumption) ?_; rotate_left; (focus (intro w hSw; (try dsimp only at hSw); go_simp; try with_reducible rfl)); (try simp only [Act.put, List.setIfInBounds_toArray, List.set_cons_zero, List.set_cons_succ]))
      (refine heldTake 6 (some 49) (v := ?_) rfl rfl (by kernel_rfl) (by kernel_rfl) (by kernel_rfl) (fun _ _ _ h => h) (by rfl) ?_ (by assumption) ?_; rotate_left; (focus (intro w hSw; (try dsimp only at hSw); go_simp; try with_reducible rfl)); (try simp only [Act.put, List.setIfInBounds_toArray, List.set_cons_zero, List.set_cons_succ]))
      (refine heldTake 7 (some 50) (v := ?_) rfl rfl (by kernel_rfl) (by kernel_rfl) (by kernel_rfl) (fun _ _ _ h => h) (by rfl) ?_ (by assumption) ?_; rotate_left; (focus (intro w hSw; (try dsimp only at hSw); go_simp; try with_reducible rfl)); (try simp only [Act.put, List.setIfInBounds_toArray, List.set_cons_zero, List.set_cons_succ]))
      have sz := alloc_below w5 (.cells (fsC 0 0 0 (.slice none 0 0)) 28)
      have hqb := hqa.trans (sz.mono hqa.size)
      (refine wpAnyH_ready (rs := [8]) (by kernel_rfl) (by simp) ?_; refine AllReadyH.cons rfl (fun K hK => ?_) AllReadyH.nil; go_simp; skip; (try dsimp only); refine hK.out _ _ (HMK7 _ hqb) (fun hHeld => ?_); clear hK K; (try simp only [Act.put, List.setIfInBounds_toArray, List.set_cons_zero, List.set_cons_succ]))
      have bG := Blk.new w5 28 (fsC 20 99 x5 (.slice a5 l5.length c5))
      have sg := alloc_below w5 (.cells (fsC 20 99 x5 (.slice a5 l5.length c5)) 28)
      have hqc := hqa.trans (sg.mono hqa.size)
      (refine wpAnyH_ready (rs := [9]) (by kernel_rfl) (by simp) ?_; refine AllReadyH.cons rfl (fun K hK => ?_) AllReadyH.nil; go_simp; skip; (try dsimp only); refine hK.out _ _ (HMK7 _ hqc) (fun hHeld => ?_); clear hK K; (try simp only [Act.put, List.setIfInBounds_toArray, List.set_cons_zero, List.set_cons_succ]))
      (refine heldTake 10 (some 12) (v := ?_) rfl rfl (by kernel_rfl) (by kernel_rfl) (by kernel_rfl) (fun _ _ _ h => h) (by rfl) ?_ (by assumption) ?_; rotate_left; (focus (intro w hSw; (try dsimp only at hSw); go_simp; try with_reducible rfl)); (try simp only [Act.put, List.setIfInBounds_toArray, List.set_cons_zero, List.set_cons_succ]))
      refine wpAnyH_done (by kernel_rfl) ?_ _
      replace n5 := n5.below sg
      replace hI5 := hI5.below sg
      have hGl := bG.lt
      clear sz hqb sg hqa hM5 hO5
      generalize hWW : w5.alloc (.cells (fsC 20 99 x5 (.slice a5 l5.length c5)) 28) = wc at *
      clear hWW
      generalize w5.heap.size = BG5 at *
      obtain ⟨hes, hgn, hx, hkk⟩ := parts_eq hn1 hR3 hR4 hR5
      dsimp only at hx hkk
      subst hx
      have hlen : es.length = gs.length + hs.length := by rw [hes, List.length_append]
      have bA7 := HBA.out.next (hqc6.trans (hqc.mono hqc6.size))
      have nA7 := HNA.out.below (hqc6.trans (hqc.mono hqc6.size))
      have hI3 := HIA.out.below (hqc6.trans (hqc.mono hqc6.size))
      have hI4b := hI4.below hqc
      have hB7 := hB.trans ((hqc6.trans (hqc.mono hqc6.size)).mono hB.size)
      have hel := ran_le hR3
      have hgl : es.length ≤ 25 := by have := ran_len hR3; omega
      have HES := Lib.hid hes
      have HGN := Lib.hid hgn
      have HLEN := Lib.hid hlen
      clear hes hgn hlen
      clear HBA HNA HIA hqc6 hqc hR3 hR4 hR5 HN4 HBG HMK7 hB hI4 hq0 hel hGl HR7 HTl HC7 b4 b5 hHeld
      obtain ⟨⟨p0, p1, p2, p3⟩, _⟩ := bA7.four
      obtain ⟨⟨q0, q1, q2, q3⟩, _⟩ := bG.four
      go_wp2_with fail
      refine (key_same 20 99 x5 hkk _ _ _ nA7 n5).mono ?_
      rintro e w7 ⟨rfl, b7⟩
      replace hI3 := hI3.below b7
      replace hI4b := hI4b.below b7
      replace hI5 := hI5.below b7
      replace hB7 := hB7.trans (b7.mono hB7.size)
      clear b7 p0 p1 p2 p3 q0 q1 q2 q3 bA7 nA7 bG n5 hkk
      obtain ⟨_, _, e3, _, _, HX3⟩ := hI3
      obtain ⟨_, _, e4, _, _, HX4⟩ := hI4b
      obtain ⟨_, _, e5, _, _, HX5⟩ := hI5
      simp only [Value.slice.injEq] at e3 e4 e5
      obtain ⟨rfl, _, rfl⟩ := e3
      obtain ⟨rfl, _, rfl⟩ := e4
      obtain ⟨rfl, _, rfl⟩ := e5
      have H3 := Lib.hid HX3
      have H4 := Lib.hid HX4
      have H5 := Lib.hid HX5
      have hne1 : ((es.length : Int) != (gs.length : Int) + (hs.length : Int)) = false := by have := HLEN.out; simp; omega
      have hne2 : ((gs.length : Int) != (n : Int)) = false := by have := HGN.out; simp; omega
      have hwl : IntKind.i64.wrap ((gs.length : Int) + (hs.length : Int)) = (gs.length : Int) + (hs.length : Int) := by have := HLEN.out; rw [IntKind.wrap_i64]; omega
      clear HX3 HX4 HX5 hw4
      go_wp2
      clear hne1 hne2 hwl
      go_loopw [13] (fun s wr => ∃ k : Nat, k ≤ es.length ∧ s = .int .i64 k ∧ Below w7.heap.size w7 wr) (fun s _ => es.length - (intOf s).toNat)
      case atStart => exact ⟨0, Nat.zero_le _, rfl, Below.refl _ _⟩
      case round =>
        obtain ⟨k, hk, rfl, hbw⟩ := hrel
        by_cases hlt : k < es.length
        · obtain ⟨g3, rfl, hg3, hc3⟩ := H3.out (by omega)
          have d3 := (hbw.cell (p := ⟨g3, k, none⟩) hg3).trans (hc3 k hlt)
          clear hc3
          have k0' : (0 : Int) ≤ (k : Int) := by omega
          have k1' : (k : Int) < (es.length : Int) := by omega
          have hz : (es[k] != es[k]) = false := by simp
          by_cases hkn : k < n
          · obtain ⟨g4, rfl, hg4, hc4⟩ := H4.out (by have := HGN.out; omega)
            have hk4 : k < gs.length := by have := HGN.out; omega
            have d4 := (hbw.cell (p := ⟨g4, k, none⟩) hg4).trans (hc4 k hk4)
            have he : gs[k] = es[k] := by simp only [HES.out]; rw [List.getElem_append_left hk4]
            rw [he] at d4
            clear hc4 he
            have k2' : (k : Int) < (gs.length : Int) := by omega
            have hd1 : decide (k < n) = true := by simpa using hkn
            have hd2 : decide (n ≤ k) = false := by simp; omega
            have hd3 : decide ((k : Int) < (n : Int)) = true := by simp; omega
            have hd4 : decide ((n : Int) ≤ (k : Int)) = false := by simp; omega
            generalize es[k] = z at *
            go_wp2
            go_quiet (fail)
            go_wp2
            go_roundw
            case rel => exact ⟨k + 1, by omega, by go_num, below_drewN hbw _⟩
            case measure => simp [intOf]; omega
          · have hl5 := HLEN.out
            have hg5' := HGN.out
            have hk5 : k - n < hs.length := by omega
            obtain ⟨g5, rfl, hg5, hc5⟩ := H5.out (by omega)
            have d5 := (hbw.cell (p := ⟨g5, k - n, none⟩) hg5).trans (hc5 (k - n) hk5)
            have he : hs[k - n] = es[k] := by
              have h0 : (gs ++ hs)[k]? = hs[k - n]? := by rw [List.getElem?_append_right (by omega), hg5']
              rw [← HES.out, List.getElem?_eq_getElem hlt, List.getElem?_eq_getElem hk5] at h0
              exact (Option.some.inj h0).symm
            rw [he] at d5
            have k2' : (0 : Int) ≤ (k : Int) - (n : Int) := by omega
            have k3' : (k : Int) - (n : Int) < (hs.length : Int) := by omega
            have k4' := sub_nat15 k n
            have k5' : IntKind.i64.wrap ((k : Int) - (n : Int)) = (k : Int) - (n : Int) := by rw [IntKind.wrap_i64]; omega
            clear hc5 he hl5 hg5' hk5
            have hd1 : decide (k < n) = false := by simpa using hkn
            have hd2 : decide (n ≤ k) = true := by simp; omega
            have hd3 : decide ((k : Int) < (n : Int)) = false := by simp; omega
            have hd4 : decide ((n : Int) ≤ (k : Int)) = true := by simp; omega
            generalize es[k] = z at *
            go_wp2
            go_quiet (fail)
            go_wp2
            go_roundw
            case rel => exact ⟨k + 1, by omega, by go_num, below_drewN hbw _⟩
            case measure => simp [intOf]; omega
        · go_wp2
          go_ret
          exact ⟨rfl, hB7.trans (hbw.mono hB7.size)⟩
    · have s0 := alloc_below wd.drew (.cells (fsC 0 0 0 (.slice none 0 0)) 28)
      have hqa := hq0.trans (s0.mono hq0.size)
      (go_simp; skip; (try dsimp only); refine hK.out _ _ (HMK7 _ hqa) (fun hHeld => ?_); clear hK K; (try simp only [Act.put, List.setIfInBounds_toArray, List.set_cons_zero, List.set_cons_succ]))
      (refine wpAnyH_ready (rs := [4]) (by kernel_rfl) (by simp) ?_; refine AllReadyH.cons rfl (fun K hK => ?_) AllReadyH.nil; go_simp; go_at_call 10; refine (HR7.out _ _ (HN4.out.below hqa) (HTl.out _ (HC7.out.below hqa))).mono ?_; rintro e w5 ⟨y5, vq, ⟨x5, l5⟩, hs, rfl, hM5, hO5, hR5, b5⟩; have n5 := hM5.now (HN4.out.below hqa) b5; have hI5 := Its.own hO5; obtain ⟨a5, c5, rfl⟩ := nds_slice n5; obtain ⟨aq5, cq5, rfl, hq15, hq25, _⟩ := id hI5; have hqb := hqa.trans (b5.mono hqa.size); dsimp only at n5; (try dsimp only); refine hK.out _ _ (HMK7 _ hqb) (fun hHeld => ?_); clear hK K; (try simp only [Act.put, List.setIfInBounds_toArray, List.set_cons_zero, List.set_cons_succ]))
      (refine heldTake 5 (some 43) (v := ?_) rfl rfl (by kernel_rfl) (by kernel_rfl) (by kernel_rfl) (fun _ _ _ h => h) (by rfl) ?_ (by assumption) ?_; rotate_left; (focus (intro w hSw; (try dsimp only at hSw); go_simp; try with_reducible rfl)); (try simp only [Act.put, List.setIfInBounds_toArray, List.set_cons_zero, List.set_cons_succ]))
      (refine heldTake 6 (some 49) (v := ?_) rfl rfl (by kernel_rfl) (by kernel_rfl) (by kernel_rfl) (fun _ _ _ h => h) (by rfl) ?_ (by assumption) ?_; rotate_left; (focus (intro w hSw; (try dsimp only at hSw); go_simp; try with_reducible rfl)); (try simp only [Act.put, List.setIfInBounds_toArray, List.set_cons_zero, List.set_cons_succ]))
      (refine heldTake 7 (some 50) (v := ?_) rfl rfl (by kernel_rfl) (by kernel_rfl) (by kernel_rfl) (fun _ _ _ h => h) (by rfl) ?_ (by assumption) ?_; rotate_left; (focus (intro w hSw; (try dsimp only at hSw); go_simp; try with_reducible rfl)); (try simp only [Act.put, List.setIfInBounds_toArray, List.set_cons_zero, List.set_cons_succ]))
      have bG0 : Blk w5 wd.heap.size 28 (fsC 0 0 0 (.slice none 0 0)) := (Blk.new wd.drew 28 (fsC 0 0 0 (.slice none 0 0))).next b5
      obtain ⟨⟨z0, z1, z2, z3⟩, h0, h1, h2, h3⟩ := bG0.four
      obtain ⟨wc, hwc, bG, hgc⟩ := bG0.put4 (.int .i64 20) (.int .i64 99) (.int .i64 x5) (.slice a5 l5.length c5)
      have hqc := below_grown hqb hgc (Nat.le_refl _) hq0.size
      (refine wpAnyH_ready (rs := [9]) (by kernel_rfl) (by simp) ?_; refine AllReadyH.cons rfl (fun K hK => ?_) AllReadyH.nil; go_simp; skip; (try dsimp only); refine hK.out _ _ (HMK7 _ hqc) (fun hHeld => ?_); clear hK K; (try simp only [Act.put, List.setIfInBounds_toArray, List.set_cons_zero, List.set_cons_succ]))
      (refine heldTake 10 (some 12) (v := ?_) rfl rfl (by kernel_rfl) (by kernel_rfl) (by kernel_rfl) (fun _ _ _ h => h) (by rfl) ?_ (by assumption) ?_; rotate_left; (focus (intro w hSw; (try dsimp only at hSw); go_simp; try with_reducible rfl)); (try simp only [Act.put, List.setIfInBounds_toArray, List.set_cons_zero, List.set_cons_succ]))
      refine wpAnyH_done (by kernel_rfl) ?_ _
      replace n5 := hM5 wc (Kept.grown hgc (by simp)) (HN4.out.below hqc)
      replace hI5 := Its.own (hO5.kept hgc (own_not hO5 (by simp)))
      have hGl := bG.lt
      clear s0 hqa hqb hgc hwc z0 z1 z2 z3 h0 h1 h2 h3 bG0 hM5 hO5
      obtain ⟨hes, hgn, hx, hkk⟩ := parts_eq hn1 hR3 hR4 hR5
      dsimp only at hx hkk
      subst hx
      have hlen : es.length = gs.length + hs.length := by rw [hes, List.length_append]
      have bA7 := HBA.out.next (hqc6.trans (hqc.mono hqc6.size))
      have nA7 := HNA.out.below (hqc6.trans (hqc.mono hqc6.size))
      have hI3 := HIA.out.below (hqc6.trans (hqc.mono hqc6.size))
      have hI4b := hI4.below hqc
      have hB7 := hB.trans ((hqc6.trans (hqc.mono hqc6.size)).mono hB.size)
      have hel := ran_le hR3
      have hgl : es.length ≤ 25 := by have := ran_len hR3; omega
      have HES := Lib.hid hes
      have HGN := Lib.hid hgn
      have HLEN := Lib.hid hlen
      clear hes hgn hlen
      clear HBA HNA HIA hqc6 hqc hR3 hR4 hR5 HN4 HBG HMK7 hB hI4 hq0 hel hGl HR7 HTl HC7 b4 b5 hHeld
      generalize wd.heap.size = BG5 at *
      obtain ⟨⟨p0, p1, p2, p3⟩, _⟩ := bA7.four
      obtain ⟨⟨q0, q1, q2, q3⟩, _⟩ := bG.four
      go_wp2_with fail
      refine (key_same 20 99 x5 hkk _ _ _ nA7 n5).mono ?_
      rintro e w7 ⟨rfl, b7⟩
      replace hI3 := hI3.below b7
      replace hI4b := hI4b.below b7
      replace hI5 := hI5.below b7
      replace hB7 := hB7.trans (b7.mono hB7.size)
      clear b7 p0 p1 p2 p3 q0 q1 q2 q3 bA7 nA7 bG n5 hkk
      obtain ⟨_, _, e3, _, _, HX3⟩ := hI3
      obtain ⟨_, _, e4, _, _, HX4⟩ := hI4b
      obtain ⟨_, _, e5, _, _, HX5⟩ := hI5
      simp only [Value.slice.injEq] at e3 e4 e5
      obtain ⟨rfl, _, rfl⟩ := e3
      obtain ⟨rfl, _, rfl⟩ := e4
      obtain ⟨rfl, _, rfl⟩ := e5
      have H3 := Lib.hid HX3
      have H4 := Lib.hid HX4
      have H5 := Lib.hid HX5
      have hne1 : ((es.length : Int) != (gs.length : Int) + (hs.length : Int)) = false := by have := HLEN.out; simp; omega
      have hne2 : ((gs.length : Int) != (n : Int)) = false := by have := HGN.out; simp; omega
      have hwl : IntKind.i64.wrap ((gs.length : Int) + (hs.length : Int)) = (gs.length : Int) + (hs.length : Int) := by have := HLEN.out; rw [IntKind.wrap_i64]; omega
      clear HX3 HX4 HX5 hw4
      go_wp2
      clear hne1 hne2 hwl
      go_loopw [13] (fun s wr => ∃ k : Nat, k ≤ es.length ∧ s = .int .i64 k ∧ Below w7.heap.size w7 wr) (fun s _ => es.length - (intOf s).toNat)
      case atStart => exact ⟨0, Nat.zero_le _, rfl, Below.refl _ _⟩
      case round =>
        obtain ⟨k, hk, rfl, hbw⟩ := hrel
        by_cases hlt : k < es.length
        · obtain ⟨g3, rfl, hg3, hc3⟩ := H3.out (by omega)
          have d3 := (hbw.cell (p := ⟨g3, k, none⟩) hg3).trans (hc3 k hlt)
          clear hc3
          have k0' : (0 : Int) ≤ (k : Int) := by omega
          have k1' : (k : Int) < (es.length : Int) := by omega
          have hz : (es[k] != es[k]) = false := by simp
          by_cases hkn : k < n
          · obtain ⟨g4, rfl, hg4, hc4⟩ := H4.out (by have := HGN.out; omega)
            have hk4 : k < gs.length := by have := HGN.out; omega
            have d4 := (hbw.cell (p := ⟨g4, k, none⟩) hg4).trans (hc4 k hk4)
            have he : gs[k] = es[k] := by simp only [HES.out]; rw [List.getElem_append_left hk4]
            rw [he] at d4
            clear hc4 he
            have k2' : (k : Int) < (gs.length : Int) := by omega
            have hd1 : decide (k < n) = true := by simpa using hkn
            have hd2 : decide (n ≤ k) = false := by simp; omega
            have hd3 : decide ((k : Int) < (n : Int)) = true := by simp; omega
            have hd4 : decide ((n : Int) ≤ (k : Int)) = false := by simp; omega
            generalize es[k] = z at *
            go_wp2
            go_quiet (fail)
            go_wp2
            go_roundw
            case rel => exact ⟨k + 1, by omega, by go_num, below_drewN hbw _⟩
            case measure => simp [intOf]; omega
          · have hl5 := HLEN.out
            have hg5' := HGN.out
            have hk5 : k - n < hs.length := by omega
            obtain ⟨g5, rfl, hg5, hc5⟩ := H5.out (by omega)
            have d5 := (hbw.cell (p := ⟨g5, k - n, none⟩) hg5).trans (hc5 (k - n) hk5)
            have he : hs[k - n] = es[k] := by
              have h0 : (gs ++ hs)[k]? = hs[k - n]? := by rw [List.getElem?_append_right (by omega), hg5']
              rw [← HES.out, List.getElem?_eq_getElem hlt, List.getElem?_eq_getElem hk5] at h0
              exact (Option.some.inj h0).symm
            rw [he] at d5
            have k2' : (0 : Int) ≤ (k : Int) - (n : Int) := by omega
            have k3' : (k : Int) - (n : Int) < (hs.length : Int) := by omega
            have k4' := sub_nat15 k n
            have k5' : IntKind.i64.wrap ((k : Int) - (n : Int)) = (k : Int) - (n : Int) := by rw [IntKind.wrap_i64]; omega
            clear hc5 he hl5 hg5' hk5
            have hd1 : decide (k < n) = false := by simpa using hkn
            have hd2 : decide (n ≤ k) = true := by simp; omega
            have hd3 : decide ((k : Int) < (n : Int)) = false := by simp; omega
            have hd4 : decide ((n : Int) ≤ (k : Int)) = true := by simp; omega
            generalize es[k] = z at *
            go_wp2
            go_quiet (fail)
            go_wp2
            go_roundw
            case rel => exact ⟨k + 1, by omega, by go_num, below_drewN hbw _⟩
            case measure => simp [intOf]; omega
        · go_wp2
          go_ret
          exact ⟨rfl, hB7.trans (hbw.mono hB7.size)⟩
  · have s0 := alloc_below wa.drew (.cells (fsC 0 0 0 (.slice none 0 0)) 28)
    have hqa := hq0.trans (s0.mono hq0.size)
    (go_simp; skip; (try dsimp only); refine hK.out _ _ (HMK6 _ hqa) (fun hHeld => ?_); clear hK K; (try simp only [Act.put, List.setIfInBounds_toArray, List.set_cons_zero, List.set_cons_succ]))
    (refine wpAnyH_ready (rs := [4]) (by kernel_rfl) (by simp) ?_; refine AllReadyH.cons rfl (fun K hK => ?_) AllReadyH.nil; go_simp; go_at_call 10; refine (HR6.out _ _ (HN2.out.below hqa) ((HCs.out.below hqa).head hn1)).mono ?_; rintro e w4 ⟨y4, vq, ⟨x4, l4⟩, gs, rfl, hM4, hO4, hR4, b4⟩; have n4 := hM4.now (HN2.out.below hqa) b4; have hI4 := Its.own hO4; obtain ⟨a4, c4, rfl⟩ := nds_slice n4; obtain ⟨aq4, cq4, rfl, hq14, hq24, _⟩ := id hI4; have hqb := hqa.trans (b4.mono hqa.size); dsimp only at n4; (try dsimp only); refine hK.out _ _ (HMK6 _ hqb) (fun hHeld => ?_); clear hK K; (try simp only [Act.put, List.setIfInBounds_toArray, List.set_cons_zero, List.set_cons_succ]))
    (refine heldTake 5 (some 35) (v := ?_) rfl rfl (by kernel_rfl) (by kernel_rfl) (by kernel_rfl) (fun _ _ _ h => h) (by rfl) ?_ (by assumption) ?_; rotate_left; (focus (intro w hSw; (try dsimp only at hSw); go_simp; try with_reducible rfl)); (try simp only [Act.put, List.setIfInBounds_toArray, List.set_cons_zero, List.set_cons_succ]))
    (refine heldTake 6 (some 41) (v := ?_) rfl rfl (by kernel_rfl) (by kernel_rfl) (by kernel_rfl) (fun _ _ _ h => h) (by rfl) ?_ (by assumption) ?_; rotate_left; (focus (intro w hSw; (try dsimp only at hSw); go_simp; try with_reducible rfl)); (try simp only [Act.put, List.setIfInBounds_toArray, List.set_cons_zero, List.set_cons_succ]))
    (refine heldTake 7 (some 42) (v := ?_) rfl rfl (by kernel_rfl) (by kernel_rfl) (by kernel_rfl) (fun _ _ _ h => h) (by rfl) ?_ (by assumption) ?_; rotate_left; (focus (intro w hSw; (try dsimp only at hSw); go_simp; try with_reducible rfl)); (try simp only [Act.put, List.setIfInBounds_toArray, List.set_cons_zero, List.set_cons_succ]))
    have bG0 : Blk w4 wa.heap.size 28 (fsC 0 0 0 (.slice none 0 0)) := (Blk.new wa.drew 28 (fsC 0 0 0 (.slice none 0 0))).next b4
    obtain ⟨⟨z0, z1, z2, z3⟩, h0, h1, h2, h3⟩ := bG0.four
    obtain ⟨wc, hwc, bG, hgc⟩ := bG0.put4 (.int .i64 20) (.int .i64 99) (.int .i64 x4) (.slice a4 l4.length c4)
    have hqc := below_grown hqb hgc (Nat.le_refl _) hq0.size
    (refine wpAnyH_ready (rs := [9]) (by kernel_rfl) (by simp) ?_; refine AllReadyH.cons rfl (fun K hK => ?_) AllReadyH.nil; go_simp; skip; (try dsimp only); refine hK.out _ _ (HMK6 _ hqc) (fun hHeld => ?_); clear hK K; (try simp only [Act.put, List.setIfInBounds_toArray, List.set_cons_zero, List.set_cons_succ]))
    (refine heldTake 10 (some 10) (v := ?_) rfl rfl (by kernel_rfl) (by kernel_rfl) (by kernel_rfl) (fun _ _ _ h => h) (by rfl) ?_ (by assumption) ?_; rotate_left; (focus (intro w hSw; (try dsimp only at hSw); go_simp; try with_reducible rfl)); (try simp only [Act.put, List.setIfInBounds_toArray, List.set_cons_zero, List.set_cons_succ]))
    refine wpAnyH_done (by kernel_rfl) ?_ _
    replace n4 := hM4 wc (Kept.grown hgc (by simp)) (HN2.out.below hqc)
    replace hI4 := Its.own (hO4.kept hgc (own_not hO4 (by simp)))
    have hGl := bG.lt
    clear s0 hqa hqb hgc hwc z0 z1 z2 z3 h0 h1 h2 h3 bG0 hM4 hO4
    have hqc6 := hqc
    clear hqc hq0 HMK6 HBF HN2 HR6
    have HR7 := Lib.hid (fun v W hv hC => Run15_any 20 99 x4 l4 (cs.drop n) [47] v (.slice (if cc = n then ac else Option.map (fun x => x.add (n * 4)) ac) (cs.length - n) (cc - n)) W hv hC (n := 0 + n) (kit_take hkit hn1 hsh hl hR4) (by rw [List.length_drop]; omega) (by decide) (fun c hc => hsh c (List.mem_of_mem_drop hc)))
    go_upto_region 7 with fail
    have hq0 : Below wc.heap.size wc wc.drew := (Below.refl _ _).drew
    have HBG := Lib.hid bG
    have HN4 := Lib.hid n4
    have HC7 := Lib.hid (HCs.out.below hqc6)
    have HTl := Lib.hid (fun W (h : Cls W (.slice ac cs.length cc) cs) => Cls.tail2 h hn1)
    have HMK7 : ∀ W, Below wc.heap.size wc W → (W.cell? ⟨wa.heap.size, 0, none⟩ = some (.int .i64 20) ∧ W.cell? ⟨wa.heap.size, 1, none⟩ = some (.int .i64 99) ∧ W.cell? ⟨wa.heap.size, 2, none⟩ = some (.int .i64 x4) ∧ W.cell? ⟨wa.heap.size, 3, none⟩ = some (.slice a4 l4.length c4)) := by
      intro W h
      exact (HBG.out.next h).four.1
    clear bG n4 HCs
    generalize wc = wd at *
    (refine wp_region_held_drew (S := (fun W => (W.cell? ⟨wa.heap.size, 0, none⟩ = some (.int .i64 20) ∧ W.cell? ⟨wa.heap.size, 1, none⟩ = some (.int .i64 99) ∧ W.cell? ⟨wa.heap.size, 2, none⟩ = some (.int .i64 x4) ∧ W.cell? ⟨wa.heap.size, 3, none⟩ = some (.slice a4 l4.length c4)))) (by kernel_rfl) (HMK7 _ hq0) (fun hHeld => ?_))
    (refine heldTake 0 (some 44) (v := ?_) rfl rfl (by kernel_rfl) (by kernel_rfl) (by kernel_rfl) (fun _ _ _ h => h) (by rfl) ?_ (by assumption) ?_; rotate_left; (focus (intro w hSw; (try dsimp only at hSw); go_simp; try with_reducible rfl)); (try simp only [Act.put, List.setIfInBounds_toArray, List.set_cons_zero, List.set_cons_succ]))
    (refine heldTake 1 (some 45) (v := ?_) rfl rfl (by kernel_rfl) (by kernel_rfl) (by kernel_rfl) (fun _ _ _ h => h) (by rfl) ?_ (by assumption) ?_; rotate_left; (focus (intro w hSw; (try dsimp only at hSw); go_simp; try with_reducible rfl)); (try simp only [Act.put, List.setIfInBounds_toArray, List.set_cons_zero, List.set_cons_succ]))
    (refine heldTake 2 (some 46) (v := ?_) rfl rfl (by kernel_rfl) (by kernel_rfl) (by kernel_rfl) (fun _ _ _ h => h) (by rfl) ?_ (by assumption) ?_; rotate_left; (focus (intro w hSw; (try dsimp only at hSw); go_simp; try with_reducible rfl)); (try simp only [Act.put, List.setIfInBounds_toArray, List.set_cons_zero, List.set_cons_succ]))
    (refine heldTake 3 (some 47) (v := ?_) rfl rfl (by kernel_rfl) (by kernel_rfl) (by kernel_rfl) (fun _ _ _ h => h) (by rfl) ?_ (by assumption) ?_; rotate_left; (focus (intro w hSw; (try dsimp only at hSw); go_simp; try with_reducible rfl)); (try simp only [Act.put, List.setIfInBounds_toArray, List.set_cons_zero, List.set_cons_succ]))
    generalize hif : (if cc = n then ac else Option.map (fun x => x.add (n * 4)) ac) = acn at *
    clear hif
    (refine wpAnyH_ready (rs := [4, 8]) (by kernel_rfl) (by simp) ?_; refine AllReadyH.cons rfl (fun K hK => ?_) (AllReadyH.cons rfl (fun K hK => ?_) AllReadyH.nil))
    · (go_simp; go_at_call 10; refine (HR7.out _ _ (HN4.out.below hq0) (HTl.out _ (HC7.out.below hq0))).mono ?_; rintro e w5 ⟨y5, vq, ⟨x5, l5⟩, hs, rfl, hM5, hO5, hR5, b5⟩; have n5 := hM5.now (HN4.out.below hq0) b5; have hI5 := Its.own hO5; obtain ⟨a5, c5, rfl⟩ := nds_slice n5; obtain ⟨aq5, cq5, rfl, hq15, hq25, _⟩ := id hI5; have hqa := hq0.trans (b5.mono hq0.size); dsimp only at n5; (try dsimp only); refine hK.out _ _ (HMK7 _ hqa) (fun hHeld => ?_); clear hK K; (try simp only [Act.put, List.setIfInBounds_toArray, List.set_cons_zero, List.set_cons_succ]))
      (refine heldTake 5 (some 43) (v := ?_) rfl rfl (by kernel_rfl) (by kernel_rfl) (by kernel_rfl) (fun _ _ _ h => h) (by rfl) ?_ (by assumption) ?_; rotate_left; (focus (intro w hSw; (try dsimp only at hSw); go_simp; try with_reducible rfl)); (try simp only [Act.put, List.setIfInBounds_toArray, List.set_cons_zero, List.set_cons_succ]))
      (refine heldTake 6 (some 49) (v := ?_) rfl rfl (by kernel_rfl) (by kernel_rfl) (by kernel_rfl) (fun _ _ _ h => h) (by rfl) ?_ (by assumption) ?_; rotate_left; (focus (intro w hSw; (try dsimp only at hSw); go_simp; try with_reducible rfl)); (try simp only [Act.put, List.setIfInBounds_toArray, List.set_cons_zero, List.set_cons_succ]))
      (refine heldTake 7 (some 50) (v := ?_) rfl rfl (by kernel_rfl) (by kernel_rfl) (by kernel_rfl) (fun _ _ _ h => h) (by rfl) ?_ (by assumption) ?_; rotate_left; (focus (intro w hSw; (try dsimp only at hSw); go_simp; try with_reducible rfl)); (try simp only [Act.put, List.setIfInBounds_toArray, List.set_cons_zero, List.set_cons_succ]))
      have sz := alloc_below w5 (.cells (fsC 0 0 0 (.slice none 0 0)) 28)
      have hqb := hqa.trans (sz.mono hqa.size)
      (refine wpAnyH_ready (rs := [8]) (by kernel_rfl) (by simp) ?_; refine AllReadyH.cons rfl (fun K hK => ?_) AllReadyH.nil; go_simp; skip; (try dsimp only); refine hK.out _ _ (HMK7 _ hqb) (fun hHeld => ?_); clear hK K; (try simp only [Act.put, List.setIfInBounds_toArray, List.set_cons_zero, List.set_cons_succ]))
      have bG := Blk.new w5 28 (fsC 20 99 x5 (.slice a5 l5.length c5))
      have sg := alloc_below w5 (.cells (fsC 20 99 x5 (.slice a5 l5.length c5)) 28)
      have hqc := hqa.trans (sg.mono hqa.size)
      (refine wpAnyH_ready (rs := [9]) (by kernel_rfl) (by simp) ?_; refine AllReadyH.cons rfl (fun K hK => ?_) AllReadyH.nil; go_simp; skip; (try dsimp only); refine hK.out _ _ (HMK7 _ hqc) (fun hHeld => ?_); clear hK K; (try simp only [Act.put, List.setIfInBounds_toArray, List.set_cons_zero, List.set_cons_succ]))
      (refine heldTake 10 (some 12) (v := ?_) rfl rfl (by kernel_rfl) (by kernel_rfl) (by kernel_rfl) (fun _ _ _ h => h) (by rfl) ?_ (by assumption) ?_; rotate_left; (focus (intro w hSw; (try dsimp only at hSw); go_simp; try with_reducible rfl)); (try simp only [Act.put, List.setIfInBounds_toArray, List.set_cons_zero, List.set_cons_succ]))
      refine wpAnyH_done (by kernel_rfl) ?_ _
      replace n5 := n5.below sg
      replace hI5 := hI5.below sg
      have hGl := bG.lt
      clear sz hqb sg hqa hM5 hO5
      generalize hWW : w5.alloc (.cells (fsC 20 99 x5 (.slice a5 l5.length c5)) 28) = wc at *
      clear hWW
      generalize w5.heap.size = BG5 at *
      obtain ⟨hes, hgn, hx, hkk⟩ := parts_eq hn1 hR3 hR4 hR5
      dsimp only at hx hkk
      subst hx
      have hlen : es.length = gs.length + hs.length := by rw [hes, List.length_append]
      have bA7 := HBA.out.next (hqc6.trans (hqc.mono hqc6.size))
      have nA7 := HNA.out.below (hqc6.trans (hqc.mono hqc6.size))
      have hI3 := HIA.out.below (hqc6.trans (hqc.mono hqc6.size))
      have hI4b := hI4.below hqc
      have hB7 := hB.trans ((hqc6.trans (hqc.mono hqc6.size)).mono hB.size)
      have hel := ran_le hR3
      have hgl : es.length ≤ 25 := by have := ran_len hR3; omega
      have HES := Lib.hid hes
      have HGN := Lib.hid hgn
      have HLEN := Lib.hid hlen
      clear hes hgn hlen
      clear HBA HNA HIA hqc6 hqc hR3 hR4 hR5 HN4 HBG HMK7 hB hI4 hq0 hel hGl HR7 HTl HC7 b4 b5 hHeld
      obtain ⟨⟨p0, p1, p2, p3⟩, _⟩ := bA7.four
      obtain ⟨⟨q0, q1, q2, q3⟩, _⟩ := bG.four
      go_wp2_with fail
      refine (key_same 20 99 x5 hkk _ _ _ nA7 n5).mono ?_
      rintro e w7 ⟨rfl, b7⟩
      replace hI3 := hI3.below b7
      replace hI4b := hI4b.below b7
      replace hI5 := hI5.below b7
      replace hB7 := hB7.trans (b7.mono hB7.size)
      clear b7 p0 p1 p2 p3 q0 q1 q2 q3 bA7 nA7 bG n5 hkk
      obtain ⟨_, _, e3, _, _, HX3⟩ := hI3
      obtain ⟨_, _, e4, _, _, HX4⟩ := hI4b
      obtain ⟨_, _, e5, _, _, HX5⟩ := hI5
      simp only [Value.slice.injEq] at e3 e4 e5
      obtain ⟨rfl, _, rfl⟩ := e3
      obtain ⟨rfl, _, rfl⟩ := e4
      obtain ⟨rfl, _, rfl⟩ := e5
      have H3 := Lib.hid HX3
      have H4 := Lib.hid HX4
      have H5 := Lib.hid HX5
      have hne1 : ((es.length : Int) != (gs.length : Int) + (hs.length : Int)) = false := by have := HLEN.out; simp; omega
      have hne2 : ((gs.length : Int) != (n : Int)) = false := by have := HGN.out; simp; omega
      have hwl : IntKind.i64.wrap ((gs.length : Int) + (hs.length : Int)) = (gs.length : Int) + (hs.length : Int) := by have := HLEN.out; rw [IntKind.wrap_i64]; omega
      clear HX3 HX4 HX5 hw4
      go_wp2
      clear hne1 hne2 hwl
      go_loopw [13] (fun s wr => ∃ k : Nat, k ≤ es.length ∧ s = .int .i64 k ∧ Below w7.heap.size w7 wr) (fun s _ => es.length - (intOf s).toNat)
      case atStart => exact ⟨0, Nat.zero_le _, rfl, Below.refl _ _⟩
      case round =>
        obtain ⟨k, hk, rfl, hbw⟩ := hrel
        by_cases hlt : k < es.length
        · obtain ⟨g3, rfl, hg3, hc3⟩ := H3.out (by omega)
          have d3 := (hbw.cell (p := ⟨g3, k, none⟩) hg3).trans (hc3 k hlt)
          clear hc3
          have k0' : (0 : Int) ≤ (k : Int) := by omega
          have k1' : (k : Int) < (es.length : Int) := by omega
          have hz : (es[k] != es[k]) = false := by simp
          by_cases hkn : k < n
          · obtain ⟨g4, rfl, hg4, hc4⟩ := H4.out (by have := HGN.out; omega)
            have hk4 : k < gs.length := by have := HGN.out; omega
            have d4 := (hbw.cell (p := ⟨g4, k, none⟩) hg4).trans (hc4 k hk4)
            have he : gs[k] = es[k] := by simp only [HES.out]; rw [List.getElem_append_left hk4]
            rw [he] at d4
            clear hc4 he
            have k2' : (k : Int) < (gs.length : Int) := by omega
            have hd1 : decide (k < n) = true := by simpa using hkn
            have hd2 : decide (n ≤ k) = false := by simp; omega
            have hd3 : decide ((k : Int) < (n : Int)) = true := by simp; omega
            have hd4 : decide ((n : Int) ≤ (k : Int)) = false := by simp; omega
            generalize es[k] = z at *
            go_wp2
            go_quiet (fail)
            go_wp2
            go_roundw
            case rel => exact ⟨k + 1, by omega, by go_num, below_drewN hbw _⟩
            case measure => simp [intOf]; omega
          · have hl5 := HLEN.out
            have hg5' := HGN.out
            have hk5 : k - n < hs.length := by omega
            obtain ⟨g5, rfl, hg5, hc5⟩ := H5.out (by omega)
            have d5 := (hbw.cell (p := ⟨g5, k - n, none⟩) hg5).trans (hc5 (k - n) hk5)
            have he : hs[k - n] = es[k] := by
              have h0 : (gs ++ hs)[k]? = hs[k - n]? := by rw [List.getElem?_append_right (by omega), hg5']
              rw [← HES.out, List.getElem?_eq_getElem hlt, List.getElem?_eq_getElem hk5] at h0
              exact (Option.some.inj h0).symm
            rw [he] at d5
            have k2' : (0 : Int) ≤ (k : Int) - (n : Int) := by omega
            have k3' : (k : Int) - (n : Int) < (hs.length : Int) := by omega
            have k4' := sub_nat15 k n
            have k5' : IntKind.i64.wrap ((k : Int) - (n : Int)) = (k : Int) - (n : Int) := by rw [IntKind.wrap_i64]; omega
            clear hc5 he hl5 hg5' hk5
            have hd1 : decide (k < n) = false := by simpa using hkn
            have hd2 : decide (n ≤ k) = true := by simp; omega
            have hd3 : decide ((k : Int) < (n : Int)) = false := by simp; omega
            have hd4 : decide ((n : Int) ≤ (k : Int)) = true := by simp; omega
            generalize es[k] = z at *
            go_wp2
            go_quiet (fail)
            go_wp2
            go_roundw
            case rel => exact ⟨k + 1, by omega, by go_num, below_drewN hbw _⟩
            case measure => simp [intOf]; omega
        · go_wp2
          go_ret
          exact ⟨rfl, hB7.trans (hbw.mono hB7.size)⟩
    · have s0 := alloc_below wd.drew (.cells (fsC 0 0 0 (.slice none 0 0)) 28)
      have hqa := hq0.trans (s0.mono hq0.size)
      (go_simp; skip; (try dsimp only); refine hK.out _ _ (HMK7 _ hqa) (fun hHeld => ?_); clear hK K; (try simp only [Act.put, List.setIfInBounds_toArray, List.set_cons_zero, List.set_cons_succ]))
      (refine wpAnyH_ready (rs := [4]) (by kernel_rfl) (by simp) ?_; refine AllReadyH.cons rfl (fun K hK => ?_) AllReadyH.nil; go_simp; go_at_call 10; refine (HR7.out _ _ (HN4.out.below hqa) (HTl.out _ (HC7.out.below hqa))).mono ?_; rintro e w5 ⟨y5, vq, ⟨x5, l5⟩, hs, rfl, hM5, hO5, hR5, b5⟩; have n5 := hM5.now (HN4.out.below hqa) b5; have hI5 := Its.own hO5; obtain ⟨a5, c5, rfl⟩ := nds_slice n5; obtain ⟨aq5, cq5, rfl, hq15, hq25, _⟩ := id hI5; have hqb := hqa.trans (b5.mono hqa.size); dsimp only at n5; (try dsimp only); refine hK.out _ _ (HMK7 _ hqb) (fun hHeld => ?_); clear hK K; (try simp only [Act.put, List.setIfInBounds_toArray, List.set_cons_zero, List.set_cons_succ]))
      (refine heldTake 5 (some 43) (v := ?_) rfl rfl (by kernel_rfl) (by kernel_rfl) (by kernel_rfl) (fun _ _ _ h => h) (by rfl) ?_ (by assumption) ?_; rotate_left; (focus (intro w hSw; (try dsimp only at hSw); go_simp; try with_reducible rfl)); (try simp only [Act.put, List.setIfInBounds_toArray, List.set_cons_zero, List.set_cons_succ]))
      (refine heldTake 6 (some 49) (v := ?_) rfl rfl (by kernel_rfl) (by kernel_rfl) (by kernel_rfl) (fun _ _ _ h => h) (by rfl) ?_ (by assumption) ?_; rotate_left; (focus (intro w hSw; (try dsimp only at hSw); go_simp; try with_reducible rfl)); (try simp only [Act.put, List.setIfInBounds_toArray, List.set_cons_zero, List.set_cons_succ]))
      (refine heldTake 7 (some 50) (v := ?_) rfl rfl (by kernel_rfl) (by kernel_rfl) (by kernel_rfl) (fun _ _ _ h => h) (by rfl) ?_ (by assumption) ?_; rotate_left; (focus (intro w hSw; (try dsimp only at hSw); go_simp; try with_reducible rfl)); (try simp only [Act.put, List.setIfInBounds_toArray, List.set_cons_zero, List.set_cons_succ]))
      have bG0 : Blk w5 wd.heap.size 28 (fsC 0 0 0 (.slice none 0 0)) := (Blk.new wd.drew 28 (fsC 0 0 0 (.slice none 0 0))).next b5
      obtain ⟨⟨z0, z1, z2, z3⟩, h0, h1, h2, h3⟩ := bG0.four
      obtain ⟨wc, hwc, bG, hgc⟩ := bG0.put4 (.int .i64 20) (.int .i64 99) (.int .i64 x5) (.slice a5 l5.length c5)
      have hqc := below_grown hqb hgc (Nat.le_refl _) hq0.size
      (refine wpAnyH_ready (rs := [9]) (by kernel_rfl) (by simp) ?_; refine AllReadyH.cons rfl (fun K hK => ?_) AllReadyH.nil; go_simp; skip; (try dsimp only); refine hK.out _ _ (HMK7 _ hqc) (fun hHeld => ?_); clear hK K; (try simp only [Act.put, List.setIfInBounds_toArray, List.set_cons_zero, List.set_cons_succ]))
      (refine heldTake 10 (some 12) (v := ?_) rfl rfl (by kernel_rfl) (by kernel_rfl) (by kernel_rfl) (fun _ _ _ h => h) (by rfl) ?_ (by assumption) ?_; rotate_left; (focus (intro w hSw; (try dsimp only at hSw); go_simp; try with_reducible rfl)); (try simp only [Act.put, List.setIfInBounds_toArray, List.set_cons_zero, List.set_cons_succ]))
      refine wpAnyH_done (by kernel_rfl) ?_ _
      replace n5 := hM5 wc (Kept.grown hgc (by simp)) (HN4.out.below hqc)
      replace hI5 := Its.own (hO5.kept hgc (own_not hO5 (by simp)))
      have hGl := bG.lt
      clear s0 hqa hqb hgc hwc z0 z1 z2 z3 h0 h1 h2 h3 bG0 hM5 hO5
      obtain ⟨hes, hgn, hx, hkk⟩ := parts_eq hn1 hR3 hR4 hR5
      dsimp only at hx hkk
      subst hx
      have hlen : es.length = gs.length + hs.length := by rw [hes, List.length_append]
      have bA7 := HBA.out.next (hqc6.trans (hqc.mono hqc6.size))
      have nA7 := HNA.out.below (hqc6.trans (hqc.mono hqc6.size))
      have hI3 := HIA.out.below (hqc6.trans (hqc.mono hqc6.size))
      have hI4b := hI4.below hqc
      have hB7 := hB.trans ((hqc6.trans (hqc.mono hqc6.size)).mono hB.size)
      have hel := ran_le hR3
      have hgl : es.length ≤ 25 := by have := ran_len hR3; omega
      have HES := Lib.hid hes
      have HGN := Lib.hid hgn
      have HLEN := Lib.hid hlen
      clear hes hgn hlen
      clear HBA HNA HIA hqc6 hqc hR3 hR4 hR5 HN4 HBG HMK7 hB hI4 hq0 hel hGl HR7 HTl HC7 b4 b5 hHeld
      generalize wd.heap.size = BG5 at *
      obtain ⟨⟨p0, p1, p2, p3⟩, _⟩ := bA7.four
      obtain ⟨⟨q0, q1, q2, q3⟩, _⟩ := bG.four
      go_wp2_with fail
      refine (key_same 20 99 x5 hkk _ _ _ nA7 n5).mono ?_
      rintro e w7 ⟨rfl, b7⟩
      replace hI3 := hI3.below b7
      replace hI4b := hI4b.below b7
      replace hI5 := hI5.below b7
      replace hB7 := hB7.trans (b7.mono hB7.size)
      clear b7 p0 p1 p2 p3 q0 q1 q2 q3 bA7 nA7 bG n5 hkk
      obtain ⟨_, _, e3, _, _, HX3⟩ := hI3
      obtain ⟨_, _, e4, _, _, HX4⟩ := hI4b
      obtain ⟨_, _, e5, _, _, HX5⟩ := hI5
      simp only [Value.slice.injEq] at e3 e4 e5
      obtain ⟨rfl, _, rfl⟩ := e3
      obtain ⟨rfl, _, rfl⟩ := e4
      obtain ⟨rfl, _, rfl⟩ := e5
      have H3 := Lib.hid HX3
      have H4 := Lib.hid HX4
      have H5 := Lib.hid HX5
      have hne1 : ((es.length : Int) != (gs.length : Int) + (hs.length : Int)) = false := by have := HLEN.out; simp; omega
      have hne2 : ((gs.length : Int) != (n : Int)) = false := by have := HGN.out; simp; omega
      have hwl : IntKind.i64.wrap ((gs.length : Int) + (hs.length : Int)) = (gs.length : Int) + (hs.length : Int) := by have := HLEN.out; rw [IntKind.wrap_i64]; omega
      clear HX3 HX4 HX5 hw4
      go_wp2
      clear hne1 hne2 hwl
      go_loopw [13] (fun s wr => ∃ k : Nat, k ≤ es.length ∧ s = .int .i64 k ∧ Below w7.heap.size w7 wr) (fun s _ => es.length - (intOf s).toNat)
      case atStart => exact ⟨0, Nat.zero_le _, rfl, Below.refl _ _⟩
      case round =>
        obtain ⟨k, hk, rfl, hbw⟩ := hrel
        by_cases hlt : k < es.length
        · obtain ⟨g3, rfl, hg3, hc3⟩ := H3.out (by omega)
          have d3 := (hbw.cell (p := ⟨g3, k, none⟩) hg3).trans (hc3 k hlt)
          clear hc3
          have k0' : (0 : Int) ≤ (k : Int) := by omega
          have k1' : (k : Int) < (es.length : Int) := by omega
          have hz : (es[k] != es[k]) = false := by simp
          by_cases hkn : k < n
          · obtain ⟨g4, rfl, hg4, hc4⟩ := H4.out (by have := HGN.out; omega)
            have hk4 : k < gs.length := by have := HGN.out; omega
            have d4 := (hbw.cell (p := ⟨g4, k, none⟩) hg4).trans (hc4 k hk4)
            have he : gs[k] = es[k] := by simp only [HES.out]; rw [List.getElem_append_left hk4]
            rw [he] at d4
            clear hc4 he
            have k2' : (k : Int) < (gs.length : Int) := by omega
            have hd1 : decide (k < n) = true := by simpa using hkn
            have hd2 : decide (n ≤ k) = false := by simp; omega
            have hd3 : decide ((k : Int) < (n : Int)) = true := by simp; omega
            have hd4 : decide ((n : Int) ≤ (k : Int)) = false := by simp; omega
            generalize es[k] = z at *
            go_wp2
            go_quiet (fail)
            go_wp2
            go_roundw
            case rel => exact ⟨k + 1, by omega, by go_num, below_drewN hbw _⟩
            case measure => simp [intOf]; omega
          · have hl5 := HLEN.out
            have hg5' := HGN.out
            have hk5 : k - n < hs.length := by omega
            obtain ⟨g5, rfl, hg5, hc5⟩ := H5.out (by omega)
            have d5 := (hbw.cell (p := ⟨g5, k - n, none⟩) hg5).trans (hc5 (k - n) hk5)
            have he : hs[k - n] = es[k] := by
              have h0 : (gs ++ hs)[k]? = hs[k - n]? := by rw [List.getElem?_append_right (by omega), hg5']
              rw [← HES.out, List.getElem?_eq_getElem hlt, List.getElem?_eq_getElem hk5] at h0
              exact (Option.some.inj h0).symm
            rw [he] at d5
            have k2' : (0 : Int) ≤ (k : Int) - (n : Int) := by omega
            have k3' : (k : Int) - (n : Int) < (hs.length : Int) := by omega
            have k4' := sub_nat15 k n
            have k5' : IntKind.i64.wrap ((k : Int) - (n : Int)) = (k : Int) - (n : Int) := by rw [IntKind.wrap_i64]; omega
            clear hc5 he hl5 hg5' hk5
            have hd1 : decide (k < n) = false := by simpa using hkn
            have hd2 : decide (n ≤ k) = true := by simp; omega
            have hd3 : decide ((k : Int) < (n : Int)) = false := by simp; omega
            have hd4 : decide ((n : Int) ≤ (k : Int)) = true := by simp; omega
            generalize es[k] = z at *
            go_wp2
            go_quiet (fail)
            go_wp2
            go_roundw
            case rel => exact ⟨k + 1, by omega, by go_num, below_drewN hbw _⟩
            case measure => simp [intOf]; omega
        · go_wp2
          go_ret
          exact ⟨rfl, hB7.trans (hbw.mono hB7.size)⟩
namespace LBuildParts
set_option maxRecDepth 100000 in
theorem lifted (os : Os) (started : os.Started) (H : Type) (enc : TypeId × Value → H) :
    ReturnsInHanded {} Tryz.checked os 6 .any (Rows.buildPartsSpec.pre6 enc Tryz.prog Tryz.f6 Rows.buildPartsRow.domain false) (Rows.buildPartsSpec.post enc Tryz.prog Tryz.f6 false true false false) := by
  refine returnsInHanded_of_change (C := Tryz.checked) (by kernel_rfl) started (by kernel_rfl) Tryz.func6
    (ChangeSpec.witness6 (enc := enc) (C := Tryz.checked) false ⟨#[], #[.slice none 0 0, .int .u8 0], []⟩ 8 (by kernel_rfl) (by kernel_rfl) (by kernel_rfl) (by kernel_rfl)) ?_
  intro W base args ds gs before hval0 hW hcnd _
  have hval : ∀ (j : Nat) t v, Tryz.f6.params[j]? = some t → args[j]? = some v → Value.okWide Tryz.prog W .any base t v := hval0
  have hW' := hW
  obtain ⟨p, q, hA0, hV, rfl, hfz, hnd⟩ := hW
  have hA : DataW.TrodAll enc Tryz.prog W 0 (fun _ => true) true Tryz.f6.params.toList args.toList ds p := hA0
  rw [Tryz.params6] at hA hval
  obtain ⟨v0, vs0, d0, ds0, p0, q0, hargs, rfl, rfl, k0, r0⟩ := trodAll_cons hA
  obtain ⟨v1, vs1, d1, ds1, p1, q1, rfl, rfl, rfl, k1, r1⟩ := trodAll_cons r0
  obtain ⟨rfl, rfl, rfl⟩ := trodAll_nil r1
  obtain rfl : args = #[v0, v1] := by cases args; simp_all
  obtain ⟨rfl, rfl⟩ := trodVars_none hV
  have ok0 := hval 0 23 v0 rfl rfl
  have ok1 := hval 1 5 v1 rfl rfl
  have lt0 : ∀ x ∈ p0, x.block < W.heap.size := by obtain ⟨m, hm⟩ := k0; exact DataW.trod_lt m _ _ _ hm
  have lt1 : ∀ x ∈ p1, x.block < W.heap.size := by obtain ⟨m, hm⟩ := k1; exact DataW.trod_lt m _ _ _ hm
  have C : Calls Tryz.prog 6 #[v0, v1] W fun e w' => e = .returned (.bool true) ∧ Below W.heap.size W w' := by
    clear hA0 hval0 hval hW' hcnd hV hfz hnd
    obtain ⟨cs, hc⟩ := cls_of_trod k0 ⟨_, ok0⟩
    obtain ⟨b, rfl, rfl, rfl, hb⟩ := open_int Tryz.underlying5 ok1 k1
    exact lawParts15 b (bounds_u8 hb) cs _ W hc
  refine C.mono fun e W' ⟨he, bel⟩ => ?_
  subst he
  exact ⟨_, rfl, _, _, _, [], _, [], hW', trodAll_mk1 (shut_bool Tryz.underlying4 _), (trodAll_cons_mk (Below.trod laidOut (by kernel_rfl) (of_decide_eq_true (by kernel_rfl)) k0 bel lt0) (trodAll_cons_mk (Below.trod laidOut (by kernel_rfl) (of_decide_eq_true (by kernel_rfl)) k1 bel lt1) trodAll_mk0)), rfl, bel.frame _, fun h => by cases h⟩
theorem proved : Rows.BuildPartsSaid :=
  OpenClaim.holds_of_wide 6 Tryz.f6 rfl rfl rfl rfl rfl rfl rfl ⟨rfl, rfl, rfl, rfl, rfl⟩ rfl rfl rfl rfl rfl (by kernel_rfl) Tryz.func6 (by kernel_rfl)
    (of_decide_eq_true (by kernel_rfl)) (by unfold Func.isWrapper; first | (rw [if_pos (by decide +kernel)]; kernel_rfl) | (rw [if_neg (by decide +kernel)]; exact ⟨rfl, rfl⟩))
    (fun os started H enc _ => lifted os started H enc)
#print axioms proved
end LBuildParts
end Go.Proofs.YtkdmfeikikmiiaaGreat
