import Derived.Test.YtolbhjjcabiabaaGreatDoorQMWalkP19
import Derived.Test.YtolbhjjcabiabaaGreatDoorQWalkQ19
import Derived.Test.YtolbhjjcabiabaaGreatDoorQMWalkB20
set_option linter.unusedVariables false
set_option linter.unusedSimpArgs false
/- Walks: the program's Put. -/
set_option linter.unusedVariables false
set_option linter.unusedSimpArgs false
namespace Go.Proofs.YtolbhjjcabiabaaGreatDoor
open Go.RowKit

theorem line_size20 {o : OpV} (hl : o.a.length ≤ 10000 ∧ o.b.length ≤ 10000 ∧ o.data.length ≤ 10000) (hs : o.slot ≤ 1073741824) : (lineO o).length ≤ 200000 := by
  obtain ⟨k, n, a, b, d⟩ := o
  dsimp only at hl hs
  have qa := quoteB_len a
  have qb := quoteB_len b
  have qd := quoteB_len d
  have hd : (decB n.toNat).length ≤ 13 := decF_len 13 20 _ (by omega) (by decide)
  by_cases hk : 1 ≤ k ∧ k ≤ 10
  · rcases word_cases hk.1 hk.2 with rfl | rfl | rfl | rfl | rfl | rfl | rfl | rfl | rfl | rfl
    all_goals simp [lineO, lineW, slotK, pairK, joinQ, wordK]
    all_goals omega
  · unfold lineO; rw [if_neg hk]; simp
theorem lines_small20 {l : List OpV} (h : ∀ o ∈ l, (lineO o).length ≤ 200000) : (linesO l).length ≤ l.length * 200001 := by
  induction l with
  | nil => simp [linesO]
  | cons o t ih =>
    have h1 := h o List.mem_cons_self
    have h2 := ih fun x hx => h x (List.mem_cons_of_mem _ hx)
    unfold linesO at h2 ⊢
    rw [List.flatMap_cons, List.length_append, List.length_append, List.length_cons]
    simp only [List.length_cons, List.length_nil]
    have := Nat.succ_mul t.length 200001
    omega
theorem strs_at20 (w : World) (x y : List UInt8) : Strs (w.alloc (.cells #[.string ⟨x.toArray⟩, .string ⟨y.toArray⟩] 9)) (.slice (some ⟨w.heap.size, 0, none⟩) [x, y].length 2) [x, y] := by
  have bS := Blk.new w 9 #[.string ⟨x.toArray⟩, .string ⟨y.toArray⟩]
  refine ⟨_, 2, rfl, by simp [maxLen], fun _ => ⟨w.heap.size, 0, rfl, by simp, fun i hi => ?_⟩⟩
  match i, hi with
  | 0, _ => exact (bS.cell 0).trans rfl
  | 1, _ => exact (bS.cell 1).trans rfl
attribute [local go_sem] ByteArray.mk_append_mk
set_option maxHeartbeats 8000000 in
set_option maxRecDepth 100000 in
theorem Put20_any (l : List OpV) (v : Value) (w : World) (hL : Laid20 w) (hv : Ops w v l) (hl : l.length ≤ 1000) (hsh : ∀ o ∈ l, o.a.length ≤ 10000 ∧ o.b.length ≤ 10000 ∧ o.data.length ≤ 10000) :
    Calls Tryz.prog 15 #[v] w fun e w' => e = .returned (.tuple #[.string ⟨(putO l).1.toArray⟩, .int .i64 (putO l).2]) ∧ Below w.heap.size w w' := by
  have hsh2 : ∀ o ∈ l, o.a.length ≤ 100000 ∧ o.b.length ≤ 100000 ∧ o.data.length ≤ 100000 := fun o ho => by
    obtain ⟨h1, h2, h3⟩ := hsh o ho
    omega
  have hP := Plan19_any l v w hL.1 hv hl hsh2
  have hU := fun W hW (h : Ops W v l) => Undo19_any l v W hW h hl hsh2
  obtain ⟨a, ca, rfl, hcc, hcm, _, hcn, HX0⟩ := id hv
  have HX := Lib.hid HX0
  have HV := Lib.hid hv
  have HSH := Lib.hid hsh
  have HLL := Lib.hid hL
  clear HX0 hsh hsh2 hv hL
  unfold maxLen at hcm
  have hput : ∀ b : Bool, (planO l || undoO l) = b → putO l = if b = true then (textO l, 0) else ([], 12) := fun b h => by unfold putO; rw [h]
  cases hp : planO l
  · cases hu : undoO l
    · have HN := Lib.hid (hput false (by rw [hp, hu]; rfl))
      rw [hp] at hP
      rw [hu] at hU
      clear hput
      go_enter Tryz.func15, Tryz.ntmps15
      go_wp2_with fail
      refine hP.mono ?_
      rintro e w1 ⟨rfl, b1⟩
      have hUR := hU w1 (HLL.out.next b1).1 (HV.out.below b1)
      go_wp2_with fail
      refine hUR.mono ?_
      rintro e w2 ⟨rfl, b2⟩
      go_wp2
      go_ret2
      exact ⟨by rw [HN.out]; rfl, b1.trans (b2.mono b1.size)⟩
    · have HN := Lib.hid (hput true (by rw [hp, hu]; rfl))
      have HMAY := Lib.hid (either_may (l := l) (by unfold eitherO; rw [hp, hu]; rfl))
      rw [hp] at hP
      rw [hu] at hU
      clear hput
      go_enter Tryz.func15, Tryz.ntmps15
      go_wp2_with fail
      refine hP.mono ?_
      rintro e w1 ⟨rfl, b1⟩
      have hUR := hU w1 (HLL.out.next b1).1 (HV.out.below b1)
      go_wp2_with fail
      refine hUR.mono ?_
      rintro e w2 ⟨rfl, b2⟩
      have hB2 := b1.trans (b2.mono b1.size)
      clear b1 b2 hU hUR hP hp hu
      (have hbb := bld_new w2; have hBb : Below w.heap.size w (w2.alloc (.cells #[.pointer none, .slice none 0 0] 62)) := hB2.alloc hB2.size _; have hlb : w2.heap.size < (w2.alloc (.cells #[.pointer none, .slice none 0 0] 62)).heap.size := (by simp); have hsw := hB2.size; have hdl : (decB l.length).length ≤ 13 := decF_len 13 20 _ (by omega) (by decide); go_wp2_with fail; generalize hwb : w2.alloc (.cells #[.pointer none, .slice none 0 0] 62) = wb at *; refine (Itoa20_any l.length _ (HLL.out.next hBb).2.2 (by omega)).mono ?_; rintro e w3 ⟨rfl, b3⟩; have hB3 := hBb.trans (b3.mono hBb.size); have hb3 := hbb.next b3; have hst := strs_at20 w3 [112, 108, 97, 110] (decB l.length); have b4 := Joins.below_alloc1 w3 (.cells #[.string ⟨#[112, 108, 97, 110]⟩, .string ⟨(decB l.length).toArray⟩] 9); have HHD : Hid (joinQ [[112, 108, 97, 110], decB l.length] = headO l.length) := Lib.hid (by simp [joinQ, headO, planW]); have hhl : (headO l.length).length ≤ 18 := (by unfold headO; rw [List.length_append]; have : planW.length = 5 := rfl; omega); have hJ := JoinQ_any [[112, 108, 97, 110], decB l.length] _ _ hst (by simp) (by rw [HHD.out]; omega); rw [HHD.out] at hJ; clear hbb hwb; go_wp2_with fail; refine hJ.mono ?_; rintro e w5 ⟨rfl, b5⟩; have hB4 := hB3.trans (b4.mono hB3.size); have hB5 := hB4.trans (b5.mono hB4.size); have hb5 := (hb3.next b4).next b5; clear hJ hst hb3; have hs5 := hB5.size; have hlt5 := hb5.lt; go_wp2_with fail; refine (bldText_any w2.heap.size w2.heap.size [] (headO l.length ++ [10]) _ hb5 (by simp; omega) (by omega)).mono ?_; rintro e w6 ⟨rfl, hb6, b6⟩; have hB6 := hB5.trans (b6.mono hsw); clear hb5 b3 b4 b5 b6 hlt5 hs5; have HEQ : Hid (([] : List UInt8) ++ (headO l.length ++ [10]) = headO l.length ++ 10 :: linesO (l.take 0)) := Lib.hid (by simp [linesO]); rw [HEQ.out] at hb6; go_wp2; go_loopw [24] (fun s24 wr => ∃ k : Nat, k ≤ l.length ∧ s24 = .int .i64 (k : Int) ∧ BldW w2.heap.size w2.heap.size (headO l.length ++ 10 :: linesO (l.take k)) wr ∧ Below w.heap.size w wr) (fun s24 _ => l.length - (intOf s24).toNat); (case atStart => exact ⟨0, Nat.zero_le _, rfl, hb6, hB6⟩); (case round => (obtain ⟨k, hk, rfl, hbk, hbr⟩ := hrel; clear hb6 hB6; by_cases hlt : k < l.length; { obtain ⟨b, off, rfl, hbl, hc⟩ := HX.out (by omega); have hx0 := (hc k hlt).below hbr hbl; clear hc; obtain ⟨c0, c1, c2, c3, c4⟩ := hx0; have hmm := HMAY.out l[k] (List.getElem_mem hlt); have hsl := may_slot20 hmm; have hso := HSH.out l[k] (List.getElem_mem hlt); have HTK := Lib.hid (lines_take l k hlt); have hln := line_size20 hso hsl.2; have hts := Nat.le_trans (lines_small20 (l := l.take k) (fun o ho => line_size20 (HSH.out o (List.mem_of_mem_take ho)) (may_slot20 (HMAY.out o (List.mem_of_mem_take ho))).2)) (Nat.mul_le_mul_right 200001 (show (l.take k).length ≤ 1000 by (rw [List.length_take]; omega))); have k0 : (0 : Int) ≤ (k : Int) := (by omega); have k1 : (k : Int) < (l.length : Int) := (by omega); have hLL := fun W hW => lineOf_any l[k] W hW (may_kind hmm) hsl hso; clear hmm hso; generalize l[k] = O at *; obtain ⟨ok, os, oa, ob, od⟩ := O; dsimp only at hsl c0 c1 c2 c3 c4; generalize lineO ⟨ok, os, oa, ob, od⟩ = LN at *; have bO := Blk.new wr 23 (opC ⟨ok, os, oa, ob, od⟩); have b7 := Joins.below_alloc1 wr (.cells (opC ⟨ok, os, oa, ob, od⟩) 23); obtain ⟨p0, p1, p2, p3, p4⟩ := bO.five; dsimp only at p0 p1 p2 p3 p4; have hB7 := hbr.trans (b7.mono hbr.size); have hbk7 := hbk.next b7; have HBK := Lib.hid hbk; clear hbk; go_wp2_with fail; refine (hLL _ (HLL.out.next hB7)).mono ?_; rintro e w8 ⟨rfl, b8⟩; have hB8 := hB7.trans (b8.mono hB7.size); have hbk8 := hbk7.next b8; clear p0 p1 p2 p3 p4 bO hbk7; have hs8 := hB8.size; have hl8 := hbk8.lt; go_wp2_with fail; refine (bldText_any w2.heap.size w2.heap.size _ (LN ++ [10]) _ hbk8 (by simp; omega) (by omega)).mono ?_; rintro e w9 ⟨rfl, hbk9, b9⟩; have hB9 := hB8.trans (b9.mono hsw); have hbk10 : BldW w2.heap.size w2.heap.size (headO l.length ++ 10 :: linesO (l.take (k + 1))) w9 := (by rw [HTK.out]; simpa using hbk9); clear hbk9 hbk8; go_wp2; go_roundw; (case rel => exact ⟨k + 1, hlt, by go_num, hbk10, hB9⟩); (case measure => simp [intOf]; omega) }; { obtain rfl : k = l.length := (by omega); rw [List.take_length] at hbk; have hsr := hbr.size; have hlr := hbk.lt; have hSt := bldString_any w2.heap.size w2.heap.size _ _ hbk (by omega); go_wp2_with fail; refine hSt.mono ?_; rintro e w9 ⟨rfl, b9⟩; go_wp2; go_ret2; exact ⟨by (rw [HN.out]; rfl), hbr.trans (b9.mono hsw)⟩ })))
  · have HN := Lib.hid (hput true (by rw [hp]; rfl))
    have HMAY := Lib.hid (either_may (l := l) (by unfold eitherO; rw [hp]; rfl))
    rw [hp] at hP
    clear hput hU
    go_enter Tryz.func15, Tryz.ntmps15
    go_wp2_with fail
    refine hP.mono ?_
    rintro e w2 ⟨rfl, hB2⟩
    clear hP hp
    (have hbb := bld_new w2; have hBb : Below w.heap.size w (w2.alloc (.cells #[.pointer none, .slice none 0 0] 62)) := hB2.alloc hB2.size _; have hlb : w2.heap.size < (w2.alloc (.cells #[.pointer none, .slice none 0 0] 62)).heap.size := (by simp); have hsw := hB2.size; have hdl : (decB l.length).length ≤ 13 := decF_len 13 20 _ (by omega) (by decide); go_wp2_with fail; generalize hwb : w2.alloc (.cells #[.pointer none, .slice none 0 0] 62) = wb at *; refine (Itoa20_any l.length _ (HLL.out.next hBb).2.2 (by omega)).mono ?_; rintro e w3 ⟨rfl, b3⟩; have hB3 := hBb.trans (b3.mono hBb.size); have hb3 := hbb.next b3; have hst := strs_at20 w3 [112, 108, 97, 110] (decB l.length); have b4 := Joins.below_alloc1 w3 (.cells #[.string ⟨#[112, 108, 97, 110]⟩, .string ⟨(decB l.length).toArray⟩] 9); have HHD : Hid (joinQ [[112, 108, 97, 110], decB l.length] = headO l.length) := Lib.hid (by simp [joinQ, headO, planW]); have hhl : (headO l.length).length ≤ 18 := (by unfold headO; rw [List.length_append]; have : planW.length = 5 := rfl; omega); have hJ := JoinQ_any [[112, 108, 97, 110], decB l.length] _ _ hst (by simp) (by rw [HHD.out]; omega); rw [HHD.out] at hJ; clear hbb hwb; go_wp2_with fail; refine hJ.mono ?_; rintro e w5 ⟨rfl, b5⟩; have hB4 := hB3.trans (b4.mono hB3.size); have hB5 := hB4.trans (b5.mono hB4.size); have hb5 := (hb3.next b4).next b5; clear hJ hst hb3; have hs5 := hB5.size; have hlt5 := hb5.lt; go_wp2_with fail; refine (bldText_any w2.heap.size w2.heap.size [] (headO l.length ++ [10]) _ hb5 (by simp; omega) (by omega)).mono ?_; rintro e w6 ⟨rfl, hb6, b6⟩; have hB6 := hB5.trans (b6.mono hsw); clear hb5 b3 b4 b5 b6 hlt5 hs5; have HEQ : Hid (([] : List UInt8) ++ (headO l.length ++ [10]) = headO l.length ++ 10 :: linesO (l.take 0)) := Lib.hid (by simp [linesO]); rw [HEQ.out] at hb6; go_wp2; go_loopw [24] (fun s24 wr => ∃ k : Nat, k ≤ l.length ∧ s24 = .int .i64 (k : Int) ∧ BldW w2.heap.size w2.heap.size (headO l.length ++ 10 :: linesO (l.take k)) wr ∧ Below w.heap.size w wr) (fun s24 _ => l.length - (intOf s24).toNat); (case atStart => exact ⟨0, Nat.zero_le _, rfl, hb6, hB6⟩); (case round => (obtain ⟨k, hk, rfl, hbk, hbr⟩ := hrel; clear hb6 hB6; by_cases hlt : k < l.length; { obtain ⟨b, off, rfl, hbl, hc⟩ := HX.out (by omega); have hx0 := (hc k hlt).below hbr hbl; clear hc; obtain ⟨c0, c1, c2, c3, c4⟩ := hx0; have hmm := HMAY.out l[k] (List.getElem_mem hlt); have hsl := may_slot20 hmm; have hso := HSH.out l[k] (List.getElem_mem hlt); have HTK := Lib.hid (lines_take l k hlt); have hln := line_size20 hso hsl.2; have hts := Nat.le_trans (lines_small20 (l := l.take k) (fun o ho => line_size20 (HSH.out o (List.mem_of_mem_take ho)) (may_slot20 (HMAY.out o (List.mem_of_mem_take ho))).2)) (Nat.mul_le_mul_right 200001 (show (l.take k).length ≤ 1000 by (rw [List.length_take]; omega))); have k0 : (0 : Int) ≤ (k : Int) := (by omega); have k1 : (k : Int) < (l.length : Int) := (by omega); have hLL := fun W hW => lineOf_any l[k] W hW (may_kind hmm) hsl hso; clear hmm hso; generalize l[k] = O at *; obtain ⟨ok, os, oa, ob, od⟩ := O; dsimp only at hsl c0 c1 c2 c3 c4; generalize lineO ⟨ok, os, oa, ob, od⟩ = LN at *; have bO := Blk.new wr 23 (opC ⟨ok, os, oa, ob, od⟩); have b7 := Joins.below_alloc1 wr (.cells (opC ⟨ok, os, oa, ob, od⟩) 23); obtain ⟨p0, p1, p2, p3, p4⟩ := bO.five; dsimp only at p0 p1 p2 p3 p4; have hB7 := hbr.trans (b7.mono hbr.size); have hbk7 := hbk.next b7; have HBK := Lib.hid hbk; clear hbk; go_wp2_with fail; refine (hLL _ (HLL.out.next hB7)).mono ?_; rintro e w8 ⟨rfl, b8⟩; have hB8 := hB7.trans (b8.mono hB7.size); have hbk8 := hbk7.next b8; clear p0 p1 p2 p3 p4 bO hbk7; have hs8 := hB8.size; have hl8 := hbk8.lt; go_wp2_with fail; refine (bldText_any w2.heap.size w2.heap.size _ (LN ++ [10]) _ hbk8 (by simp; omega) (by omega)).mono ?_; rintro e w9 ⟨rfl, hbk9, b9⟩; have hB9 := hB8.trans (b9.mono hsw); have hbk10 : BldW w2.heap.size w2.heap.size (headO l.length ++ 10 :: linesO (l.take (k + 1))) w9 := (by rw [HTK.out]; simpa using hbk9); clear hbk9 hbk8; go_wp2; go_roundw; (case rel => exact ⟨k + 1, hlt, by go_num, hbk10, hB9⟩); (case measure => simp [intOf]; omega) }; { obtain rfl : k = l.length := (by omega); rw [List.take_length] at hbk; have hsr := hbr.size; have hlr := hbk.lt; have hSt := bldString_any w2.heap.size w2.heap.size _ _ hbk (by omega); go_wp2_with fail; refine hSt.mono ?_; rintro e w9 ⟨rfl, b9⟩; go_wp2; go_ret2; exact ⟨by (rw [HN.out]; rfl), hbr.trans (b9.mono hsw)⟩ })))
end Go.Proofs.YtolbhjjcabiabaaGreatDoor
