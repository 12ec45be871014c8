import Derived.Test.YtolbhjjcabiabaaGreatDoorQMPure20d
import Derived.Test.YtolbhjjcabiabaaGreatDoorQWalkD20
import Derived.Test.YtolbhjjcabiabaaGreatDoorQMOpIn19
set_option linter.unusedVariables false
set_option linter.unusedSimpArgs false
/- Walks: the document's Put. -/
set_option linter.unusedVariables false
set_option linter.unusedSimpArgs false
namespace Go.Proofs.YtolbhjjcabiabaaGreatDoor
open Go.RowKit

theorem line_size {o : OpV} (h : shortO o) (hs : o.slot ≤ 1099511627776) : (lineO o).length ≤ 30000 := by
  obtain ⟨k, n, a, b, d⟩ := o
  obtain ⟨h1, h2, h3⟩ := h
  dsimp only at h1 h2 h3 hs
  have qa := quoteB_len a
  have qb := quoteB_len b
  have qd := quoteB_len d
  have hd : (decB n.toNat).length ≤ 13 := decF_len 13 20 _ (by omega) (by decide)
  by_cases hk : 1 ≤ k ∧ k ≤ 10
  · rcases word_cases hk.1 hk.2 with rfl | rfl | rfl | rfl | rfl | rfl | rfl | rfl | rfl | rfl
    all_goals simp [lineO, lineW, slotK, pairK, joinQ, wordK]
    all_goals omega
  · unfold lineO; rw [if_neg hk]; simp
theorem line_min {o : OpV} (h : mayO o = true) : 8 ≤ (lineO o).length := by
  have hk := may_kind h
  obtain ⟨k, n, a, b, d⟩ := o
  dsimp only at hk
  have q : ∀ x : List UInt8, 2 ≤ (quoteB x).length := fun x => by simp [quoteB]
  have qa := q a
  have qb := q b
  have qd := q d
  rcases word_cases hk.1 hk.2 with rfl | rfl | rfl | rfl | rfl | rfl | rfl | rfl | rfl | rfl
  all_goals simp [lineO, lineW, slotK, pairK, joinQ, wordK]
  all_goals omega
theorem lines_take (l : List OpV) (k : Nat) (h : k < l.length) : linesO (l.take (k + 1)) = linesO (l.take k) ++ lineO l[k] ++ [10] := by
  rw [List.take_succ_eq_append_getElem h]
  unfold linesO
  rw [List.flatMap_append]
  simp
theorem lines_small {l : List OpV} (h : ∀ o ∈ l, (lineO o).length ≤ 30000) : (linesO l).length ≤ l.length * 30001 := by
  induction l with
  | nil => simp [linesO]
  | cons o t ih =>
    have h1 := h o List.mem_cons_self
    have h2 := ih fun x hx => h x (List.mem_cons_of_mem _ hx)
    unfold linesO at h2 ⊢
    rw [List.flatMap_cons, List.length_append, List.length_append, List.length_cons]
    simp only [List.length_cons, List.length_nil]
    have := Nat.succ_mul t.length 30001
    omega

theorem may_slot20 {o : OpV} (h : mayO o = true) : 0 ≤ o.slot ∧ o.slot ≤ 1073741824 := by
  obtain ⟨m1, m2, _, _⟩ := may_none h
  cases hk : slotK o.kind
  · rw [m1 hk]; decide
  · have := m2 hk; omega
attribute [local go_sem] ByteArray.mk_append_mk
set_option maxHeartbeats 8000000 in
set_option maxRecDepth 100000 in
theorem refPut_any (l : List OpV) (v : Value) (w : World) (hv : Ops w v l) (hl : l.length ≤ 100) (hsh : ∀ o ∈ l, shortO o) :
    Calls Tryz.prog 16 #[v] w fun e w' => e = .returned (.tuple #[.string ⟨(putO l).1.toArray⟩, .int .i64 (putO l).2]) ∧ Below w.heap.size w w' := by
  have hsh2 : ∀ o ∈ l, o.a.length ≤ 100000 ∧ o.b.length ≤ 100000 ∧ o.data.length ≤ 100000 := fun o ho => by
    obtain ⟨h1, h2, h3⟩ := hsh o ho
    omega
  have hP := fun W (h : Ops W v l) => refPlan_any l v W h (by omega) hsh2
  have hU := fun W (h : Ops W v l) => refUndo_any l v W h (by omega) hsh2
  obtain ⟨a, ca, rfl, hcc, hcm, _, hcn, HX0⟩ := id hv
  have HX := Lib.hid HX0
  have HV := Lib.hid hv
  have HSH := Lib.hid hsh
  clear HX0 hsh hsh2 hv
  unfold maxLen at hcm
  have hPR := hP w HV.out
  have hput : ∀ b : Bool, (planO l || undoO l) = b → putO l = if b = true then (textO l, 0) else ([], 12) := fun b h => by unfold putO; rw [h]
  cases hp : planO l
  · cases hu : undoO l
    · have HN := Lib.hid (hput false (by rw [hp, hu]; rfl))
      rw [hp] at hPR
      clear hput hP
      go_enter Tryz.func16, Tryz.ntmps16
      go_wp2_with fail
      refine hPR.mono ?_
      rintro e w1 ⟨rfl, b1⟩
      have hUR := hU w1 (HV.out.below b1)
      rw [hu] at hUR
      go_wp2_with fail
      refine hUR.mono ?_
      rintro e w2 ⟨rfl, b2⟩
      go_wp2
      go_ret2
      exact ⟨by rw [HN.out]; rfl, b1.trans (b2.mono b1.size)⟩
    · have HN := Lib.hid (hput true (by rw [hp, hu]; rfl))
      have HMAY := Lib.hid (either_may (l := l) (by unfold eitherO; rw [hp, hu]; rfl))
      rw [hp] at hPR
      clear hput hP
      go_enter Tryz.func16, Tryz.ntmps16
      go_wp2_with fail
      refine hPR.mono ?_
      rintro e w1 ⟨rfl, b1⟩
      have hUR := hU w1 (HV.out.below b1)
      rw [hu] at hUR
      go_wp2_with fail
      refine hUR.mono ?_
      rintro e w2 ⟨rfl, b2⟩
      have hB2 := b1.trans (b2.mono b1.size)
      clear b1 b2 hU hUR hPR hp hu
      (go_wp2_with fail; refine (refDec_any l.length _ (by omega)).mono ?_; rintro e w3 ⟨rfl, b3⟩; have hB3 := hB2.trans (b3.mono hB2.size); have hdl : (decB l.length).length ≤ 13 := decF_len 13 20 _ (by omega) (by decide); clear b3; go_wp2; go_loopw [4, 5] (fun s4 s5 wr => ∃ k : Nat, k ≤ l.length ∧ s5 = .int .i64 (k : Int) ∧ s4 = .string ⟨(headO l.length ++ 10 :: linesO (l.take k)).toArray⟩ ∧ Below w.heap.size w wr) (fun _ s5 _ => l.length - (intOf s5).toNat); (case atStart => exact ⟨0, Nat.zero_le _, rfl, by simp [headO, planW, linesO], hB3⟩); (case round => (obtain ⟨k, hk, rfl, rfl, hbr⟩ := hrel; clear hB3; by_cases hlt : k < l.length; (obtain ⟨b, off, rfl, hbl, hc⟩ := HX.out (by omega); have hx0 := (hc k hlt).below hbr hbl; clear hc; obtain ⟨c0, c1, c2, c3, c4⟩ := hx0; have hmm := HMAY.out l[k] (List.getElem_mem hlt); have hsl : 0 ≤ l[k].slot ∧ l[k].slot ≤ 1073741824 := may_slot20 hmm; have hso := HSH.out l[k] (List.getElem_mem hlt); have HTK := Lib.hid (lines_take l k hlt); have hln := line_size hso (by omega); have hts := Nat.le_trans (lines_small (l := l.take k) (fun o ho => line_size (HSH.out o (List.mem_of_mem_take ho)) (by have := may_slot20 (HMAY.out o (List.mem_of_mem_take ho)); omega))) (Nat.mul_le_mul_right 30001 (show (l.take k).length ≤ 100 by (rw [List.length_take]; omega))); have k0 : (0 : Int) ≤ (k : Int) := (by omega); have k1 : (k : Int) < (l.length : Int) := (by omega); have hLL := fun W => refLine_any l[k] W (by have := hso.1; omega) (by have := hso.2.1; omega) (by have := hso.2.2; omega) hsl.1 (by omega); clear hmm hso; generalize l[k] = O at *; obtain ⟨ok, os, oa, ob, od⟩ := O; dsimp only at hsl c0 c1 c2 c3 c4; generalize lineO ⟨ok, os, oa, ob, od⟩ = LN at *; generalize linesO (l.take k) = LS at *; go_wp2_with fail; refine (hLL _).mono ?_; rintro e w4 ⟨rfl, b4⟩; have hhl : (headO l.length).length ≤ 18 := (by (unfold headO; rw [List.length_append]; have : planW.length = 5 := rfl; omega)); go_wp2; go_roundw; (case rel => exact ⟨k + 1, hlt, by go_num, by (rw [HTK.out]; simp), hbr.trans (b4.mono hbr.size)⟩); (case measure => simp [intOf]; omega)); (obtain rfl : k = l.length := (by omega); rw [List.take_length]; go_wp2; go_ret2; exact ⟨by (rw [HN.out]; rfl), hbr⟩))))
  · have HN := Lib.hid (hput true (by rw [hp]; rfl))
    have HMAY := Lib.hid (either_may (l := l) (by unfold eitherO; rw [hp]; rfl))
    rw [hp] at hPR
    clear hput hP hU
    go_enter Tryz.func16, Tryz.ntmps16
    go_wp2_with fail
    refine hPR.mono ?_
    rintro e w2 ⟨rfl, hB2⟩
    clear hPR hp
    (go_wp2_with fail; refine (refDec_any l.length _ (by omega)).mono ?_; rintro e w3 ⟨rfl, b3⟩; have hB3 := hB2.trans (b3.mono hB2.size); have hdl : (decB l.length).length ≤ 13 := decF_len 13 20 _ (by omega) (by decide); clear b3; go_wp2; go_loopw [4, 5] (fun s4 s5 wr => ∃ k : Nat, k ≤ l.length ∧ s5 = .int .i64 (k : Int) ∧ s4 = .string ⟨(headO l.length ++ 10 :: linesO (l.take k)).toArray⟩ ∧ Below w.heap.size w wr) (fun _ s5 _ => l.length - (intOf s5).toNat); (case atStart => exact ⟨0, Nat.zero_le _, rfl, by simp [headO, planW, linesO], hB3⟩); (case round => (obtain ⟨k, hk, rfl, rfl, hbr⟩ := hrel; clear hB3; by_cases hlt : k < l.length; (obtain ⟨b, off, rfl, hbl, hc⟩ := HX.out (by omega); have hx0 := (hc k hlt).below hbr hbl; clear hc; obtain ⟨c0, c1, c2, c3, c4⟩ := hx0; have hmm := HMAY.out l[k] (List.getElem_mem hlt); have hsl : 0 ≤ l[k].slot ∧ l[k].slot ≤ 1073741824 := may_slot20 hmm; have hso := HSH.out l[k] (List.getElem_mem hlt); have HTK := Lib.hid (lines_take l k hlt); have hln := line_size hso (by omega); have hts := Nat.le_trans (lines_small (l := l.take k) (fun o ho => line_size (HSH.out o (List.mem_of_mem_take ho)) (by have := may_slot20 (HMAY.out o (List.mem_of_mem_take ho)); omega))) (Nat.mul_le_mul_right 30001 (show (l.take k).length ≤ 100 by (rw [List.length_take]; omega))); have k0 : (0 : Int) ≤ (k : Int) := (by omega); have k1 : (k : Int) < (l.length : Int) := (by omega); have hLL := fun W => refLine_any l[k] W (by have := hso.1; omega) (by have := hso.2.1; omega) (by have := hso.2.2; omega) hsl.1 (by omega); clear hmm hso; generalize l[k] = O at *; obtain ⟨ok, os, oa, ob, od⟩ := O; dsimp only at hsl c0 c1 c2 c3 c4; generalize lineO ⟨ok, os, oa, ob, od⟩ = LN at *; generalize linesO (l.take k) = LS at *; go_wp2_with fail; refine (hLL _).mono ?_; rintro e w4 ⟨rfl, b4⟩; have hhl : (headO l.length).length ≤ 18 := (by (unfold headO; rw [List.length_append]; have : planW.length = 5 := rfl; omega)); go_wp2; go_roundw; (case rel => exact ⟨k + 1, hlt, by go_num, by (rw [HTK.out]; simp), hbr.trans (b4.mono hbr.size)⟩); (case measure => simp [intOf]; omega)); (obtain rfl : k = l.length := (by omega); rw [List.take_length]; go_wp2; go_ret2; exact ⟨by (rw [HN.out]; rfl), hbr⟩))))
end Go.Proofs.YtolbhjjcabiabaaGreatDoor
