import Derived.Test.YtolbhjjcabiabaaGreatDoorQWalkN19
import Derived.Deep.LoopGhost
set_option linter.unusedVariables false
set_option linter.unusedSimpArgs false
/- Walks: the program's May and Slots. -/
set_option linter.unusedVariables false
set_option linter.unusedSimpArgs false
namespace Go.Proofs.YtolbhjjcabiabaaGreatDoor
open Go.RowKit

theorem may_eq19 (k n : Int) (A B D : List UInt8) :
    mayO ⟨k, n, A, B, D⟩ = (kindK k && ((if slotK k = true then decide (1 ≤ n ∧ n ≤ 1073741824) else n == 0) && ((if (k == 4) = true then targetB D else D == []) && ((if kindK k = true then placeB A else A == []) && ((if pairK k = true then placeB B else B == []) && (!(k == 6) || (!liesB A B && !liesB B A))))))) := by
  have h4 : (if k = 4 then targetB D else D == []) = (if (k == 4) = true then targetB D else D == []) := by simp
  have ho : decide (1 ≤ k ∧ k ≤ 10) = kindK k := rfl
  unfold mayO
  dsimp only
  rw [h4, ho]
  generalize (if slotK k = true then decide (1 ≤ n ∧ n ≤ 1073741824) else n == 0) = f0
  generalize (if (k == 4) = true then targetB D else D == []) = f1
  cases hk : kindK k
  · rfl
  rw [if_pos (rfl : true = true)]
  cases ha : placeB A
  · cases f0 <;> cases f1 <;> rfl
  cases h6 : (k == 6)
  · generalize (if pairK k = true then placeB B else B == []) = f3
    cases f0 <;> cases f1 <;> cases f3 <;> rfl
  · rw [beq_iff_eq] at h6
    subst h6
    rw [if_pos (show pairK 6 = true by decide)]
    cases hb : placeB B
    · cases f0 <;> cases f1 <;> rfl
    rw [under_place19 ha hb, under_place19 hb ha]
    cases f0 <;> cases f1 <;> rfl

set_option maxHeartbeats 2000000 in
set_option maxRecDepth 100000 in
theorem May19_any (o : OpV) (w : World) (hL : Laid19 w) (ha : o.a.length ≤ 100000) (hb : o.b.length ≤ 100000) (hd : o.data.length ≤ 100000) :
    Calls Tryz.prog 31 #[.agg (opC o)] w fun e w' => e = .returned (.bool (mayO o)) ∧ Below w.heap.size w w' := by
  obtain ⟨k, n, A, B, D⟩ := o
  dsimp only at ha hb hd
  have hM := may_eq19 k n A B D
  have hK := fun W hW => kindOf19_any k n A B D W hW
  have hU1 := fun W => Under_any A B W (by omega) (by omega)
  have hU2 := fun W => Under_any B A W (by omega) (by omega)
  generalize liesB A B = u1 at *
  generalize liesB B A = u2 at *
  generalize hM0 : mayO ⟨k, n, A, B, D⟩ = r at *
  unfold kC at hK
  generalize slotK k = b0 at *
  generalize (k == 4) = b1 at *
  generalize kindK k = b2 at *
  generalize pairK k = b3 at *
  generalize (k == 6) = b4 at *
  generalize planK k = b5 at *
  generalize undoK k = b6 at *
  have hI := fun W => fitsI_any b0 n W
  have hD := fun W => fitsT_any b1 D W (by omega)
  have hA := fun W => fitsP_any b2 A W (by omega)
  have hE := fun W => fitsP_any b3 B W (by omega)
  generalize (if b0 = true then decide (1 ≤ n ∧ n ≤ 1073741824) else n == 0) = f0 at *
  generalize (if b1 = true then targetB D else D == []) = f1 at *
  generalize (if b2 = true then placeB A else A == []) = f2 at *
  generalize (if b3 = true then placeB B else B == []) = f3 at *
  have HM := Lib.hid hM
  have bO := Blk.new w 23 (opC ⟨k, n, A, B, D⟩)
  have hB : Below w.heap.size w (w.alloc (.cells (opC ⟨k, n, A, B, D⟩) 23)) := (Below.refl _ w).alloc (Nat.le_refl _) _
  have hT := hL.next hB
  clear hL hM hM0 ha hb hd
  obtain ⟨p0, p1, p2, p3, p4⟩ := bO.five
  dsimp only at p0 p1 p2 p3 p4
  go_enter Tryz.func31, Tryz.ntmps31
  go_wp2_with fail
  refine (hK _ hT).mono ?_
  rintro e w1 ⟨rfl, c1⟩
  replace hB := hB.trans (c1.mono hB.size)
  have g1 := (Below.refl w1.heap.size w1).alloc (Nat.le_refl _) (.cells #[.bool b0, .bool b1, .bool b2, .bool b3, .bool b4, .bool b5, .bool b6] 82)
  have bK := Blk.new w1 82 #[.bool b0, .bool b1, .bool b2, .bool b3, .bool b4, .bool b5, .bool b6]
  replace bO := (bO.next c1).next g1
  replace hB := hB.trans (g1.mono hB.size)
  clear c1 g1 hT hK p0 p1 p2 p3 p4
  obtain ⟨p0, p1, p2, p3, p4⟩ := bO.five
  obtain ⟨q0, q1, q2, q3, q4, q5, q6⟩ := bK.sevens
  dsimp only at p0 p1 p2 p3 p4
  cases b2
  · have HN : Hid (r = false) := Lib.hid (HM.out.trans rfl)
    go_wp2
    go_ret
    exact ⟨ret_bool (by rw [HN.out]), hB⟩
  go_wp2_with fail
  refine (hI _).mono ?_
  rintro e w2 ⟨rfl, c1⟩
  (replace bO := bO.next c1; replace bK := bK.next c1; replace hB := hB.trans (c1.mono hB.size); clear c1 p0 p1 p2 p3 p4 q0 q1 q2 q3 q4 q5 q6; obtain ⟨p0, p1, p2, p3, p4⟩ := bO.five; obtain ⟨q0, q1, q2, q3, q4, q5, q6⟩ := bK.sevens; dsimp only at p0 p1 p2 p3 p4)
  cases f0
  · (have HN : Hid (r = false) := Lib.hid (HM.out.trans rfl); go_wp2; go_ret; exact ⟨ret_bool (by rw [HN.out]), hB⟩)
  go_wp2_with fail
  refine (hD _).mono ?_
  rintro e w3 ⟨rfl, c1⟩
  (replace bO := bO.next c1; replace bK := bK.next c1; replace hB := hB.trans (c1.mono hB.size); clear c1 p0 p1 p2 p3 p4 q0 q1 q2 q3 q4 q5 q6; obtain ⟨p0, p1, p2, p3, p4⟩ := bO.five; obtain ⟨q0, q1, q2, q3, q4, q5, q6⟩ := bK.sevens; dsimp only at p0 p1 p2 p3 p4)
  cases f1
  · (have HN : Hid (r = false) := Lib.hid (HM.out.trans rfl); go_wp2; go_ret; exact ⟨ret_bool (by rw [HN.out]), hB⟩)
  go_wp2_with fail
  refine (hA _).mono ?_
  rintro e w4 ⟨rfl, c1⟩
  (replace bO := bO.next c1; replace bK := bK.next c1; replace hB := hB.trans (c1.mono hB.size); clear c1 p0 p1 p2 p3 p4 q0 q1 q2 q3 q4 q5 q6; obtain ⟨p0, p1, p2, p3, p4⟩ := bO.five; obtain ⟨q0, q1, q2, q3, q4, q5, q6⟩ := bK.sevens; dsimp only at p0 p1 p2 p3 p4)
  cases f2
  · (have HN : Hid (r = false) := Lib.hid (HM.out.trans rfl); go_wp2; go_ret; exact ⟨ret_bool (by rw [HN.out]), hB⟩)
  go_wp2_with fail
  refine (hE _).mono ?_
  rintro e w5 ⟨rfl, c1⟩
  (replace bO := bO.next c1; replace bK := bK.next c1; replace hB := hB.trans (c1.mono hB.size); clear c1 p0 p1 p2 p3 p4 q0 q1 q2 q3 q4 q5 q6; obtain ⟨p0, p1, p2, p3, p4⟩ := bO.five; obtain ⟨q0, q1, q2, q3, q4, q5, q6⟩ := bK.sevens; dsimp only at p0 p1 p2 p3 p4)
  cases f3
  · (have HN : Hid (r = false) := Lib.hid (HM.out.trans rfl); go_wp2; go_ret; exact ⟨ret_bool (by rw [HN.out]), hB⟩)
  cases b4
  · have HN : Hid (r = true) := Lib.hid (HM.out.trans rfl)
    go_wp2
    go_ret
    exact ⟨ret_bool (by rw [HN.out]), hB⟩
  go_wp2_with fail
  refine (hU1 _).mono ?_
  rintro e w6 ⟨rfl, rfl⟩
  cases u1
  · go_wp2_with fail
    refine (hU2 _).mono ?_
    rintro e w6 ⟨rfl, rfl⟩
    cases u2
    · have HN : Hid (r = true) := Lib.hid (HM.out.trans rfl)
      go_wp2
      go_ret
      exact ⟨ret_bool (by rw [HN.out]), hB⟩
    · (have HN : Hid (r = false) := Lib.hid (HM.out.trans rfl); go_wp2; go_ret; exact ⟨ret_bool (by rw [HN.out]), hB⟩)
  · (have HN : Hid (r = false) := Lib.hid (HM.out.trans rfl); go_wp2; go_ret; exact ⟨ret_bool (by rw [HN.out]), hB⟩)

set_option maxHeartbeats 4000000 in
set_option maxRecDepth 100000 in
theorem Slots19_any (l : List OpV) (v : Value) (w : World) (hL : Laid19 w) (hv : Ops w v l) (hl : l.length ≤ 1000) :
    Calls Tryz.prog 60 #[v] w fun e w' => ∃ vo, e = .returned vo ∧ w'.ownsRow w.heap.size 3 1 vo (slotsO l).length (intsO (slotsO l)) ∧ Below w.heap.size w w' := by
  obtain ⟨i0, hi, hz0, hz1, hz2⟩ := info_parts infoI19
  obtain ⟨a, ca, rfl, hcc, hcm, _, hcn, HX0⟩ := id hv
  unfold maxLen at hcm
  have HX := Lib.hid HX0
  have HL := Lib.hid hL
  clear HX0 hv hL
  have hB := Below.refl w.heap.size w
  go_enter Tryz.func60, Tryz.ntmps60
  go_wp2
  go_loopg [3, 10] l.length (fun g s3 s10 wr => ∃ k : Nat, k + g = l.length ∧ s10 = .int .i64 k ∧ Below w.heap.size w wr ∧ Aside (wr.ownsRow w.heap.size 3 1 s3 (slotsO (l.take k)).length (intsO (slotsO (l.take k)))))
  case atStart => exact ⟨0, by omega, rfl, hB, World.ownsRow_nil _ _ _ _⟩
  case round =>
    clear hB
    obtain ⟨k, hkg, rfl, hbw, HO⟩ := hrel
    by_cases hlt : k < l.length
    · obtain ⟨G, rfl⟩ : ∃ G, gk = G + 1 := ⟨gk - 1, by omega⟩
      obtain ⟨b, off, rfl, hbl, hcl⟩ := HX.out (by omega)
      have hx0 := (hcl k hlt).below hbw hbl
      clear hcl
      have hsl := slots_append (l.take k) [l[k]]
      rw [← take_step hlt] at hsl
      have hsn := slots_len (l.take k)
      rw [List.length_take] at hsn
      have k0 : (0 : Int) ≤ (k : Int) := by omega
      have k1 : (k : Int) < (l.length : Int) := by omega
      generalize slotsO (l.take k) = S0 at *
      generalize l[k] = o at *
      obtain ⟨ok, n, A, B, D⟩ := o
      obtain ⟨c0, c1, c2, c3, c4⟩ := hx0
      dsimp only at c0 c1 c2 c3 c4
      have hK := fun W hW => kindOf19_any ok n A B D W hW
      have hse : slotsO [⟨ok, n, A, B, D⟩] = if slotK ok = true then [n] else [] := by simp [slotsO]
      rw [hse] at hsl
      unfold kC at hK
      generalize slotK ok = b0 at *
      generalize (ok == 4) = b1 at *
      generalize kindK ok = b2 at *
      generalize pairK ok = b3 at *
      generalize (ok == 6) = b4 at *
      generalize planK ok = b5 at *
      generalize undoK ok = b6 at *
      have oO := HO.out
      clear HO hse
      have bO := Blk.new wr 23 (opC ⟨ok, n, A, B, D⟩)
      have g0 := (Below.refl wr.heap.size wr).alloc (Nat.le_refl _) (.cells (opC ⟨ok, n, A, B, D⟩) 23)
      have hb0 := hbw.trans (g0.mono hbw.size)
      have hT := HL.out.next hb0
      have o0 := oO.alloc (.cells (opC ⟨ok, n, A, B, D⟩) 23)
      obtain ⟨p0, p1, p2, p3, p4⟩ := bO.five
      dsimp only at p0 p1 p2 p3 p4
      have HSL := Lib.hid hsl
      clear hsl g0 oO
      go_wp2_with fail
      refine (hK _ hT).mono ?_
      rintro e w3 ⟨rfl, b3'⟩
      have hb3 := hb0.trans (b3'.mono hb0.size)
      have o3 := (own_keep o0 b3').alloc (.cells #[.bool b0, .bool b1, .bool b2, .bool b3, .bool b4, .bool b5, .bool b6] 82)
      have bK := Blk.new w3 82 #[.bool b0, .bool b1, .bool b2, .bool b3, .bool b4, .bool b5, .bool b6]
      have hb4 := hb3.alloc hb3.size (.cells #[.bool b0, .bool b1, .bool b2, .bool b3, .bool b4, .bool b5, .bool b6] 82)
      replace bO := (bO.next b3').alloc (.cells #[.bool b0, .bool b1, .bool b2, .bool b3, .bool b4, .bool b5, .bool b6] 82)
      clear p0 p1 p2 p3 p4 hT hK b3' o0 hb0 hb3 c0 c1 c2 c3 c4
      obtain ⟨p0, p1, p2, p3, p4⟩ := bO.five
      obtain ⟨q0, q1, q2, q3, q4, q5, q6⟩ := bK.sevens
      dsimp only at p0 p1 p2 p3 p4
      clear bO bK
      cases b0
      · have HS1 : Hid (slotsO (l.take (k + 1)) = S0) := by (show _ = _); rw [HSL.out]; simp
        go_wp2
        go_roundg G
        case rel => exact ⟨k + 1, by omega, by go_num, hb4, by (show World.ownsRow _ _ _ _ _ _ _); rw [HS1.out]; exact o3⟩
        case measure => omega
      · have HS1 : Hid (slotsO (l.take (k + 1)) = S0 ++ [n]) := by (show _ = _); rw [HSL.out]; simp
        go_wp2_with (at_builtin; refine wpList_append_new rfl (.tmp 21) (.tmp 24) 91 3 rfl Tryz.underlying91 hi hz0 hz1 hz2 rfl (by decide) (by decide) w.heap.size #[.int .i64 n] 1 (by first | rfl | (rw [World.size_alloc]; rfl)) (by first | rfl | (rw [World.size_alloc]; rfl)) o3 (by first | rfl | (rw [World.size_alloc]; rfl)) (by simp [Value.oneCell']) (by omega) hb4.size ?_; intro v6 w6 hown6 hb6)
        go_roundg G
        case rel => exact ⟨k + 1, by omega, by go_num, hb4.trans hb6, by (show World.ownsRow _ _ _ _ _ _ _); rw [HS1.out, List.length_append]; simpa [intsO] using hown6⟩
        case measure => omega
    · obtain rfl : k = l.length := by omega
      have oO := HO.out
      rw [List.take_length] at oO
      go_wp2
      go_ret
      exact ⟨_, rfl, oO, hbw⟩
end Go.Proofs.YtolbhjjcabiabaaGreatDoor
