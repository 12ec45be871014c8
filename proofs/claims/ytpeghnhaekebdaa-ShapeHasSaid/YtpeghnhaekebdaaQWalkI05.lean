import Derived.Test.YtpeghnhaekebdaaQMSeq08
import Derived.BigQuiet
set_option linter.unusedVariables false
set_option linter.unusedSimpArgs false
/- Walks: the document's New, Rise, Get, Few. -/
set_option linter.unusedVariables false
set_option linter.unusedSimpArgs false
namespace Go.Proofs.Ytpeghnhaekebdaa
open Go.RowKit

theorem refNewT_any (i b : Int) (w : World) :
    Calls Try.prog 15 #[.int .i64 i, .int .i64 b] w fun e w' => ∃ v, e = .returned (.agg (fsC i b 2 v)) ∧ Nds w' v [rootN] ∧ Below w.heap.size w w' := by
  have b0 := (Blk.new w 24 (fsC i b 2 (.slice (some ⟨w.heap.size + 1, 0, none⟩) 1 1))).alloc (.cells (ndC rootN) 33)
  have hB : Below w.heap.size w ((w.alloc (.cells (fsC i b 2 (.slice (some ⟨w.heap.size + 1, 0, none⟩) 1 1)) 24)).alloc (.cells (ndC rootN) 33)) := ((Below.refl _ w).alloc (Nat.le_refl _) _).alloc (by simp) _
  have hN := root_nds (w.alloc (.cells (fsC i b 2 (.slice (some ⟨w.heap.size + 1, 0, none⟩) 1 1)) 24)) 33 (w.heap.size + 1) (by simp)
  obtain ⟨⟨r0, r1, r2, r3⟩, _⟩ := b0.four
  clear b0
  go_enter Try.func15, Try.ntmps15
  go_wp2
  refine bodyPost_ret (v := .agg (fsC i b 2 (.slice (some ⟨w.heap.size + 1, 0, none⟩) 1 1))) (by simp [results, Try.f15, go_sem, r0, r1, r2, r3]) rfl ?_
  exact ⟨_, rfl, hN, hB⟩

set_option maxHeartbeats 2000000 in
theorem riseT_any (mi mb nx : Int) (l : List Nd) (v : Value) (w : World) (hv : Nds w v l) (hl : l.length ≤ 1000000) :
    Calls Try.prog 40 #[.agg (fsC mi mb nx v)] w fun e w' => e = .returned (.bool (riseN l)) ∧ Below w.heap.size w w' := by
  obtain ⟨a, ca, rfl, hc, hm, hea, hna, HA0⟩ := id hv
  unfold maxLen at hm
  have HA := Lib.hid HA0
  clear HA0 hea hv
  have b0 := Blk.new w 24 (fsC mi mb nx (.slice a l.length ca))
  have hB0 : Below w.heap.size w (w.alloc (.cells (fsC mi mb nx (.slice a l.length ca)) 24)) := (Below.refl _ w).alloc (Nat.le_refl _) _
  have HS : Hid (riseP (l.take 1)) := by
    show riseP _
    cases l with
    | nil => exact List.Pairwise.nil
    | cons x r => simp
  go_enter Try.func40, Try.ntmps40
  go_wp2
  go_loopw [3] (fun s3 wr => ∃ j : Nat, s3 = .int .i64 ((j : Int) + 1) ∧ j ≤ l.length ∧ Aside (riseP (l.take (j + 1))) ∧ Below w.heap.size w wr ∧ Aside (Blk wr w.heap.size 24 (fsC mi mb nx (.slice a l.length ca)))) (fun s3 _ => l.length + 1 - (intOf s3).toNat)
  case atStart => exact ⟨0, rfl, by omega, HS.out, hB0, b0⟩
  case round =>
    clear b0 hB0 HS
    obtain ⟨j, rfl, hj, HT, hbw, HB⟩ := hrel
    have p3 := HB.out.four.1.2.2.2
    by_cases hlt : j + 1 < l.length
    · obtain ⟨b, o, rfl, hb, hcl⟩ := HA.out (by omega)
      have c0 := ((hcl j (by omega)).below hbw hb).1
      have d0 := ((hcl (j + 1) hlt).below hbw hb).1
      clear hcl
      have k0 : (0 : Int) ≤ (j : Int) := by omega
      have k1 : (j : Int) < (l.length : Int) := by omega
      have k2 : (0 : Int) ≤ (j : Int) + 1 := by omega
      have k3 : (j : Int) + 1 < (l.length : Int) := by omega
      have k4 : ((j : Int) + 1).toNat = j + 1 := by omega
      have k5 : IntKind.i64.wrap ((j : Int) + 1 - 1) = (j : Int) := by rw [IntKind.wrap_i64]; omega
      have k6 : IntKind.i64.wrap (j : Int) = (j : Int) := by rw [IntKind.wrap_i64]; omega
      by_cases he : l[j].ino < l[j + 1].ino
      · have hge : ¬ (l[j].ino ≥ l[j + 1].ino) := by omega
        have hge2 : ¬ (l[j + 1].ino ≤ l[j].ino) := by omega
        have hge3 : decide (l[j + 1].ino ≤ l[j].ino) = false := by simp; omega
        have HT2 := Lib.hid (rise_next hlt HT.out (fun i hi h => by obtain rfl : i = j := by omega
                                                                    exact he))
        have HB2 : ∀ q, Blk (wr.drewN q) w.heap.size 24 (fsC mi mb nx (.slice (some ⟨b, o, none⟩) l.length ca)) := fun q => HB.out.below (below_drewN (Below.refl (w.heap.size + 1) wr) q) (Nat.lt_succ_self _)
        go_wp2
        go_quiet (fail)
        go_wp2
        go_roundw
        case rel => exact ⟨j + 1, by go_num, by omega, HT2.out, below_drewN hbw _, HB2 _⟩
        case measure => simp [intOf]; omega
      · have HN := Lib.hid (rise_no hlt he)
        have hge : l[j].ino ≥ l[j + 1].ino := by omega
        have hge3 : decide (l[j + 1].ino ≤ l[j].ino) = true := by simp; omega
        go_wp2
        go_quiet (fail)
        go_wp2
        go_ret
        exact ⟨ret_bool (by rw [HN.out]), below_drewN hbw _⟩
    · have HN : Hid (riseN l = true) := by
        (show _ = _)
        have := HT.out
        rw [List.take_of_length_le (by omega)] at this
        exact (riseN_iff l).2 this
      have hlt2 : ¬ ((j : Int) + 1 < (l.length : Int)) := by omega
      go_wp2
      go_ret
      exact ⟨ret_bool (by rw [HN.out]), hbw⟩

set_option maxHeartbeats 2000000 in
theorem refGetT_any (mi mb nx n : Int) (l : List Nd) (v : Value) (w : World) (hv : Nds w v l) :
    Calls Try.prog 21 #[.agg (fsC mi mb nx v), .int .i64 n] w fun e w' => e = .returned (.tuple #[.agg (ndC (getN l n)), .bool (hasN l n)]) ∧ Below w.heap.size w w' := by
  obtain ⟨a, ca, rfl, hc, hm, _, hna, _⟩ := id hv
  unfold maxLen at hm
  have b0 := (Blk.new w 24 (fsC mi mb nx (.slice a l.length ca))).alloc (.cells #[.int .i64 0, .int .i64 0, .int .i64 0, .string ⟨#[]⟩, .int .i64 0, .slice none 0 0] 33)
  have b1 : Blk ((w.alloc (.cells (fsC mi mb nx (.slice a l.length ca)) 24)).alloc (.cells #[.int .i64 0, .int .i64 0, .int .i64 0, .string ⟨#[]⟩, .int .i64 0, .slice none 0 0] 33)) _ 33 (ndC zeroN) := Blk.new (w.alloc (.cells (fsC mi mb nx (.slice a l.length ca)) 24)) 33 (ndC zeroN)
  have hB0 : Below w.heap.size w ((w.alloc (.cells (fsC mi mb nx (.slice a l.length ca)) 24)).alloc (.cells #[.int .i64 0, .int .i64 0, .int .i64 0, .string ⟨#[]⟩, .int .i64 0, .slice none 0 0] 33)) := ((Below.refl _ w).alloc (Nat.le_refl _) _).alloc (by simp) _
  obtain ⟨_, _, hu, _, _, hea, _, HA0⟩ := hv.below hB0
  simp only [Value.slice.injEq] at hu
  obtain ⟨rfl, _, rfl⟩ := hu
  have HA := Lib.hid HA0
  have HE := Lib.hid hea
  clear HA0 hea hv
  simp only [World.size_alloc] at b1
  go_enter Try.func21, Try.ntmps21
  go_wp2
  generalize hw2 : (w.alloc (.cells (fsC mi mb nx (.slice a l.length ca)) 24)).alloc (.cells #[.int .i64 0, .int .i64 0, .int .i64 0, .string ⟨#[]⟩, .int .i64 0, .slice none 0 0] 33) = w2 at *
  clear hw2
  have hsz := hB0.size
  have HB := Lib.hid (show _ ∧ _ from ⟨b0, b1⟩)
  clear b0 b1
  go_loopw [6] (fun s6 wr => ∃ k : Nat, k ≤ l.length ∧ s6 = .int .i64 k ∧ Aside ((l.take k).any (fun e => e.ino == n) = false) ∧ wr = w2) (fun s6 _ => l.length - (intOf s6).toNat)
  case atStart => exact ⟨0, Nat.zero_le _, rfl, by (show _ = _); simp, rfl⟩
  case round =>
    obtain ⟨k, hk, rfl, HT, rfl⟩ := hrel
    obtain ⟨b0, b1⟩ := HB.out
    obtain ⟨⟨p0, p1, p2, p3⟩, _⟩ := b0.four
    obtain ⟨⟨q0, q1, q2, q3, q4, q5⟩, e0, e1, e2, e3, e4, e5⟩ := b1.six
    simp only [zeroN] at q0 q1 q2 q3 q4 q5
    by_cases hlt : k < l.length
    · obtain ⟨b, o, rfl, hb, hcl⟩ := HA.out (by omega)
      obtain ⟨c0, c1, c2, c3, c4, c5⟩ := hcl k hlt
      clear hcl
      obtain ⟨ae, ne, hye, _⟩ := HE.out _ (List.getElem_mem hlt)
      have hat : (l[k].ino == n) = true → getN l n = l[k] ∧ hasN l n = true := fun h => getN_at hlt HT.out (by simpa using h)
      have hnx : (l[k].ino == n) = false → (l.take (k + 1)).any (fun e => e.ino == n) = false := anyN_next hlt HT.out
      generalize l[k] = y at *
      have HAT := Lib.hid hat
      have HNX := Lib.hid hnx
      clear hat hnx HT
      obtain ⟨yi, yk, yl, yd, yp, ye, yn⟩ := y
      dsimp only at hye c0 c1 c2 c3 c4 c5
      subst hye
      cases he : (yi == n)
      · have HT2 := Lib.hid (HNX.out he)
        clear HAT HNX b0 b1
        go_wp2
        go_roundw
        case rel => exact ⟨k + 1, by omega, by go_num, HT2.out, trivial⟩
        case measure => simp [intOf]; omega
      · have HG := Lib.hid (HAT.out he)
        clear HAT HNX
        obtain ⟨W', hW', hb4, hg4⟩ := b1.put6 ⟨yi, yk, yl, yd, yp, .slice ae yn.length ne, yn⟩
        have hbl := below_grown hB0 hg4 (Nat.le_refl _) (by omega)
        dsimp only at hW'
        clear b0 b1 p0 p1 p2
        go_wp2
        obtain ⟨⟨r0, r1, r2, r3, r4, r5⟩, _⟩ := hb4.six
        refine bodyPost_ret (v := .tuple #[.agg (ndC ⟨yi, yk, yl, yd, yp, .slice ae yn.length ne, yn⟩), .bool true]) (by simp [results, Try.f21, go_sem, r0, r1, r2, r3, r4, r5]) rfl ?_
        exact ⟨by rw [HG.out.1, HG.out.2], hbl⟩
    · obtain rfl : k = l.length := by omega
      have hno : hasN l n = false := by have := HT.out; rwa [List.take_length] at this
      have HG := Lib.hid (show _ ∧ _ from ⟨hno, getN_none hno⟩)
      obtain ⟨W', hW', hb4, hg4⟩ := b1.put6 zeroN
      have hbl := below_grown hB0 hg4 (Nat.le_refl _) (by omega)
      simp only [zeroN] at hW'
      clear b0 b1 p0 p1 p2 HT hno
      go_wp2
      obtain ⟨⟨r0, r1, r2, r3, r4, r5⟩, _⟩ := hb4.six
      refine bodyPost_ret (v := .tuple #[.agg (ndC zeroN), .bool false]) (by simp [results, Try.f21, go_sem, r0, r1, r2, r3, r4, r5, zeroN]) rfl ?_
      exact ⟨by rw [HG.out.1, HG.out.2], hbl⟩

set_option maxHeartbeats 4000000 in
theorem fewT_any (mi mb nx : Int) (l : List Nd) (v : Value) (w : World) (hv : Nds w v l) :
    Calls Try.prog 16 #[.agg (fsC mi mb nx v)] w fun e w' => e = .returned (.bool (fewN l)) ∧ Below w.heap.size w w' := by
  obtain ⟨a, ca, rfl, hc, hm, _, hna, HA0⟩ := id hv
  unfold maxLen at hm
  have HA := Lib.hid HA0
  have HV := Lib.hid hv
  clear HA0 hv
  have b0 := Blk.new w 24 (fsC mi mb nx (.slice a l.length ca))
  have hB0 : Below w.heap.size w (w.alloc (.cells (fsC mi mb nx (.slice a l.length ca)) 24)) := (Below.refl _ w).alloc (Nat.le_refl _) _
  go_enter Try.func16, Try.ntmps16
  go_wp2
  go_loopg [3] 100 (fun g s3 wr => ∃ k : Nat, k + g = 100 ∧ s3 = .int .i64 k ∧ Aside (∀ j (hj : j < l.length), j < k → fewX l[j] = true) ∧ Below w.heap.size w wr ∧ Aside (Blk wr w.heap.size 24 (fsC mi mb nx (.slice a l.length ca))))
  case atStart => exact ⟨0, by omega, rfl, fun j hj h => absurd h (by omega), hB0, b0⟩
  case round =>
    clear b0 hB0
    obtain ⟨k, hkg, rfl, HT, hbw, HB⟩ := hrel
    have p3 := HB.out.four.1.2.2.2
    by_cases hlt : k < l.length
    · by_cases h100 : k < 100
      · obtain ⟨G, rfl⟩ : ∃ G, gk = G + 1 := ⟨gk - 1, by omega⟩
        obtain ⟨b, o, rfl, hb, hcl⟩ := HA.out (by omega)
        obtain ⟨c0, c1, c2, c3, c4, c5⟩ := (hcl k hlt).below hbw hb
        clear hcl
        have hE := (HV.out.below hbw).all _ (List.getElem_mem hlt)
        have hno : fewX l[k] = false → fewN l = false := fewN_no hlt
        have hye : fewX l[k] = true → ∀ j (hj : j < l.length), j < k + 1 → fewX l[j] = true := fun h j hj h' => by
          rcases Nat.lt_or_ge j k with h2 | h2
          · exact HT.out j hj h2
          · obtain rfl : j = k := by omega
            exact h
        generalize l[k] = y at *
        have HNO := Lib.hid hno
        have HYE := Lib.hid hye
        clear hno hye HT
        obtain ⟨yi, yk, yl, yd, yp, ye, yn⟩ := y
        dsimp only at hE c0 c1 c2 c3 c4 c5
        obtain ⟨ae, ne, rfl, hE1, hE2, hE3⟩ := hE
        have HE := Lib.hid hE3
        clear hE3
        have hbx : Below w.heap.size w (wr.alloc (.cells (ndC ⟨yi, yk, yl, yd, yp, .slice ae yn.length ne, yn⟩) 33)) := hbw.alloc hbw.size _
        have hbr : Below wr.heap.size wr (wr.alloc (.cells (ndC ⟨yi, yk, yl, yd, yp, .slice ae yn.length ne, yn⟩) 33)) := (Below.refl _ wr).alloc (Nat.le_refl _) _
        have HB2 := Lib.hid (HB.out.alloc (.cells (ndC ⟨yi, yk, yl, yd, yp, .slice ae yn.length ne, yn⟩) 33))
        by_cases h1 : yd.length ≤ 5000
        · by_cases h2 : yn.length ≤ 40
          · unfold maxLen at hE2
            go_wp2
            go_loop [5] (fun s5 => ∃ m : Nat, m ≤ yn.length ∧ s5 = .int .i64 m ∧ Aside (∀ i (hi : i < yn.length), i < m → yn[i].1.length ≤ 300)) (fun s5 => yn.length - (intOf s5).toNat)
            case atStart => exact ⟨0, Nat.zero_le _, rfl, fun i hi h => absurd h (by omega)⟩
            case round =>
              obtain ⟨m, hm2, rfl, HM⟩ := hrel
              by_cases hmlt : m < yn.length
              · obtain ⟨be, oe, rfl, hbe, hce⟩ := HE.out (by omega)
                have d0 : (wr.alloc (.cells (ndC ⟨yi, yk, yl, yd, yp, .slice (some ⟨be, oe, none⟩) yn.length ne, yn⟩) 33)).cell? ⟨be, oe + m * 2, none⟩ = some (.string ⟨yn[m].1.toArray⟩) := (hbr.cell (p := ⟨be, oe + m * 2, none⟩) hbe).trans (hce m hmlt).1
                have d00 : wr.cell? ⟨be, oe + m * 2, none⟩ = some (.string ⟨yn[m].1.toArray⟩) := (hce m hmlt).1
                clear hce
                by_cases h3 : yn[m].1.length ≤ 300
                · have HM2 : Hid (∀ i (hi : i < yn.length), i < m + 1 → yn[i].1.length ≤ 300) := by
                    intro i hi h
                    rcases Nat.lt_or_ge i m with h' | h'
                    · exact HM.out i hi h'
                    · obtain rfl : i = m := by omega
                      exact h3
                  go_wp2
                  go_round
                  case rel => exact ⟨m + 1, by omega, by go_num, HM2.out⟩
                  case measure => simp [intOf]; omega
                · have HN := Lib.hid (HNO.out (fewX_no3 (x := ⟨yi, yk, yl, yd, yp, .slice (some ⟨be, oe, none⟩) yn.length ne, yn⟩) hmlt h3))
                  go_wp2
                  go_ret
                  exact ⟨ret_bool (by rw [HN.out]), hbx⟩
              · have HT2 := Lib.hid (HYE.out (fewX_yes (x := ⟨yi, yk, yl, yd, yp, .slice ae yn.length ne, yn⟩) h1 h2 (fun i hi => HM.out i hi (Nat.lt_of_lt_of_le hi (Nat.le_of_not_lt hmlt)))))
                clear HM HNO HYE
                go_wp2
                go_roundg G
                case measure => omega
                case rel => exact ⟨k + 1, by omega, by go_num, HT2.out, hbx, HB2.out⟩
          · have HN := Lib.hid (HNO.out (fewX_no2 (x := ⟨yi, yk, yl, yd, yp, .slice ae yn.length ne, yn⟩) h2))
            clear HNO HYE
            go_wp2
            go_ret
            exact ⟨ret_bool (by rw [HN.out]), hbx⟩
        · have HN := Lib.hid (HNO.out (fewX_no1 (x := ⟨yi, yk, yl, yd, yp, .slice ae yn.length ne, yn⟩) h1))
          clear HNO HYE
          go_wp2
          go_ret
          exact ⟨ret_bool (by rw [HN.out]), hbx⟩
      · have HN := Lib.hid (fewN_end HT.out (fun h => h100 h.2))
        go_wp2
        go_ret
        exact ⟨ret_bool (by rw [HN.out]; simp; omega), hbw⟩
    · have HN := Lib.hid (fewN_end HT.out (fun h => hlt h.1))
      go_wp2
      go_ret
      exact ⟨ret_bool (by rw [HN.out]; simp; omega), hbw⟩
theorem get_ents {w : World} {l : List Nd} (h : EntsAll w l) (n : Int) : Ents w (getN l n).ev (getN l n).ents := by
  unfold getN
  cases he : l.find? (fun e => e.ino == n) with
  | none => exact Ents.nil_ w
  | some x => exact h x (List.mem_of_find?_eq_some he)
end Go.Proofs.Ytpeghnhaekebdaa
