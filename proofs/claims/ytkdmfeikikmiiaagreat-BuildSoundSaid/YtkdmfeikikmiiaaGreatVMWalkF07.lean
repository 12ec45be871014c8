/- Texts put together: WalkE07, Cls15, WalkC15, WalkF07. -/
import Derived.Test.YtkdmfeikikmiiaaGreatVMWalkD07
import Derived.Test.YtkdmfeikikmiiaaGreatVWalkE05
import Derived.Test.YtkdmfeikikmiiaaGreatVMWalkH05
import Derived.Deep.LoopGhost
import Derived.Test.YtkdmfeikikmiiaaGreatVMWalkB03
set_option linter.unusedVariables false
set_option linter.unusedSimpArgs false
namespace Go.Proofs.YtkdmfeikikmiiaaGreat
open Go.RowKit
theorem infoI : (Tryz.prog.info? 3).map (fun i => (i.zero, i.size, i.bytes)) = some (some (.int .i64 0), 1, 8) := by kernel_rfl
def intsV (l : List Int) : List Value := l.map (.int .i64 ·)
theorem intsV_at {l : List Int} {i : Nat} (h : i < l.length) : (intsV l)[i]? = some (.int .i64 l[i]) := by simp [intsV, h]
theorem own_int {w : World} {base : Nat} {e : TypeId} {g cap : Nat} {n : Nat} {l : List Int} (h : w.ownsRow base e 1 (.slice (some ⟨g, 0, none⟩) n cap) n (intsV l)) (hn : n = l.length) {i : Nat} (hi : i < l.length) : w.cell? ⟨g, i, none⟩ = some (.int .i64 l[i]) := by
  rw [h.cellAt i (by omega), intsV_at hi]
theorem see_bound {l : List Nd} (h3 : thirdB l = true) (h1 : hasN l 1 = true) (k m : Nat) (i : Int) : (seeB (bfsN l k) ((getN l i).ents.take m)).length ≤ l.length := by
  have hh : ∀ z ∈ seeB (bfsN l k) ((getN l i).ents.take m), hasN l z = true :=
    see_has _ _ (fun i => hasN l i = true) (bfs_has h3 h1 k) (fun e he => get_ents_has h3 i e (List.mem_of_mem_take he))
  have := len_sub _ _ (see_nodup _ ((getN l i).ents.take m) (bfs_nodup l k)) (fun z hz => has_inos (hh z hz))
  simpa using this
theorem fifth_end {l : List Nd} (h3 : thirdB l = true) (h1 : hasN l 1 = true) {k : Nat} (h : (bfsN l k).length ≤ k) (hk : k ≤ l.length + 1) : fifthB l = decide ((bfsN l k).length = l.length) := by
  unfold fifthB; rw [bfs_end h3 h1 h hk]
theorem hasT_next {s : List Int} {j : Nat} {z : Int} (h : j < s.length) : (s.take (j + 1)).contains z = ((s.take j).contains z || (s[j] == z)) := by
  rw [List.take_succ_eq_append_getElem h]
  simp only [List.contains_eq_mem, List.mem_append, List.mem_singleton, Bool.decide_or]
  congr 1
  by_cases e : z = s[j]
  · rw [decide_eq_true e]; simp [e]
  · rw [decide_eq_false e]
    have : (s[j] == z) = false := by simpa using fun h : s[j] = z => e h.symm
    rw [this]
theorem own_ne {w : World} {base : Nat} {e t : TypeId} {size g cap n : Nat} {xs : List Value} {B : Nat} {cs : Array Value} (h : w.ownsRow base e size (.slice (some ⟨g, 0, none⟩) n cap) n xs) (hb : Blk w B t cs) (hne : e ≠ t) : g ≠ B := by
  intro hgb
  subst hgb
  rcases h.2 with ⟨h', _⟩ | ⟨g', cap', cur, h', _, hg, _⟩
  · simp at h'
  · simp only [Value.slice.injEq, Option.some.injEq, Addr.mk.injEq, and_true, true_and] at h'
    obtain ⟨rfl, _⟩ := h'
    have := hg.symm.trans hb
    simp at this
    exact hne this.2
theorem cast_beq (a b : Nat) : (((a : Nat) : Int) == ((b : Nat) : Int)) = decide (a = b) := by
  rw [Bool.eq_iff_iff]; simp; omega
set_option maxHeartbeats 8000000 in
set_option maxRecDepth 100000 in
theorem refFifth_any (mi mb nx : Int) (l : List Nd) (v : Value) (w : World) (hv : Nds w v l) (hl : l.length ≤ 1000000) (h3 : thirdB l = true) (h1 : hasN l 1 = true) :
    Calls Tryz.prog 24 #[.agg (fsC mi mb nx v)] w fun e w' => e = .returned (.bool (fifthB l)) ∧ Below w.heap.size w w' := by
  obtain ⟨i0, hi, hz0, hz1, hz2⟩ := info_parts infoI
  obtain ⟨a, ca, rfl, hc, hm, _, hna, _⟩ := id hv
  unfold maxLen at hm
  have HV := Lib.hid hv
  have HB3 := Lib.hid (show ∀ k, (bfsN l k).length ≤ l.length from bfs_len h3 h1)
  have HSB := Lib.hid (see_bound h3 h1)
  have HFE := Lib.hid (fun k => fifth_end (l := l) h3 h1 (k := k))
  clear hv h3 h1
  have b0 := (Blk.new w 28 (fsC mi mb nx (.slice a l.length ca))).alloc (.cells #[.int .i64 1] 3)
  have hB0 : Below w.heap.size w ((w.alloc (.cells (fsC mi mb nx (.slice a l.length ca)) 28)).alloc (.cells #[.int .i64 1] 3)) := ((Below.refl _ w).alloc (Nat.le_refl _) _).alloc (by simp) _
  have own0 : ((w.alloc (.cells (fsC mi mb nx (.slice a l.length ca)) 28)).alloc (.cells #[.int .i64 1] 3)).ownsRow (w.heap.size + 1) 3 1 (.slice (some ⟨(w.alloc (.cells (fsC mi mb nx (.slice a l.length ca)) 28)).heap.size, 0, none⟩) 1 1) 1 (intsV [1]) := World.ownsRow_lit _ #[.int .i64 1] 1 (by simp) (by decide) rfl
  simp only [World.size_alloc] at own0
  go_enter Tryz.func24, Tryz.ntmps24
  go_wp2
  go_loopw [3, 4] (fun s3 s4 wr => ∃ k : Nat, s4 = .int .i64 k ∧ k ≤ (bfsN l k).length ∧ Below w.heap.size w wr ∧ Aside (Blk wr w.heap.size 28 (fsC mi mb nx (.slice a l.length ca))) ∧ Aside (wr.ownsRow (w.heap.size + 1) 3 1 s3 (bfsN l k).length (intsV (bfsN l k)))) (fun _ s4 _ => l.length + 1 - (intOf s4).toNat)
  case atStart => exact ⟨0, rfl, Nat.zero_le _, hB0, b0, own0⟩
  case round =>
    clear b0 hB0 own0
    obtain ⟨k, rfl, hk, hbw, HB, HO⟩ := hrel
    have hkl := HB3.out k
    obtain ⟨a3, c3, rfl⟩ := own_slice HO.out
    obtain ⟨⟨p0, p1, p2, p3⟩, _⟩ := HB.out.four
    by_cases hlt : k < (bfsN l k).length
    · have hnx := bfs_next hlt
      have hsb := HSB.out k
      have hBlt := HB.out.lt
      obtain ⟨g, rfl⟩ : ∃ g, a3 = some ⟨g, 0, none⟩ := by
        rcases own_cases HO.out with ⟨_, h0, _⟩ | ⟨g, cap, h, _⟩
        · omega
        · simp only [Value.slice.injEq] at h; exact ⟨g, h.1⟩
      have hgb := (HO.out.lt g rfl).1
      generalize hS0 : bfsN l k = S0 at *
      have HS0 := Lib.hid hS0
      clear hS0
      have d0 := own_int HO.out rfl hlt
      generalize S0[k] = z at *
      have hsz := hsb 
      have k0 : (0 : Int) ≤ (k : Int) := by omega
      have k1 : (k : Int) < (S0.length : Int) := by omega
      have hEG := get_ents HV.out.all z
      obtain ⟨ag, ng, cg, hgs⟩ := get_slice HV.out z
      have hdr : Below wr.heap.size wr wr.drew := (Below.refl _ _).drew
      have hdr2 : Below wr.heap.size wr (wr.alloc (.cells #[.int .i64 0, .int .i64 0, .int .i64 0, .string ⟨#[]⟩, .int .i64 0, .slice none 0 0] 49)).drew := (alloc_below wr _).drew
      have hGc : ∀ W, Below wr.heap.size wr W → Calls Tryz.prog 47 #[.agg (fsC mi mb nx (.slice a l.length ca)), .int .i64 z] W fun e w' => e = .returned (.tuple #[.agg (ndC (getN l z)), .bool (hasN l z)]) ∧ Below W.heap.size W w' :=
        fun W hW => refGetT_any mi mb nx z l _ _ (HV.out.below (hbw.trans (hW.mono hbw.size)))
      have HMK : ∀ W, Below wr.heap.size wr W → (W.cell? ⟨w.heap.size, 0, none⟩ = some (.int .i64 mi) ∧ W.cell? ⟨w.heap.size, 1, none⟩ = some (.int .i64 mb) ∧ W.cell? ⟨w.heap.size, 2, none⟩ = some (.int .i64 nx) ∧ W.cell? ⟨w.heap.size, 3, none⟩ = some (.slice a l.length ca) ∧ W.cell? ⟨g, k, none⟩ = some (.int .i64 z)) := by
        intro W h
        obtain ⟨⟨x0, x1, x2, x3⟩, _⟩ := (HB.out.next h).four
        exact ⟨x0, x1, x2, x3, (h.cell (p := ⟨g, k, none⟩) (HO.out.lt g rfl).2).trans d0⟩
      have hsb2 := fun m => hsb m z
      clear hsb hsz
      generalize getN l z = G at *
      obtain ⟨gi, gk, gl, gd, gp, ge, gn⟩ := G
      dsimp only at hgs hEG hsb2 hnx
      subst hgs
      have HEG := Lib.hid hEG
      have HSB2 := Lib.hid hsb2
      have HNX := Lib.hid hnx
      clear hEG hsb2 hnx
      generalize hasN l z = r at *
      have hG1 := hGc _ hdr
      have hG2 := hGc _ hdr2
      have hG3 := hGc (wr.drew.alloc (.cells #[.int .i64 0, .int .i64 0, .int .i64 0, .string ⟨#[]⟩, .int .i64 0, .slice none 0 0] 49)) (hdr.alloc hdr.size _)
      have hq := hdr
      go_upto_region 5 with fail
      go_cut [5, 6] from 17 to 25 (fun s5 s6 wc => ∃ BX, s5 = .pointer (some ⟨BX, 0, none⟩) ∧ Below wr.heap.size wr wc ∧ Aside (Blk wc BX 49 (ndC ⟨gi, gk, gl, gd, gp, .slice ag ng cg, gn⟩) ∧ wr.heap.size ≤ BX))
      case first =>
        clear p0 p1 p2 p3 d0
        go_region_held3 (fun W => W.cell? ⟨w.heap.size, 0, none⟩ = some (.int .i64 mi) ∧ W.cell? ⟨w.heap.size, 1, none⟩ = some (.int .i64 mb) ∧ W.cell? ⟨w.heap.size, 2, none⟩ = some (.int .i64 nx) ∧ W.cell? ⟨w.heap.size, 3, none⟩ = some (.slice a l.length ca) ∧ W.cell? ⟨g, k, none⟩ = some (.int .i64 z))
          (first | with_reducible exact HMK _ hq | with_reducible exact HMK _ (hq.alloc hq.size _) | with_reducible exact HMK _ hdr2 | with_reducible exact HMK _ (below_grown hq hgW (Nat.le_refl _) (Nat.le_refl _)))
          (first
            | (go_at_call 47; with_reducible refine hG1.mono ?_; rintro e w6 ⟨rfl, b6⟩; have hq := hq.trans (b6.mono hq.size))
            | (go_at_call 47; (first | with_reducible refine hG3.mono ?_ | with_reducible refine hG2.mono ?_); rintro e w6 ⟨rfl, b6⟩; have hbx : Blk w6 wr.heap.size 49 (ndC zeroN) := Blk.next (W := wr.drew.alloc (.cells #[.int .i64 0, .int .i64 0, .int .i64 0, .string ⟨#[]⟩, .int .i64 0, .slice none 0 0] 49)) (Blk.new wr.drew 49 (ndC zeroN)) b6; have hq := (hq.alloc hq.size (.cells #[.int .i64 0, .int .i64 0, .int .i64 0, .string ⟨#[]⟩, .int .i64 0, .slice none 0 0] 49)).trans (b6.mono (hq.alloc hq.size (.cells #[.int .i64 0, .int .i64 0, .int .i64 0, .string ⟨#[]⟩, .int .i64 0, .slice none 0 0] 49)).size); obtain ⟨⟨x0, x1, x2, x3, x4, x5⟩, f0, f1, f2, f3, f4, f5⟩ := hbx.six; simp only [zeroN] at x0 x1 x2 x3 x4 x5; obtain ⟨W', hW', hbW, hgW⟩ := hbx.put6 ⟨gi, gk, gl, gd, gp, .slice ag ng cg, gn⟩; dsimp only at hW'))
        all_goals (go_wp2_with fail; go_meet)
        all_goals first
          | exact ⟨_, rfl, hq.alloc hq.size _, Blk.new w6 49 (ndC ⟨gi, gk, gl, gd, gp, .slice ag ng cg, gn⟩), hq.size⟩
          | exact ⟨_, rfl, below_grown hq hgW (Nat.le_refl _) (Nat.le_refl _), hbW, Nat.le_refl _⟩
      case rest =>
        obtain ⟨BX, rfl, hbc, HX⟩ := hcut
        have hbt := hbw.trans (hbc.mono hbw.size)
        have HB2 := Lib.hid (HB.out.next hbc)
        have HO2 := Lib.hid (own_keep HO.out hbc)
        obtain ⟨ag2, cg2, hgs, hE1, hE2, hE3⟩ := HEG.out
        simp only [Value.slice.injEq] at hgs
        obtain ⟨rfl, rfl, rfl⟩ := hgs
        unfold maxLen at hE2
        have HE := Lib.hid hE3
        have hsz := hbt.size
        have HXB := Lib.hid (show w.heap.size + 1 ≤ wr.heap.size from hBlt)
        clear hdr hdr2 hGc HMK hG1 hG2 hG3 hq hE3 HB HO hBlt d0 p0 p1 p2 p3
        have hlt1 : 1 ≤ S0.length := by omega
        go_wp2
        go_loopw [3, 7] (fun s3 s7 wr => ∃ m : Nat, m ≤ gn.length ∧ s7 = .int .i64 m ∧ Below w.heap.size w wr ∧ Aside (Blk wr w.heap.size 28 (fsC mi mb nx (.slice a l.length ca))) ∧ Aside (Blk wr BX 49 (ndC ⟨gi, gk, gl, gd, gp, .slice ag gn.length cg, gn⟩)) ∧ Aside (wr.ownsRow (w.heap.size + 1) 3 1 s3 (seeB S0 (gn.take m)).length (intsV (seeB S0 (gn.take m))))) (fun _ s7 _ => gn.length - (intOf s7).toNat)
        case atStart => exact ⟨0, Nat.zero_le _, rfl, hbt, HB2.out, HX.out.1, by (show World.ownsRow _ _ _ _ _ _ _); rw [List.take_zero]; exact HO2.out⟩
        case round =>
          clear hbt HB2 HX HO2 hsz hbw hbc hgb HXB
          obtain ⟨m, hm2, rfl, hb2, F2, X2, O2⟩ := hrel
          obtain ⟨a3, c4, rfl⟩ := own_slice O2.out
          have hSb := HSB2.out m
          have hS1 : 1 ≤ (seeB S0 (gn.take m)).length := Nat.le_trans hlt1 (see_len _ _)
          obtain ⟨g2, rfl⟩ : ∃ g, a3 = some ⟨g, 0, none⟩ := by
            rcases own_cases O2.out with ⟨_, h0, _⟩ | ⟨g, cap, h, _⟩
            · omega
            · simp only [Value.slice.injEq] at h; exact ⟨g, h.1⟩
          have x5 := X2.out.six.1.2.2.2.2.2
          dsimp only at x5
          by_cases hmlt : m < gn.length
          · obtain ⟨be, oe, rfl, hbe, hce⟩ := HE.out (by omega)
            have d1 := (hb2.cell (p := ⟨be, oe + m * 2 + 1, none⟩) hbe).trans (hce m hmlt).2
            clear hce
            have hsn := see_next S0 hmlt
            have hSb2 := HSB2.out (m + 1)
            generalize gn[m].2 = z2 at *
            generalize hS : seeB S0 (gn.take m) = S at *
            have HS := Lib.hid hS
            have HSN := Lib.hid hsn
            clear hS hsn hSb2
            have hne := own_ne O2.out X2.out (by decide)
            have m0 : (0 : Int) ≤ (m : Int) := by omega
            have m1 : (m : Int) < (gn.length : Int) := by omega
            have hg2 := (O2.out.lt g2 rfl).1
            have hbe2 : be < wr.heap.size := Nat.lt_of_lt_of_le hbe hb2.size
            have D1 := Lib.hid d1
            clear d1
            go_wp2
            go_loopw [8, 9] (fun s8 s9 wq => ∃ j : Nat, j ≤ S.length ∧ s9 = .int .i64 j ∧ s8 = .bool ((S.take j).contains z2) ∧ Below wr.heap.size wr wq) (fun _ s9 _ => S.length - (intOf s9).toNat)
            case atStart => exact ⟨0, Nat.zero_le _, rfl, rfl, Below.refl _ _⟩
            case round =>
              obtain ⟨j, hj, rfl, rfl, hbq⟩ := hrel
              clear x5
              have X3 := X2.out.next hbq
              have O3 := own_keep O2.out hbq
              have x5 := X3.six.1.2.2.2.2.2
              dsimp only at x5
              have d2 := (hbq.cell (p := ⟨be, oe + m * 2 + 1, none⟩) hbe2).trans D1.out
              have HX3 := Lib.hid X3
              have HO3 := Lib.hid O3
              clear X3 O3
              by_cases hjlt : j < S.length
              · have e1 := own_int HO3.out rfl hjlt
                have hnx := hasT_next (z := z2) hjlt
                generalize S[j] = u at *
                have j0 : (0 : Int) ≤ (j : Int) := by omega
                have j1 : (j : Int) < (S.length : Int) := by omega
                cases ho : (S.take j).contains z2
                · cases he : (u == z2)
                  · rw [ho, he] at hnx
                    have HN := Lib.hid hnx
                    clear hnx ho
                    go_wp2
                    go_quiet (fail)
                    go_wp2
                    go_roundw
                    case rel => exact ⟨j + 1, by omega, by go_num, by rw [HN.out]; rfl, below_drewN hbq _⟩
                    case measure => simp [intOf]; omega
                  · rw [ho, he] at hnx
                    have HN := Lib.hid hnx
                    clear hnx ho
                    go_wp2
                    go_quiet (fail)
                    go_wp2
                    go_roundw
                    case rel => exact ⟨j + 1, by omega, by go_num, by rw [HN.out]; rfl, below_drewN hbq _⟩
                    case measure => simp [intOf]; omega
                · rw [ho] at hnx
                  have HN := Lib.hid hnx
                  clear hnx ho
                  go_wp2
                  go_quiet (fail)
                  go_wp2
                  go_roundw
                  case rel => exact ⟨j + 1, by omega, by go_num, by rw [HN.out]; rfl, below_drewN hbq _⟩
                  case measure => simp [intOf]; omega
              · obtain rfl : j = S.length := by omega
                rw [List.take_length]
                have hbw3 := hb2.trans (hbq.mono hb2.size)
                have F3 := Lib.hid (F2.out.next hbq)
                cases ho : S.contains z2
                · have hsn := HSN.out
                  rw [ho, if_neg (by simp)] at hsn
                  have HN := Lib.hid hsn
                  have hsz3 : w.heap.size + 1 ≤ wr.heap.size := F3.out.lt
                  clear hsn ho
                  go_wp2_with (at_builtin; refine wpList_append_near rfl (.tmp 55) (.tmp 62) 33 3 rfl Tryz.underlying33 hi hz0 hz1 hz2 rfl (by decide) (by decide) (w.heap.size + 1) #[.int .i64 z2] 1 rfl rfl HO3.out rfl (by simp [Value.oneCell']) (by omega) hsz3 ?_; intro v5 w5 hown5 hg5)
                  replace hg5 : World.grownBy _ w5 (some g2) := hg5
                  have hBl := below_grown (hbw3.alloc hbw3.size (.cells #[.int .i64 z2] 3)) hg5 (Nat.le_refl _) (by omega)
                  have F5 := (F3.out.alloc (.cells #[.int .i64 z2] 3)).kept hg5 (by simp; omega)
                  have X5 := (HX3.out.alloc (.cells #[.int .i64 z2] 3)).kept hg5 (by simpa using fun h => hne h.symm)
                  have O5 : Hid (w5.ownsRow (w.heap.size + 1) 3 1 v5 (seeB S0 (gn.take (m + 1))).length (intsV (seeB S0 (gn.take (m + 1))))) := by
                    (show World.ownsRow _ _ _ _ _ _ _); rw [HN.out, List.length_append]; simpa [intsV] using hown5
                  clear hown5 hg5
                  go_roundw
                  case rel => exact ⟨m + 1, by omega, by go_num, hBl, F5, X5, O5.out⟩
                  case measure => simp [intOf]; omega
                · have hsn := HSN.out
                  rw [ho, if_pos rfl] at hsn
                  have HN := Lib.hid hsn
                  clear hsn ho
                  go_wp2
                  go_roundw
                  case rel => exact ⟨m + 1, by omega, by go_num, hbw3, F3.out, HX3.out, by (show World.ownsRow _ _ _ _ _ _ _); rw [HN.out]; exact HO3.out⟩
                  case measure => simp [intOf]; omega
          · obtain rfl : m = gn.length := by omega
            rw [List.take_length] at O2 hS1 ⊢
            have hgrow : k + 1 ≤ (bfsN l (k + 1)).length := by rw [HNX.out]; exact Nat.le_trans (by omega) (see_len _ _)
            have HGR := Lib.hid hgrow
            clear hgrow
            go_wp2
            go_roundw
            case rel => exact ⟨k + 1, by go_num, HGR.out, hb2, F2.out, by (show World.ownsRow _ _ _ _ _ _ _); rw [HNX.out]; exact O2.out⟩
            case measure => simp [intOf]; omega
    · have HF := Lib.hid (HFE.out k (by omega) (by omega))
      go_wp2
      go_ret
      exact ⟨ret_bool (by rw [HF.out, cast_beq]), hbw⟩
end Go.Proofs.YtkdmfeikikmiiaaGreat
namespace Go.Proofs.YtkdmfeikikmiiaaGreat
open Go.ChangeShapes Go.WideShapes Go.ChangeAt Go.RowKit
set_option maxRecDepth 100000
abbrev callC (c : CallV) : Array Value := #[.int .i64 c.op, .string ⟨c.a.toArray⟩, .string ⟨c.b.toArray⟩, .string ⟨c.data.toArray⟩]
/-- A call's four cells. -/
def ClAt (w : World) (b o : Nat) (c : CallV) : Prop :=
  w.cell? ⟨b, o, none⟩ = some (.int .i64 c.op) ∧ w.cell? ⟨b, o + 1, none⟩ = some (.string ⟨c.a.toArray⟩) ∧ w.cell? ⟨b, o + 2, none⟩ = some (.string ⟨c.b.toArray⟩) ∧ w.cell? ⟨b, o + 3, none⟩ = some (.string ⟨c.data.toArray⟩)
theorem ClAt.below {w w' : World} {b o n : Nat} {c : CallV} (h : ClAt w b o c) (hb : Below n w w') (hn : b < n) : ClAt w' b o c :=
  ⟨(hb.cell (p := ⟨b, o, none⟩) hn).trans h.1, (hb.cell (p := ⟨b, o + 1, none⟩) hn).trans h.2.1, (hb.cell (p := ⟨b, o + 2, none⟩) hn).trans h.2.2.1, (hb.cell (p := ⟨b, o + 3, none⟩) hn).trans h.2.2.2⟩
/-- A slice that reads as these calls. -/
def Cls (w : World) (v : Value) (l : List CallV) : Prop :=
  ∃ a cap, v = .slice a l.length cap ∧ l.length ≤ cap ∧ cap ≤ maxLen ∧ (∀ c ∈ l, c.a.length ≤ maxLen ∧ c.b.length ≤ maxLen ∧ c.data.length ≤ maxLen) ∧ (a = none → cap = 0) ∧ (0 < l.length → ∃ b off, a = some ⟨b, off, none⟩ ∧ b < w.heap.size ∧ ∀ i (h : i < l.length), ClAt w b (off + i * 4) l[i])
theorem Cls.below {w w' : World} {v : Value} {l : List CallV} (h : Cls w v l) (hb : Below w.heap.size w w') : Cls w' v l := by
  obtain ⟨a, cap, rfl, hc, hm, he, h0, h1⟩ := h
  refine ⟨a, cap, rfl, hc, hm, he, h0, fun hl => ?_⟩
  obtain ⟨b, off, rfl, hlt, hx⟩ := h1 hl
  exact ⟨b, off, rfl, Nat.lt_of_lt_of_le hlt hb.size, fun i hi => (hx i hi).below hb hlt⟩
theorem Cls.nil_ (w : World) : Cls w (.slice none 0 0) [] := ⟨none, 0, rfl, Nat.zero_le _, Nat.zero_le _, fun c h => (nomatch h), fun _ => rfl, fun h => absurd h (by simp)⟩
theorem cls_slice {w : World} {v : Value} {l : List CallV} (h : Cls w v l) : ∃ a c, v = .slice a l.length c := by obtain ⟨a, c, h, _⟩ := h; exact ⟨a, c, h⟩
theorem size_call : Tryz.prog.cellsOf 44 = 4 := by kernel_rfl
theorem list4 {α : Type} {cs : List α} (h : cs.length = 4) : ∃ c0 c1 c2 c3, cs = [c0, c1, c2, c3] := by
  match cs, h with
  | [c0, c1, c2, c3], _ => exact ⟨c0, c1, c2, c3, rfl⟩
/-- A call, as its four cells read. -/
theorem call_of_cells {H : Type} {enc : TypeId × Value → H} {W : World} {fuel : Nat} {cs : List Value} {y : DataW H × List MemPlace}
    (hf : DataW.trod enc Tryz.prog W 0 (fun _ => true) true fuel 44 cs = some y) : ∃ c : CallV, cs = (callC c).toList ∧ c.a.length ≤ maxLen ∧ c.b.length ≤ maxLen ∧ c.data.length ≤ maxLen := by
  obtain ⟨xs, n, _, rfl, hl, hlen, hx⟩ := DataW.trod_struct Tryz.underlying44 hf
  obtain ⟨c0, c1, c2, c3, rfl⟩ := list4 (hl.trans size_call)
  obtain ⟨y0, y1, y2, y3, rfl⟩ := list4 hlen
  have g0 := hx 0 _ rfl
  have g1 := hx 1 _ rfl
  have g2 := hx 2 _ rfl
  have g3 := hx 3 _ rfl
  simp [size_int, size_str] at g0 g1 g2 g3
  obtain ⟨z0, e0, _, _⟩ := DataW.trod_int Tryz.underlying3 g0
  obtain ⟨s1, e1, _, m1⟩ := DataW.trod_string Tryz.underlying9 g1
  obtain ⟨s2, e2, _, m2⟩ := DataW.trod_string Tryz.underlying9 g2
  obtain ⟨s3, e3, _, m3⟩ := DataW.trod_string Tryz.underlying9 g3
  simp only [List.cons.injEq, and_true] at e0 e1 e2 e3
  subst e0 e1 e2 e3
  exact ⟨⟨z0, s1.data.toList, s2.data.toList, s3.data.toList⟩, by simp [callC], by simpa using m1, by simpa using m2, by simpa using m3⟩
instance : Inhabited CallV := ⟨⟨0, [], [], []⟩⟩
theorem cls_of_cell {H : Type} {enc : TypeId × Value → H} {W : World} {fuel : Nat} {cs : List Value} {y : DataW H × List MemPlace}
    (hf : DataW.trod enc Tryz.prog W 0 (fun _ => true) true fuel 23 cs = some y) : ∃ v l, cs = [v] ∧ Cls W v l := by
  rcases Deep.open_slice Tryz.underlying23 hf with ⟨hcs, _⟩ | ⟨a, len, cap, m, n, D, Pl, hcs, _, hl, hm, hmm, rfl, hcell⟩
  · exact ⟨_, [], hcs, Cls.nil_ W⟩
  · simp at hmm
    subst hmm
    rw [size_call] at hcell
    obtain ⟨X, hX⟩ := Deep.choose_lt (p := fun i (c : CallV) => (∀ j, j < 4 → W.cell? ((a.add (i * 4)).add j) = (callC c).toList[j]?) ∧ c.a.length ≤ maxLen ∧ c.b.length ≤ maxLen ∧ c.data.length ≤ maxLen) (fun i (hi : i < m) => by
      obtain ⟨cs', h1, h2⟩ := hcell i hi
      obtain ⟨_, _, h3⟩ := World.cells?_some h1
      obtain ⟨c, rfl, hc⟩ := call_of_cells h2
      exact ⟨c, h3, hc⟩)
    have hn : ((List.range len).map X).length = len := by simp
    refine ⟨_, (List.range len).map X, hcs, some a, m, by simp, by simpa using hl, hm, ?_, (fun h => by cases h), fun h => ?_⟩
    · intro c hc
      obtain ⟨i, hi, rfl⟩ := List.mem_map.1 hc
      exact (hX i (by have := List.mem_range.1 hi; omega)).2
    · rw [hn] at h
      have c0 := (hX 0 (by omega)).1 0 (by omega)
      obtain ⟨b, off, spot⟩ := a
      have hspot : spot = none := by
        have := World.cell?_spot (c0.trans (rfl : _ = some (Value.int .i64 (X 0).op)))
        simpa [Addr.add] using this
      subst hspot
      refine ⟨b, off, rfl, ?_, fun i hi => ?_⟩
      · have := World.block_lt_of_cell? W _ (c0.trans (rfl : _ = some (Value.int .i64 (X 0).op)))
        simpa [Addr.add] using this
      · rw [hn] at hi
        have hc := (hX i (by omega)).1
        simp only [Addr.add_lit] at hc
        simp only [List.getElem_map, List.getElem_range]
        exact ⟨(hc 0 (by omega)).trans rfl, (hc 1 (by omega)).trans rfl, (hc 2 (by omega)).trans rfl, (hc 3 (by omega)).trans rfl⟩
theorem cls_of_trod {H : Type} {enc : TypeId × Value → H} {W : World} {v : Value} {d : DataW H} {p : List MemPlace}
    (k : DataW.Trod enc Tryz.prog W 0 (fun _ => true) true 23 v d p) (ok : ∃ base, Value.okWide Tryz.prog W .any base 23 v) : ∃ l, Cls W v l := by
  obtain ⟨base, ok⟩ := ok
  obtain ⟨a0, len, cap, rfl⟩ := okWide_slice Tryz.underlying23 ok
  obtain ⟨fuel, hf⟩ := k
  obtain ⟨v, l, e, h1⟩ := cls_of_cell hf
  simp [Value.cells] at e
  subst e
  exact ⟨l, h1⟩
theorem Cls.tail {w : World} {b off cap : Nat} {l : List CallV} (h : Cls w (.slice (some ⟨b, off, none⟩) l.length cap) l) {n : Nat} (hn : n ≤ l.length) : Cls w (.slice (some ⟨b, off + n * 4, none⟩) (l.length - n) (cap - n)) (l.drop n) := by
  obtain ⟨a', cap', e, hc, hm, he, h0, h1⟩ := h
  simp only [Value.slice.injEq] at e
  obtain ⟨rfl, _, rfl⟩ := e
  refine ⟨_, _, by rw [List.length_drop], by rw [List.length_drop]; omega, by omega, fun c hc => he c (List.mem_of_mem_drop hc), (fun h => by cases h), fun hp => ?_⟩
  rw [List.length_drop] at hp
  obtain ⟨b', off', e, hlt, hx⟩ := h1 (by omega)
  simp only [Option.some.injEq, Addr.mk.injEq, and_true] at e
  obtain ⟨rfl, rfl⟩ := e
  refine ⟨_, _, rfl, hlt, fun i hi => ?_⟩
  rw [List.length_drop] at hi
  have := hx (n + i) (by omega)
  rw [List.getElem_drop, show off + n * 4 + i * 4 = off + (n + i) * 4 from by omega]
  exact this
end Go.Proofs.YtkdmfeikikmiiaaGreat
namespace Go.Proofs.YtkdmfeikikmiiaaGreat
open Go.RowKit
def shC (c : CallV) : Bool := decide (c.a.length ≤ 300) && decide (c.b.length ≤ 300) && decide (c.data.length ≤ 300)
def fewC (l : List CallV) : Bool := (l.take 100).all shC && decide (l.length ≤ 25)
theorem shC_iff {c : CallV} : shC c = true ↔ c.a.length ≤ 300 ∧ c.b.length ≤ 300 ∧ c.data.length ≤ 300 := by
  simp [shC, and_assoc]
theorem fewC_no {l : List CallV} {k : Nat} (h : k < l.length) (h1 : k < 100) (h2 : ¬ (l[k].a.length ≤ 300 ∧ l[k].b.length ≤ 300 ∧ l[k].data.length ≤ 300)) : fewC l = false := by
  rw [Bool.eq_false_iff]
  intro hb
  simp only [fewC, Bool.and_eq_true, List.all_eq_true] at hb
  have hk : k < (l.take 100).length := by simp; omega
  have := hb.1 (l.take 100)[k] (List.getElem_mem hk)
  rw [shC_iff] at this
  simp only [List.getElem_take] at this
  exact h2 this
theorem fewC_yes {l : List CallV} {k : Nat} (h : ∀ j (hj : j < l.length), j < k → l[j].a.length ≤ 300 ∧ l[j].b.length ≤ 300 ∧ l[j].data.length ≤ 300) (h2 : ¬ (k < l.length ∧ k < 100)) : fewC l = decide (l.length ≤ 25) := by
  unfold fewC
  have : (l.take 100).all shC = true := by
    rw [List.all_eq_true]
    intro s hs
    obtain ⟨j, hj, rfl⟩ := List.getElem_of_mem hs
    have hj2 : j < l.length ∧ j < 100 := by simp at hj; omega
    have := h j hj2.1 (by omega)
    rw [shC_iff]
    simpa using this
  rw [this]; simp
theorem fewC_small {l : List CallV} (h : fewC l = true) : l.length ≤ 25 ∧ ∀ c ∈ l, c.a.length ≤ 300 ∧ c.b.length ≤ 300 ∧ c.data.length ≤ 300 := by
  simp only [fewC, Bool.and_eq_true, List.all_eq_true, decide_eq_true_eq] at h
  refine ⟨h.2, fun x hx => ?_⟩
  rw [List.take_of_length_le (by omega)] at h
  exact shC_iff.1 (h.1 x hx)
set_option maxHeartbeats 2000000 in
theorem fewC_any (l : List CallV) (v : Value) (w : World) (hv : Cls w v l) :
    Calls Tryz.prog 8 #[v] w fun e w' => e = .returned (.bool (fewC l)) ∧ w = w' := by
  obtain ⟨a, ca, rfl, hcc, hcm, _, hcn, HA0⟩ := hv
  unfold maxLen at hcm
  have HA := Lib.hid HA0
  clear HA0
  go_enter Tryz.func8, Tryz.ntmps8
  go_wp2
  go_loop [3] (fun i => ∃ k : Nat, k ≤ 100 ∧ i = .int .i64 k ∧ Aside (∀ j (hj : j < l.length), j < k → l[j].a.length ≤ 300 ∧ l[j].b.length ≤ 300 ∧ l[j].data.length ≤ 300)) (fun i => 100 - (intOf i).toNat)
  case atStart => exact ⟨0, Nat.zero_le _, rfl, fun j hj h => absurd h (by omega)⟩
  case round =>
    obtain ⟨k, hk, rfl, HT⟩ := hrel
    by_cases hlt : k < l.length
    · by_cases h100 : k < 100
      · obtain ⟨b, o, rfl, hb, hc⟩ := HA.out (by omega)
        obtain ⟨c0, c1, c2, c3⟩ := hc k hlt
        clear hc
        by_cases h3 : l[k].a.length ≤ 300
        · by_cases h4 : l[k].b.length ≤ 300
          · by_cases h5 : l[k].data.length ≤ 300
            · have HT2 : Hid (∀ j (hj : j < l.length), j < k + 1 → l[j].a.length ≤ 300 ∧ l[j].b.length ≤ 300 ∧ l[j].data.length ≤ 300) := by
                intro j hj h
                rcases Nat.lt_or_ge j k with h' | h'
                · exact HT.out j hj h'
                · obtain rfl : j = k := by omega
                  exact ⟨h3, h4, h5⟩
              go_wp2
              go_round
              case rel => exact ⟨k + 1, by omega, by go_num, HT2.out⟩
              case measure => simp [intOf]; omega
            · have HN := Lib.hid (fewC_no hlt h100 (fun h => h5 h.2.2))
              go_wp2
              go_ret
              exact ⟨by rw [HN.out]; rfl, rfl⟩
          · have HN := Lib.hid (fewC_no hlt h100 (fun h => h4 h.2.1))
            go_wp2
            go_ret
            exact ⟨by rw [HN.out]; rfl, rfl⟩
        · have HN := Lib.hid (fewC_no hlt h100 (fun h => h3 h.1))
          go_wp2
          go_ret
          exact ⟨by rw [HN.out]; rfl, rfl⟩
      · have HY := Lib.hid (fewC_yes HT.out (fun h => h100 h.2))
        go_wp2
        go_ret
        exact ⟨ret_bool (by rw [HY.out]; simp; omega), rfl⟩
    · have HY := Lib.hid (fewC_yes HT.out (fun h => hlt h.1))
      go_wp2
      go_ret
      exact ⟨ret_bool (by rw [HY.out]; simp; omega), rfl⟩
theorem check1 {mi mb nx : Int} {l : List Nd} (h1 : firstB mi mb nx l = false) : checkN mi mb nx l = 1 := by unfold checkN; rw [if_pos h1]
theorem check2 {mi mb nx : Int} {l : List Nd} (h1 : firstB mi mb nx l = true) (h2 : secondB l = false) : checkN mi mb nx l = 2 := by unfold checkN; rw [if_neg (by simp [h1]), if_pos h2]
theorem check3 {mi mb nx : Int} {l : List Nd} (h1 : firstB mi mb nx l = true) (h2 : secondB l = true) (h3 : thirdB l = false) : checkN mi mb nx l = 3 := by unfold checkN; rw [if_neg (by simp [h1]), if_neg (by simp [h2]), if_pos h3]
theorem check4 {mi mb nx : Int} {l : List Nd} (h1 : firstB mi mb nx l = true) (h2 : secondB l = true) (h3 : thirdB l = true) (h4 : fourthB l = false) : checkN mi mb nx l = 4 := by unfold checkN; rw [if_neg (by simp [h1]), if_neg (by simp [h2]), if_neg (by simp [h3]), if_pos h4]
theorem check5 {mi mb nx : Int} {l : List Nd} (h1 : firstB mi mb nx l = true) (h2 : secondB l = true) (h3 : thirdB l = true) (h4 : fourthB l = true) (h5 : fifthB l = false) : checkN mi mb nx l = 5 := by unfold checkN; rw [if_neg (by simp [h1]), if_neg (by simp [h2]), if_neg (by simp [h3]), if_neg (by simp [h4]), if_pos h5]
theorem check6 {mi mb nx : Int} {l : List Nd} (h1 : firstB mi mb nx l = true) (h2 : secondB l = true) (h3 : thirdB l = true) (h4 : fourthB l = true) (h5 : fifthB l = true) (h6 : fitsB mi mb l 0 0 = false) : checkN mi mb nx l = 6 := by unfold checkN; rw [if_neg (by simp [h1]), if_neg (by simp [h2]), if_neg (by simp [h3]), if_neg (by simp [h4]), if_neg (by simp [h5]), if_pos h6]
theorem check0 {mi mb nx : Int} {l : List Nd} (h1 : firstB mi mb nx l = true) (h2 : secondB l = true) (h3 : thirdB l = true) (h4 : fourthB l = true) (h5 : fifthB l = true) (h6 : fitsB mi mb l 0 0 = true) : checkN mi mb nx l = 0 := by unfold checkN; rw [if_neg (by simp [h1]), if_neg (by simp [h2]), if_neg (by simp [h3]), if_neg (by simp [h4]), if_neg (by simp [h5]), if_neg (by simp [h6])]
set_option maxHeartbeats 4000000 in
theorem refCheck_any (mi mb nx : Int) (l : List Nd) (v : Value) (w : World) (hv : Nds w v l) (hl : l.length ≤ 1000000) (hsh : ∀ x ∈ l, shortP 1000000 x.ents ∧ x.data.length ≤ 281474976710656) (hp : (pairsN l).length ≤ 1000000000000) (hb : bytesN l ≤ 1099511627776) :
    Calls Tryz.prog 15 #[.agg (fsC mi mb nx v)] w fun e w' => e = .returned (.int .i64 (checkN mi mb nx l)) ∧ Below w.heap.size w w' := by
  obtain ⟨a, ca, rfl⟩ := nds_slice hv
  have bF := Blk.new w 28 (fsC mi mb nx (.slice a l.length ca))
  have hB := alloc_below w (.cells (fsC mi mb nx (.slice a l.length ca)) 28)
  have nV := hv.below hB
  clear hv
  cases h1 : firstB mi mb nx l
  · have HN := Lib.hid (check1 h1)
    go_enter Tryz.func15, Tryz.ntmps15
    (obtain ⟨⟨p0, p1, p2, p3⟩, _⟩ := bF.four); (go_wp2_with fail; refine (refFirst_any mi mb nx l _ _ nV hl).mono ?_; rintro e wz ⟨rfl, bz⟩); ((replace bF := bF.next bz; replace nV := nV.below bz; replace hB := hB.trans (bz.mono hB.size))); rw [h1]; clear p0 p1 p2 p3 bz
    go_wp2; go_ret; exact ⟨by rw [HN.out]; rfl, hB⟩
  cases h2 : secondB l
  · have HN := Lib.hid (check2 h1 h2)
    go_enter Tryz.func15, Tryz.ntmps15
    (obtain ⟨⟨p0, p1, p2, p3⟩, _⟩ := bF.four); (go_wp2_with fail; refine (refFirst_any mi mb nx l _ _ nV hl).mono ?_; rintro e wz ⟨rfl, bz⟩); ((replace bF := bF.next bz; replace nV := nV.below bz; replace hB := hB.trans (bz.mono hB.size))); rw [h1]; clear p0 p1 p2 p3 bz
    (obtain ⟨⟨p0, p1, p2, p3⟩, _⟩ := bF.four); (go_wp2_with fail; refine (refSecond_any mi mb nx l _ _ nV hl hsh).mono ?_; rintro e wz ⟨rfl, bz⟩); ((replace bF := bF.next bz; replace nV := nV.below bz; replace hB := hB.trans (bz.mono hB.size))); rw [h2]; clear p0 p1 p2 p3 bz
    go_wp2; go_ret; exact ⟨by rw [HN.out]; rfl, hB⟩
  cases h3 : thirdB l
  · have HN := Lib.hid (check3 h1 h2 h3)
    go_enter Tryz.func15, Tryz.ntmps15
    (obtain ⟨⟨p0, p1, p2, p3⟩, _⟩ := bF.four); (go_wp2_with fail; refine (refFirst_any mi mb nx l _ _ nV hl).mono ?_; rintro e wz ⟨rfl, bz⟩); ((replace bF := bF.next bz; replace nV := nV.below bz; replace hB := hB.trans (bz.mono hB.size))); rw [h1]; clear p0 p1 p2 p3 bz
    (obtain ⟨⟨p0, p1, p2, p3⟩, _⟩ := bF.four); (go_wp2_with fail; refine (refSecond_any mi mb nx l _ _ nV hl hsh).mono ?_; rintro e wz ⟨rfl, bz⟩); ((replace bF := bF.next bz; replace nV := nV.below bz; replace hB := hB.trans (bz.mono hB.size))); rw [h2]; clear p0 p1 p2 p3 bz
    (obtain ⟨⟨p0, p1, p2, p3⟩, _⟩ := bF.four); (go_wp2_with fail; refine (refThird_any mi mb nx l _ _ nV hl).mono ?_; rintro e wz ⟨rfl, bz⟩); ((replace bF := bF.next bz; replace nV := nV.below bz; replace hB := hB.trans (bz.mono hB.size))); rw [h3]; clear p0 p1 p2 p3 bz
    go_wp2; go_ret; exact ⟨by rw [HN.out]; rfl, hB⟩
  cases h4 : fourthB l
  · have HN := Lib.hid (check4 h1 h2 h3 h4)
    go_enter Tryz.func15, Tryz.ntmps15
    (obtain ⟨⟨p0, p1, p2, p3⟩, _⟩ := bF.four); (go_wp2_with fail; refine (refFirst_any mi mb nx l _ _ nV hl).mono ?_; rintro e wz ⟨rfl, bz⟩); ((replace bF := bF.next bz; replace nV := nV.below bz; replace hB := hB.trans (bz.mono hB.size))); rw [h1]; clear p0 p1 p2 p3 bz
    (obtain ⟨⟨p0, p1, p2, p3⟩, _⟩ := bF.four); (go_wp2_with fail; refine (refSecond_any mi mb nx l _ _ nV hl hsh).mono ?_; rintro e wz ⟨rfl, bz⟩); ((replace bF := bF.next bz; replace nV := nV.below bz; replace hB := hB.trans (bz.mono hB.size))); rw [h2]; clear p0 p1 p2 p3 bz
    (obtain ⟨⟨p0, p1, p2, p3⟩, _⟩ := bF.four); (go_wp2_with fail; refine (refThird_any mi mb nx l _ _ nV hl).mono ?_; rintro e wz ⟨rfl, bz⟩); ((replace bF := bF.next bz; replace nV := nV.below bz; replace hB := hB.trans (bz.mono hB.size))); rw [h3]; clear p0 p1 p2 p3 bz
    (obtain ⟨⟨p0, p1, p2, p3⟩, _⟩ := bF.four); (go_wp2_with fail; refine (refFourth_any mi mb nx l _ _ nV hl hp).mono ?_; rintro e wz ⟨rfl, bz⟩); ((replace bF := bF.next bz; replace nV := nV.below bz; replace hB := hB.trans (bz.mono hB.size))); rw [h4]; clear p0 p1 p2 p3 bz
    go_wp2; go_ret; exact ⟨by rw [HN.out]; rfl, hB⟩
  cases h5 : fifthB l
  · have HN := Lib.hid (check5 h1 h2 h3 h4 h5)
    go_enter Tryz.func15, Tryz.ntmps15
    (obtain ⟨⟨p0, p1, p2, p3⟩, _⟩ := bF.four); (go_wp2_with fail; refine (refFirst_any mi mb nx l _ _ nV hl).mono ?_; rintro e wz ⟨rfl, bz⟩); ((replace bF := bF.next bz; replace nV := nV.below bz; replace hB := hB.trans (bz.mono hB.size))); rw [h1]; clear p0 p1 p2 p3 bz
    (obtain ⟨⟨p0, p1, p2, p3⟩, _⟩ := bF.four); (go_wp2_with fail; refine (refSecond_any mi mb nx l _ _ nV hl hsh).mono ?_; rintro e wz ⟨rfl, bz⟩); ((replace bF := bF.next bz; replace nV := nV.below bz; replace hB := hB.trans (bz.mono hB.size))); rw [h2]; clear p0 p1 p2 p3 bz
    (obtain ⟨⟨p0, p1, p2, p3⟩, _⟩ := bF.four); (go_wp2_with fail; refine (refThird_any mi mb nx l _ _ nV hl).mono ?_; rintro e wz ⟨rfl, bz⟩); ((replace bF := bF.next bz; replace nV := nV.below bz; replace hB := hB.trans (bz.mono hB.size))); rw [h3]; clear p0 p1 p2 p3 bz
    (obtain ⟨⟨p0, p1, p2, p3⟩, _⟩ := bF.four); (go_wp2_with fail; refine (refFourth_any mi mb nx l _ _ nV hl hp).mono ?_; rintro e wz ⟨rfl, bz⟩); ((replace bF := bF.next bz; replace nV := nV.below bz; replace hB := hB.trans (bz.mono hB.size))); rw [h4]; clear p0 p1 p2 p3 bz
    (obtain ⟨⟨p0, p1, p2, p3⟩, _⟩ := bF.four); (go_wp2_with fail; refine (refFifth_any mi mb nx l _ _ nV hl h3 (first_has h1)).mono ?_; rintro e wz ⟨rfl, bz⟩); ((replace bF := bF.next bz; replace nV := nV.below bz; replace hB := hB.trans (bz.mono hB.size))); rw [h5]; clear p0 p1 p2 p3 bz
    go_wp2; go_ret; exact ⟨by rw [HN.out]; rfl, hB⟩
  cases h6 : fitsB mi mb l 0 0
  · have HN := Lib.hid (check6 h1 h2 h3 h4 h5 h6)
    go_enter Tryz.func15, Tryz.ntmps15
    (obtain ⟨⟨p0, p1, p2, p3⟩, _⟩ := bF.four); (go_wp2_with fail; refine (refFirst_any mi mb nx l _ _ nV hl).mono ?_; rintro e wz ⟨rfl, bz⟩); ((replace bF := bF.next bz; replace nV := nV.below bz; replace hB := hB.trans (bz.mono hB.size))); rw [h1]; clear p0 p1 p2 p3 bz
    (obtain ⟨⟨p0, p1, p2, p3⟩, _⟩ := bF.four); (go_wp2_with fail; refine (refSecond_any mi mb nx l _ _ nV hl hsh).mono ?_; rintro e wz ⟨rfl, bz⟩); ((replace bF := bF.next bz; replace nV := nV.below bz; replace hB := hB.trans (bz.mono hB.size))); rw [h2]; clear p0 p1 p2 p3 bz
    (obtain ⟨⟨p0, p1, p2, p3⟩, _⟩ := bF.four); (go_wp2_with fail; refine (refThird_any mi mb nx l _ _ nV hl).mono ?_; rintro e wz ⟨rfl, bz⟩); ((replace bF := bF.next bz; replace nV := nV.below bz; replace hB := hB.trans (bz.mono hB.size))); rw [h3]; clear p0 p1 p2 p3 bz
    (obtain ⟨⟨p0, p1, p2, p3⟩, _⟩ := bF.four); (go_wp2_with fail; refine (refFourth_any mi mb nx l _ _ nV hl hp).mono ?_; rintro e wz ⟨rfl, bz⟩); ((replace bF := bF.next bz; replace nV := nV.below bz; replace hB := hB.trans (bz.mono hB.size))); rw [h4]; clear p0 p1 p2 p3 bz
    (obtain ⟨⟨p0, p1, p2, p3⟩, _⟩ := bF.four); (go_wp2_with fail; refine (refFifth_any mi mb nx l _ _ nV hl h3 (first_has h1)).mono ?_; rintro e wz ⟨rfl, bz⟩); ((replace bF := bF.next bz; replace nV := nV.below bz; replace hB := hB.trans (bz.mono hB.size))); rw [h5]; clear p0 p1 p2 p3 bz
    (obtain ⟨⟨p0, p1, p2, p3⟩, _⟩ := bF.four); (go_wp2_with fail; refine (refFits_any mi mb nx 0 0 l _ _ nV hl hb (by decide) (by decide)).mono ?_; rintro e wz ⟨rfl, bz⟩); ((replace bF := bF.next bz; replace nV := nV.below bz; replace hB := hB.trans (bz.mono hB.size))); rw [h6]; clear p0 p1 p2 p3 bz
    go_wp2; go_ret; exact ⟨by rw [HN.out]; rfl, hB⟩
  · have HN := Lib.hid (check0 h1 h2 h3 h4 h5 h6)
    go_enter Tryz.func15, Tryz.ntmps15
    (obtain ⟨⟨p0, p1, p2, p3⟩, _⟩ := bF.four); (go_wp2_with fail; refine (refFirst_any mi mb nx l _ _ nV hl).mono ?_; rintro e wz ⟨rfl, bz⟩); ((replace bF := bF.next bz; replace nV := nV.below bz; replace hB := hB.trans (bz.mono hB.size))); rw [h1]; clear p0 p1 p2 p3 bz
    (obtain ⟨⟨p0, p1, p2, p3⟩, _⟩ := bF.four); (go_wp2_with fail; refine (refSecond_any mi mb nx l _ _ nV hl hsh).mono ?_; rintro e wz ⟨rfl, bz⟩); ((replace bF := bF.next bz; replace nV := nV.below bz; replace hB := hB.trans (bz.mono hB.size))); rw [h2]; clear p0 p1 p2 p3 bz
    (obtain ⟨⟨p0, p1, p2, p3⟩, _⟩ := bF.four); (go_wp2_with fail; refine (refThird_any mi mb nx l _ _ nV hl).mono ?_; rintro e wz ⟨rfl, bz⟩); ((replace bF := bF.next bz; replace nV := nV.below bz; replace hB := hB.trans (bz.mono hB.size))); rw [h3]; clear p0 p1 p2 p3 bz
    (obtain ⟨⟨p0, p1, p2, p3⟩, _⟩ := bF.four); (go_wp2_with fail; refine (refFourth_any mi mb nx l _ _ nV hl hp).mono ?_; rintro e wz ⟨rfl, bz⟩); ((replace bF := bF.next bz; replace nV := nV.below bz; replace hB := hB.trans (bz.mono hB.size))); rw [h4]; clear p0 p1 p2 p3 bz
    (obtain ⟨⟨p0, p1, p2, p3⟩, _⟩ := bF.four); (go_wp2_with fail; refine (refFifth_any mi mb nx l _ _ nV hl h3 (first_has h1)).mono ?_; rintro e wz ⟨rfl, bz⟩); ((replace bF := bF.next bz; replace nV := nV.below bz; replace hB := hB.trans (bz.mono hB.size))); rw [h5]; clear p0 p1 p2 p3 bz
    (obtain ⟨⟨p0, p1, p2, p3⟩, _⟩ := bF.four); (go_wp2_with fail; refine (refFits_any mi mb nx 0 0 l _ _ nV hl hb (by decide) (by decide)).mono ?_; rintro e wz ⟨rfl, bz⟩); ((replace bF := bF.next bz; replace nV := nV.below bz; replace hB := hB.trans (bz.mono hB.size))); rw [h6]; clear p0 p1 p2 p3 bz
    go_wp2; go_ret; exact ⟨by rw [HN.out]; rfl, hB⟩
theorem few_ok {l : List Nd} (h : fewN l = true) : l.length ≤ 1000000 ∧ (∀ x ∈ l, shortP 1000000 x.ents ∧ x.data.length ≤ 281474976710656) ∧ (pairsN l).length ≤ 1000000000000 ∧ bytesN l ≤ 1099511627776 := by
  have hsm := fewN_small h
  unfold fewN at h
  rw [Bool.and_eq_true, List.all_eq_true] at h
  have hx : ∀ x ∈ l, x.ents.length ≤ 40 ∧ shortP 300 x.ents := by
    intro x hx
    have := h.2 x hx
    unfold fewX at this
    simp only [Bool.and_eq_true, decide_eq_true_eq, List.all_eq_true] at this
    exact ⟨this.1.2, this.2⟩
  have h1 := pairs_len l (m := 40) (fun x hm => (hx x hm).1)
  have h2 := bytesN_few hsm.2
  have h3 : l.length * 40 ≤ 40 * 40 := Nat.mul_le_mul_right _ hsm.1
  have h4 : l.length * 5000 ≤ 40 * 5000 := Nat.mul_le_mul_right _ hsm.1
  refine ⟨by omega, fun x hm => ⟨fun e he => Nat.le_trans ((hx x hm).2 e he) (by decide), Nat.le_trans (hsm.2 x hm) (by decide)⟩, by omega, by omega⟩
end Go.Proofs.YtkdmfeikikmiiaaGreat
