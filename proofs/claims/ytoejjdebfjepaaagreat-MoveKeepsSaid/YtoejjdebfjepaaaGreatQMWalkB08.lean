/- Texts put together: WalkE07, WalkF07, WalkB08. -/
import Derived.Test.YtoejjdebfjepaaaGreatQMWalkD07
import Derived.Test.YtoejjdebfjepaaaGreatQWalkE05
import Derived.Test.YtoejjdebfjepaaaGreatQMWalkB03
import Derived.Test.YtoejjdebfjepaaaGreatQMList11
import Derived.BigQuiet
import Derived.Laws.StructEq
set_option linter.unusedVariables false
set_option linter.unusedSimpArgs false
/- Walks: the document's rule 5. -/
set_option linter.unusedVariables false
set_option linter.unusedSimpArgs false
namespace Go.Proofs.YtoejjdebfjepaaaGreat
open Go.RowKit

theorem infoI : (Tryz.prog.info? 3).map (fun i => (i.zero, i.size, i.bytes)) = some (some (.int .i64 0), 1, 8) := by kernel_rfl
def intsV (l : List Int) : List Value := l.map (.int .i64 ·)
theorem intsV_at {l : List Int} {i : Nat} (h : i < l.length) : (intsV l)[i]? = some (.int .i64 l[i]) := by simp [intsV, h]
theorem own_int {w : World} {base : Nat} {e : TypeId} {g cap : Nat} {n : Nat} {l : List Int} (h : w.ownsRow base e 1 (.slice (some ⟨g, 0, none⟩) n cap) n (intsV l)) (hn : n = l.length) {i : Nat} (hi : i < l.length) : w.cell? ⟨g, i, none⟩ = some (.int .i64 l[i]) := by
  rw [h.cellAt i (by omega), intsV_at hi]
theorem see_bound {l : List Nd} (h3 : thirdB l = true) (h1 : hasN l 1 = true) (k m : Nat) (i : Int) : (seeB (bfsN l k) ((getN l i).ents.take m)).length ≤ l.length := by
  have hh : ∀ z ∈ seeB (bfsN l k) ((getN l i).ents.take m), hasN l z = true :=
    see_has _ _ (fun i => hasN l i = true) (bfs_has h3 h1 k) (fun e he => get_ents_has h3 i e (List.mem_of_mem_take he))
  have := len_sub _ _ (see_nodup _ ((getN l i).ents.take m) (bfs_nodup l k)) (fun z hz => has_inos (hh z hz))
  simpa using this
theorem fifth_end {l : List Nd} (h3 : thirdB l = true) (h1 : hasN l 1 = true) {k : Nat} (h : (bfsN l k).length ≤ k) (hk : k ≤ l.length + 1) : fifthB l = decide ((bfsN l k).length = l.length) := by
  unfold fifthB; rw [bfs_end h3 h1 h hk]
theorem hasT_next {s : List Int} {j : Nat} {z : Int} (h : j < s.length) : (s.take (j + 1)).contains z = ((s.take j).contains z || (s[j] == z)) := by
  rw [List.take_succ_eq_append_getElem h]
  simp only [List.contains_eq_mem, List.mem_append, List.mem_singleton, Bool.decide_or]
  congr 1
  by_cases e : z = s[j]
  · rw [decide_eq_true e]; simp [e]
  · rw [decide_eq_false e]
    have : (s[j] == z) = false := by simpa using fun h : s[j] = z => e h.symm
    rw [this]

theorem own_ne {w : World} {base : Nat} {e t : TypeId} {size g cap n : Nat} {xs : List Value} {B : Nat} {cs : Array Value} (h : w.ownsRow base e size (.slice (some ⟨g, 0, none⟩) n cap) n xs) (hb : Blk w B t cs) (hne : e ≠ t) : g ≠ B := by
  intro hgb
  subst hgb
  rcases h.2 with ⟨h', _⟩ | ⟨g', cap', cur, h', _, hg, _⟩
  · simp at h'
  · simp only [Value.slice.injEq, Option.some.injEq, Addr.mk.injEq, and_true, true_and] at h'
    obtain ⟨rfl, _⟩ := h'
    have := hg.symm.trans hb
    simp at this
    exact hne this.2
theorem cast_beq (a b : Nat) : (((a : Nat) : Int) == ((b : Nat) : Int)) = decide (a = b) := by
  rw [Bool.eq_iff_iff]; simp; omega

set_option maxHeartbeats 8000000 in
set_option maxRecDepth 100000 in
theorem refFifth_any (mi mb nx : Int) (l : List Nd) (v : Value) (w : World) (hv : Nds w v l) (hl : l.length ≤ 1000000) (h3 : thirdB l = true) (h1 : hasN l 1 = true) :
    Calls Tryz.prog 51 #[.agg (fsC mi mb nx v)] w fun e w' => e = .returned (.bool (fifthB l)) ∧ Below w.heap.size w w' := by
  obtain ⟨i0, hi, hz0, hz1, hz2⟩ := info_parts infoI
  obtain ⟨a, ca, rfl, hc, hm, _, hna, _⟩ := id hv
  unfold maxLen at hm
  have HV := Lib.hid hv
  have HB3 := Lib.hid (show ∀ k, (bfsN l k).length ≤ l.length from bfs_len h3 h1)
  have HSB := Lib.hid (see_bound h3 h1)
  have HFE := Lib.hid (fun k => fifth_end (l := l) h3 h1 (k := k))
  clear hv h3 h1
  have b0 := (Blk.new w 24 (fsC mi mb nx (.slice a l.length ca))).alloc (.cells #[.int .i64 1] 3)
  have hB0 : Below w.heap.size w ((w.alloc (.cells (fsC mi mb nx (.slice a l.length ca)) 24)).alloc (.cells #[.int .i64 1] 3)) := ((Below.refl _ w).alloc (Nat.le_refl _) _).alloc (by simp) _
  have own0 : ((w.alloc (.cells (fsC mi mb nx (.slice a l.length ca)) 24)).alloc (.cells #[.int .i64 1] 3)).ownsRow (w.heap.size + 1) 3 1 (.slice (some ⟨(w.alloc (.cells (fsC mi mb nx (.slice a l.length ca)) 24)).heap.size, 0, none⟩) 1 1) 1 (intsV [1]) := World.ownsRow_lit _ #[.int .i64 1] 1 (by simp) (by decide) rfl
  simp only [World.size_alloc] at own0
  go_enter Tryz.func51, Tryz.ntmps51
  go_wp2
  go_loopw [3, 4] (fun s3 s4 wr => ∃ k : Nat, s4 = .int .i64 k ∧ k ≤ (bfsN l k).length ∧ Below w.heap.size w wr ∧ Aside (Blk wr w.heap.size 24 (fsC mi mb nx (.slice a l.length ca))) ∧ Aside (wr.ownsRow (w.heap.size + 1) 3 1 s3 (bfsN l k).length (intsV (bfsN l k)))) (fun _ s4 _ => l.length + 1 - (intOf s4).toNat)
  case atStart => exact ⟨0, rfl, Nat.zero_le _, hB0, b0, own0⟩
  case round =>
    clear b0 hB0 own0
    obtain ⟨k, rfl, hk, hbw, HB, HO⟩ := hrel
    have hkl := HB3.out k
    obtain ⟨a3, c3, rfl⟩ := own_slice HO.out
    obtain ⟨⟨p0, p1, p2, p3⟩, _⟩ := HB.out.four
    by_cases hlt : k < (bfsN l k).length
    · have hnx := bfs_next hlt
      have hsb := HSB.out k
      have hBlt := HB.out.lt
      obtain ⟨g, rfl⟩ : ∃ g, a3 = some ⟨g, 0, none⟩ := by
        rcases own_cases HO.out with ⟨_, h0, _⟩ | ⟨g, cap, h, _⟩
        · omega
        · simp only [Value.slice.injEq] at h; exact ⟨g, h.1⟩
      have hgb := (HO.out.lt g rfl).1
      generalize hS0 : bfsN l k = S0 at *
      have HS0 := Lib.hid hS0
      clear hS0
      have d0 := own_int HO.out rfl hlt
      generalize S0[k] = z at *
      have hsz := hsb 
      have k0 : (0 : Int) ≤ (k : Int) := by omega
      have k1 : (k : Int) < (S0.length : Int) := by omega
      have hEG := get_ents HV.out.all z
      obtain ⟨ag, ng, cg, hgs⟩ := get_slice HV.out z
      have hdr : Below wr.heap.size wr wr.drew := (Below.refl _ _).drew
      have hdr2 : Below wr.heap.size wr (wr.alloc (.cells #[.int .i64 0, .int .i64 0, .int .i64 0, .string ⟨#[]⟩, .int .i64 0, .slice none 0 0] 36)).drew := (alloc_below wr _).drew
      have hGc : ∀ W, Below wr.heap.size wr W → Calls Tryz.prog 14 #[.agg (fsC mi mb nx (.slice a l.length ca)), .int .i64 z] W fun e w' => e = .returned (.tuple #[.agg (ndC (getN l z)), .bool (hasN l z)]) ∧ Below W.heap.size W w' :=
        fun W hW => refGetT_any mi mb nx z l _ _ (HV.out.below (hbw.trans (hW.mono hbw.size)))
      have HMK : ∀ W, Below wr.heap.size wr W → (W.cell? ⟨w.heap.size, 0, none⟩ = some (.int .i64 mi) ∧ W.cell? ⟨w.heap.size, 1, none⟩ = some (.int .i64 mb) ∧ W.cell? ⟨w.heap.size, 2, none⟩ = some (.int .i64 nx) ∧ W.cell? ⟨w.heap.size, 3, none⟩ = some (.slice a l.length ca) ∧ W.cell? ⟨g, k, none⟩ = some (.int .i64 z)) := by
        intro W h
        obtain ⟨⟨x0, x1, x2, x3⟩, _⟩ := (HB.out.next h).four
        exact ⟨x0, x1, x2, x3, (h.cell (p := ⟨g, k, none⟩) (HO.out.lt g rfl).2).trans d0⟩
      have hsb2 := fun m => hsb m z
      clear hsb hsz
      generalize getN l z = G at *
      obtain ⟨gi, gk, gl, gd, gp, ge, gn⟩ := G
      dsimp only at hgs hEG hsb2 hnx
      subst hgs
      have HEG := Lib.hid hEG
      have HSB2 := Lib.hid hsb2
      have HNX := Lib.hid hnx
      clear hEG hsb2 hnx
      generalize hasN l z = r at *
      have hG1 := hGc _ hdr
      have hG2 := hGc _ hdr2
      have hG3 := hGc (wr.drew.alloc (.cells #[.int .i64 0, .int .i64 0, .int .i64 0, .string ⟨#[]⟩, .int .i64 0, .slice none 0 0] 36)) (hdr.alloc hdr.size _)
      have hq := hdr
      go_upto_region 5 with fail
      go_cut [5, 6] from 17 to 25 (fun s5 s6 wc => ∃ BX, s5 = .pointer (some ⟨BX, 0, none⟩) ∧ Below wr.heap.size wr wc ∧ Aside (Blk wc BX 36 (ndC ⟨gi, gk, gl, gd, gp, .slice ag ng cg, gn⟩) ∧ wr.heap.size ≤ BX))
      case first =>
        clear p0 p1 p2 p3 d0
        go_region_held3 (fun W => W.cell? ⟨w.heap.size, 0, none⟩ = some (.int .i64 mi) ∧ W.cell? ⟨w.heap.size, 1, none⟩ = some (.int .i64 mb) ∧ W.cell? ⟨w.heap.size, 2, none⟩ = some (.int .i64 nx) ∧ W.cell? ⟨w.heap.size, 3, none⟩ = some (.slice a l.length ca) ∧ W.cell? ⟨g, k, none⟩ = some (.int .i64 z))
          (first | with_reducible exact HMK _ hq | with_reducible exact HMK _ (hq.alloc hq.size _) | with_reducible exact HMK _ hdr2 | with_reducible exact HMK _ (below_grown hq hgW (Nat.le_refl _) (Nat.le_refl _)))
          (first
            | (go_at_call 14; with_reducible refine hG1.mono ?_; rintro e w6 ⟨rfl, b6⟩; have hq := hq.trans (b6.mono hq.size))
            | (go_at_call 14; (first | with_reducible refine hG3.mono ?_ | with_reducible refine hG2.mono ?_); rintro e w6 ⟨rfl, b6⟩; have hbx : Blk w6 wr.heap.size 36 (ndC zeroN) := Blk.next (W := wr.drew.alloc (.cells #[.int .i64 0, .int .i64 0, .int .i64 0, .string ⟨#[]⟩, .int .i64 0, .slice none 0 0] 36)) (Blk.new wr.drew 36 (ndC zeroN)) b6; have hq := (hq.alloc hq.size (.cells #[.int .i64 0, .int .i64 0, .int .i64 0, .string ⟨#[]⟩, .int .i64 0, .slice none 0 0] 36)).trans (b6.mono (hq.alloc hq.size (.cells #[.int .i64 0, .int .i64 0, .int .i64 0, .string ⟨#[]⟩, .int .i64 0, .slice none 0 0] 36)).size); obtain ⟨⟨x0, x1, x2, x3, x4, x5⟩, f0, f1, f2, f3, f4, f5⟩ := hbx.six; simp only [zeroN] at x0 x1 x2 x3 x4 x5; obtain ⟨W', hW', hbW, hgW⟩ := hbx.put6 ⟨gi, gk, gl, gd, gp, .slice ag ng cg, gn⟩; dsimp only at hW'))
        all_goals (go_wp2_with fail; go_meet)
        all_goals first
          | exact ⟨_, rfl, hq.alloc hq.size _, Blk.new w6 36 (ndC ⟨gi, gk, gl, gd, gp, .slice ag ng cg, gn⟩), hq.size⟩
          | exact ⟨_, rfl, below_grown hq hgW (Nat.le_refl _) (Nat.le_refl _), hbW, Nat.le_refl _⟩
      case rest =>
        obtain ⟨BX, rfl, hbc, HX⟩ := hcut
        have hbt := hbw.trans (hbc.mono hbw.size)
        have HB2 := Lib.hid (HB.out.next hbc)
        have HO2 := Lib.hid (own_keep HO.out hbc)
        obtain ⟨ag2, cg2, hgs, hE1, hE2, hE3⟩ := HEG.out
        simp only [Value.slice.injEq] at hgs
        obtain ⟨rfl, rfl, rfl⟩ := hgs
        unfold maxLen at hE2
        have HE := Lib.hid hE3
        have hsz := hbt.size
        have HXB := Lib.hid (show w.heap.size + 1 ≤ wr.heap.size from hBlt)
        clear hdr hdr2 hGc HMK hG1 hG2 hG3 hq hE3 HB HO hBlt d0 p0 p1 p2 p3
        have hlt1 : 1 ≤ S0.length := by omega
        go_wp2
        go_loopw [3, 7] (fun s3 s7 wr => ∃ m : Nat, m ≤ gn.length ∧ s7 = .int .i64 m ∧ Below w.heap.size w wr ∧ Aside (Blk wr w.heap.size 24 (fsC mi mb nx (.slice a l.length ca))) ∧ Aside (Blk wr BX 36 (ndC ⟨gi, gk, gl, gd, gp, .slice ag gn.length cg, gn⟩)) ∧ Aside (wr.ownsRow (w.heap.size + 1) 3 1 s3 (seeB S0 (gn.take m)).length (intsV (seeB S0 (gn.take m))))) (fun _ s7 _ => gn.length - (intOf s7).toNat)
        case atStart => exact ⟨0, Nat.zero_le _, rfl, hbt, HB2.out, HX.out.1, by (show World.ownsRow _ _ _ _ _ _ _); rw [List.take_zero]; exact HO2.out⟩
        case round =>
          clear hbt HB2 HX HO2 hsz hbw hbc hgb HXB
          obtain ⟨m, hm2, rfl, hb2, F2, X2, O2⟩ := hrel
          obtain ⟨a3, c4, rfl⟩ := own_slice O2.out
          have hSb := HSB2.out m
          have hS1 : 1 ≤ (seeB S0 (gn.take m)).length := Nat.le_trans hlt1 (see_len _ _)
          obtain ⟨g2, rfl⟩ : ∃ g, a3 = some ⟨g, 0, none⟩ := by
            rcases own_cases O2.out with ⟨_, h0, _⟩ | ⟨g, cap, h, _⟩
            · omega
            · simp only [Value.slice.injEq] at h; exact ⟨g, h.1⟩
          have x5 := X2.out.six.1.2.2.2.2.2
          dsimp only at x5
          by_cases hmlt : m < gn.length
          · obtain ⟨be, oe, rfl, hbe, hce⟩ := HE.out (by omega)
            have d1 := (hb2.cell (p := ⟨be, oe + m * 2 + 1, none⟩) hbe).trans (hce m hmlt).2
            clear hce
            have hsn := see_next S0 hmlt
            have hSb2 := HSB2.out (m + 1)
            generalize gn[m].2 = z2 at *
            generalize hS : seeB S0 (gn.take m) = S at *
            have HS := Lib.hid hS
            have HSN := Lib.hid hsn
            clear hS hsn hSb2
            have hne := own_ne O2.out X2.out (by decide)
            have m0 : (0 : Int) ≤ (m : Int) := by omega
            have m1 : (m : Int) < (gn.length : Int) := by omega
            have hg2 := (O2.out.lt g2 rfl).1
            have hbe2 : be < wr.heap.size := Nat.lt_of_lt_of_le hbe hb2.size
            have D1 := Lib.hid d1
            clear d1
            go_wp2
            go_loopw [8, 9] (fun s8 s9 wq => ∃ j : Nat, j ≤ S.length ∧ s9 = .int .i64 j ∧ s8 = .bool ((S.take j).contains z2) ∧ Below wr.heap.size wr wq) (fun _ s9 _ => S.length - (intOf s9).toNat)
            case atStart => exact ⟨0, Nat.zero_le _, rfl, rfl, Below.refl _ _⟩
            case round =>
              obtain ⟨j, hj, rfl, rfl, hbq⟩ := hrel
              clear x5
              have X3 := X2.out.next hbq
              have O3 := own_keep O2.out hbq
              have x5 := X3.six.1.2.2.2.2.2
              dsimp only at x5
              have d2 := (hbq.cell (p := ⟨be, oe + m * 2 + 1, none⟩) hbe2).trans D1.out
              have HX3 := Lib.hid X3
              have HO3 := Lib.hid O3
              clear X3 O3
              by_cases hjlt : j < S.length
              · have e1 := own_int HO3.out rfl hjlt
                have hnx := hasT_next (z := z2) hjlt
                generalize S[j] = u at *
                have j0 : (0 : Int) ≤ (j : Int) := by omega
                have j1 : (j : Int) < (S.length : Int) := by omega
                cases ho : (S.take j).contains z2
                · cases he : (u == z2)
                  · rw [ho, he] at hnx
                    have HN := Lib.hid hnx
                    clear hnx ho
                    go_wp2
                    go_quiet (fail)
                    go_wp2
                    go_roundw
                    case rel => exact ⟨j + 1, by omega, by go_num, by rw [HN.out]; rfl, below_drewN hbq _⟩
                    case measure => simp [intOf]; omega
                  · rw [ho, he] at hnx
                    have HN := Lib.hid hnx
                    clear hnx ho
                    go_wp2
                    go_quiet (fail)
                    go_wp2
                    go_roundw
                    case rel => exact ⟨j + 1, by omega, by go_num, by rw [HN.out]; rfl, below_drewN hbq _⟩
                    case measure => simp [intOf]; omega
                · rw [ho] at hnx
                  have HN := Lib.hid hnx
                  clear hnx ho
                  go_wp2
                  go_quiet (fail)
                  go_wp2
                  go_roundw
                  case rel => exact ⟨j + 1, by omega, by go_num, by rw [HN.out]; rfl, below_drewN hbq _⟩
                  case measure => simp [intOf]; omega
              · obtain rfl : j = S.length := by omega
                rw [List.take_length]
                have hbw3 := hb2.trans (hbq.mono hb2.size)
                have F3 := Lib.hid (F2.out.next hbq)
                cases ho : S.contains z2
                · have hsn := HSN.out
                  rw [ho, if_neg (by simp)] at hsn
                  have HN := Lib.hid hsn
                  have hsz3 : w.heap.size + 1 ≤ wr.heap.size := F3.out.lt
                  clear hsn ho
                  go_wp2_with (at_builtin; refine wpList_append_near rfl (.tmp 55) (.tmp 62) 99 3 rfl Tryz.underlying99 hi hz0 hz1 hz2 rfl (by decide) (by decide) (w.heap.size + 1) #[.int .i64 z2] 1 rfl rfl HO3.out rfl (by simp [Value.oneCell']) (by omega) hsz3 ?_; intro v5 w5 hown5 hg5)
                  replace hg5 : World.grownBy _ w5 (some g2) := hg5
                  have hBl := below_grown (hbw3.alloc hbw3.size (.cells #[.int .i64 z2] 3)) hg5 (Nat.le_refl _) (by omega)
                  have F5 := (F3.out.alloc (.cells #[.int .i64 z2] 3)).kept hg5 (by simp; omega)
                  have X5 := (HX3.out.alloc (.cells #[.int .i64 z2] 3)).kept hg5 (by simpa using fun h => hne h.symm)
                  have O5 : Hid (w5.ownsRow (w.heap.size + 1) 3 1 v5 (seeB S0 (gn.take (m + 1))).length (intsV (seeB S0 (gn.take (m + 1))))) := by
                    (show World.ownsRow _ _ _ _ _ _ _); rw [HN.out, List.length_append]; simpa [intsV] using hown5
                  clear hown5 hg5
                  go_roundw
                  case rel => exact ⟨m + 1, by omega, by go_num, hBl, F5, X5, O5.out⟩
                  case measure => simp [intOf]; omega
                · have hsn := HSN.out
                  rw [ho, if_pos rfl] at hsn
                  have HN := Lib.hid hsn
                  clear hsn ho
                  go_wp2
                  go_roundw
                  case rel => exact ⟨m + 1, by omega, by go_num, hbw3, F3.out, HX3.out, by (show World.ownsRow _ _ _ _ _ _ _); rw [HN.out]; exact HO3.out⟩
                  case measure => simp [intOf]; omega
          · obtain rfl : m = gn.length := by omega
            rw [List.take_length] at O2 hS1 ⊢
            have hgrow : k + 1 ≤ (bfsN l (k + 1)).length := by rw [HNX.out]; exact Nat.le_trans (by omega) (see_len _ _)
            have HGR := Lib.hid hgrow
            clear hgrow
            go_wp2
            go_roundw
            case rel => exact ⟨k + 1, by go_num, HGR.out, hb2, F2.out, by (show World.ownsRow _ _ _ _ _ _ _); rw [HNX.out]; exact O2.out⟩
            case measure => simp [intOf]; omega
    · have HF := Lib.hid (HFE.out k (by omega) (by omega))
      go_wp2
      go_ret
      exact ⟨ret_bool (by rw [HF.out, cast_beq]), hbw⟩
end Go.Proofs.YtoejjdebfjepaaaGreat

/- Walks: the document's Check and Ok. -/
set_option linter.unusedVariables false
set_option linter.unusedSimpArgs false
namespace Go.Proofs.YtoejjdebfjepaaaGreat
open Go.RowKit

theorem check1 {mi mb nx : Int} {l : List Nd} (h1 : firstB mi mb nx l = false) : checkN mi mb nx l = 1 := by unfold checkN; rw [if_pos h1]
theorem check2 {mi mb nx : Int} {l : List Nd} (h1 : firstB mi mb nx l = true) (h2 : secondB l = false) : checkN mi mb nx l = 2 := by unfold checkN; rw [if_neg (by simp [h1]), if_pos h2]
theorem check3 {mi mb nx : Int} {l : List Nd} (h1 : firstB mi mb nx l = true) (h2 : secondB l = true) (h3 : thirdB l = false) : checkN mi mb nx l = 3 := by unfold checkN; rw [if_neg (by simp [h1]), if_neg (by simp [h2]), if_pos h3]
theorem check4 {mi mb nx : Int} {l : List Nd} (h1 : firstB mi mb nx l = true) (h2 : secondB l = true) (h3 : thirdB l = true) (h4 : fourthB l = false) : checkN mi mb nx l = 4 := by unfold checkN; rw [if_neg (by simp [h1]), if_neg (by simp [h2]), if_neg (by simp [h3]), if_pos h4]
theorem check5 {mi mb nx : Int} {l : List Nd} (h1 : firstB mi mb nx l = true) (h2 : secondB l = true) (h3 : thirdB l = true) (h4 : fourthB l = true) (h5 : fifthB l = false) : checkN mi mb nx l = 5 := by unfold checkN; rw [if_neg (by simp [h1]), if_neg (by simp [h2]), if_neg (by simp [h3]), if_neg (by simp [h4]), if_pos h5]
theorem check6 {mi mb nx : Int} {l : List Nd} (h1 : firstB mi mb nx l = true) (h2 : secondB l = true) (h3 : thirdB l = true) (h4 : fourthB l = true) (h5 : fifthB l = true) (h6 : fitsB mi mb l 0 0 = false) : checkN mi mb nx l = 6 := by unfold checkN; rw [if_neg (by simp [h1]), if_neg (by simp [h2]), if_neg (by simp [h3]), if_neg (by simp [h4]), if_neg (by simp [h5]), if_pos h6]
theorem check0 {mi mb nx : Int} {l : List Nd} (h1 : firstB mi mb nx l = true) (h2 : secondB l = true) (h3 : thirdB l = true) (h4 : fourthB l = true) (h5 : fifthB l = true) (h6 : fitsB mi mb l 0 0 = true) : checkN mi mb nx l = 0 := by unfold checkN; rw [if_neg (by simp [h1]), if_neg (by simp [h2]), if_neg (by simp [h3]), if_neg (by simp [h4]), if_neg (by simp [h5]), if_neg (by simp [h6])]

set_option maxHeartbeats 4000000 in
theorem refCheck_any (mi mb nx : Int) (l : List Nd) (v : Value) (w : World) (hv : Nds w v l) (hl : l.length ≤ 1000000) (hsh : ∀ x ∈ l, shortP 1000000 x.ents ∧ x.data.length ≤ 281474976710656) (hp : (pairsN l).length ≤ 1000000000000) (hb : bytesN l ≤ 1099511627776) :
    Calls Tryz.prog 21 #[.agg (fsC mi mb nx v)] w fun e w' => e = .returned (.int .i64 (checkN mi mb nx l)) ∧ Below w.heap.size w w' := by
  obtain ⟨a, ca, rfl⟩ := nds_slice hv
  have bF := Blk.new w 24 (fsC mi mb nx (.slice a l.length ca))
  have hB := alloc_below w (.cells (fsC mi mb nx (.slice a l.length ca)) 24)
  have nV := hv.below hB
  clear hv
  cases h1 : firstB mi mb nx l
  · have HN := Lib.hid (check1 h1)
    go_enter Tryz.func21, Tryz.ntmps21
    (obtain ⟨⟨p0, p1, p2, p3⟩, _⟩ := bF.four); (go_wp2_with fail; refine (refFirst_any mi mb nx l _ _ nV hl).mono ?_; rintro e wz ⟨rfl, bz⟩); ((replace bF := bF.next bz; replace nV := nV.below bz; replace hB := hB.trans (bz.mono hB.size))); rw [h1]; clear p0 p1 p2 p3 bz
    go_wp2; go_ret; exact ⟨by rw [HN.out]; rfl, hB⟩
  cases h2 : secondB l
  · have HN := Lib.hid (check2 h1 h2)
    go_enter Tryz.func21, Tryz.ntmps21
    (obtain ⟨⟨p0, p1, p2, p3⟩, _⟩ := bF.four); (go_wp2_with fail; refine (refFirst_any mi mb nx l _ _ nV hl).mono ?_; rintro e wz ⟨rfl, bz⟩); ((replace bF := bF.next bz; replace nV := nV.below bz; replace hB := hB.trans (bz.mono hB.size))); rw [h1]; clear p0 p1 p2 p3 bz
    (obtain ⟨⟨p0, p1, p2, p3⟩, _⟩ := bF.four); (go_wp2_with fail; refine (refSecond_any mi mb nx l _ _ nV hl hsh).mono ?_; rintro e wz ⟨rfl, bz⟩); ((replace bF := bF.next bz; replace nV := nV.below bz; replace hB := hB.trans (bz.mono hB.size))); rw [h2]; clear p0 p1 p2 p3 bz
    go_wp2; go_ret; exact ⟨by rw [HN.out]; rfl, hB⟩
  cases h3 : thirdB l
  · have HN := Lib.hid (check3 h1 h2 h3)
    go_enter Tryz.func21, Tryz.ntmps21
    (obtain ⟨⟨p0, p1, p2, p3⟩, _⟩ := bF.four); (go_wp2_with fail; refine (refFirst_any mi mb nx l _ _ nV hl).mono ?_; rintro e wz ⟨rfl, bz⟩); ((replace bF := bF.next bz; replace nV := nV.below bz; replace hB := hB.trans (bz.mono hB.size))); rw [h1]; clear p0 p1 p2 p3 bz
    (obtain ⟨⟨p0, p1, p2, p3⟩, _⟩ := bF.four); (go_wp2_with fail; refine (refSecond_any mi mb nx l _ _ nV hl hsh).mono ?_; rintro e wz ⟨rfl, bz⟩); ((replace bF := bF.next bz; replace nV := nV.below bz; replace hB := hB.trans (bz.mono hB.size))); rw [h2]; clear p0 p1 p2 p3 bz
    (obtain ⟨⟨p0, p1, p2, p3⟩, _⟩ := bF.four); (go_wp2_with fail; refine (refThird_any mi mb nx l _ _ nV hl).mono ?_; rintro e wz ⟨rfl, bz⟩); ((replace bF := bF.next bz; replace nV := nV.below bz; replace hB := hB.trans (bz.mono hB.size))); rw [h3]; clear p0 p1 p2 p3 bz
    go_wp2; go_ret; exact ⟨by rw [HN.out]; rfl, hB⟩
  cases h4 : fourthB l
  · have HN := Lib.hid (check4 h1 h2 h3 h4)
    go_enter Tryz.func21, Tryz.ntmps21
    (obtain ⟨⟨p0, p1, p2, p3⟩, _⟩ := bF.four); (go_wp2_with fail; refine (refFirst_any mi mb nx l _ _ nV hl).mono ?_; rintro e wz ⟨rfl, bz⟩); ((replace bF := bF.next bz; replace nV := nV.below bz; replace hB := hB.trans (bz.mono hB.size))); rw [h1]; clear p0 p1 p2 p3 bz
    (obtain ⟨⟨p0, p1, p2, p3⟩, _⟩ := bF.four); (go_wp2_with fail; refine (refSecond_any mi mb nx l _ _ nV hl hsh).mono ?_; rintro e wz ⟨rfl, bz⟩); ((replace bF := bF.next bz; replace nV := nV.below bz; replace hB := hB.trans (bz.mono hB.size))); rw [h2]; clear p0 p1 p2 p3 bz
    (obtain ⟨⟨p0, p1, p2, p3⟩, _⟩ := bF.four); (go_wp2_with fail; refine (refThird_any mi mb nx l _ _ nV hl).mono ?_; rintro e wz ⟨rfl, bz⟩); ((replace bF := bF.next bz; replace nV := nV.below bz; replace hB := hB.trans (bz.mono hB.size))); rw [h3]; clear p0 p1 p2 p3 bz
    (obtain ⟨⟨p0, p1, p2, p3⟩, _⟩ := bF.four); (go_wp2_with fail; refine (refFourth_any mi mb nx l _ _ nV hl hp).mono ?_; rintro e wz ⟨rfl, bz⟩); ((replace bF := bF.next bz; replace nV := nV.below bz; replace hB := hB.trans (bz.mono hB.size))); rw [h4]; clear p0 p1 p2 p3 bz
    go_wp2; go_ret; exact ⟨by rw [HN.out]; rfl, hB⟩
  cases h5 : fifthB l
  · have HN := Lib.hid (check5 h1 h2 h3 h4 h5)
    go_enter Tryz.func21, Tryz.ntmps21
    (obtain ⟨⟨p0, p1, p2, p3⟩, _⟩ := bF.four); (go_wp2_with fail; refine (refFirst_any mi mb nx l _ _ nV hl).mono ?_; rintro e wz ⟨rfl, bz⟩); ((replace bF := bF.next bz; replace nV := nV.below bz; replace hB := hB.trans (bz.mono hB.size))); rw [h1]; clear p0 p1 p2 p3 bz
    (obtain ⟨⟨p0, p1, p2, p3⟩, _⟩ := bF.four); (go_wp2_with fail; refine (refSecond_any mi mb nx l _ _ nV hl hsh).mono ?_; rintro e wz ⟨rfl, bz⟩); ((replace bF := bF.next bz; replace nV := nV.below bz; replace hB := hB.trans (bz.mono hB.size))); rw [h2]; clear p0 p1 p2 p3 bz
    (obtain ⟨⟨p0, p1, p2, p3⟩, _⟩ := bF.four); (go_wp2_with fail; refine (refThird_any mi mb nx l _ _ nV hl).mono ?_; rintro e wz ⟨rfl, bz⟩); ((replace bF := bF.next bz; replace nV := nV.below bz; replace hB := hB.trans (bz.mono hB.size))); rw [h3]; clear p0 p1 p2 p3 bz
    (obtain ⟨⟨p0, p1, p2, p3⟩, _⟩ := bF.four); (go_wp2_with fail; refine (refFourth_any mi mb nx l _ _ nV hl hp).mono ?_; rintro e wz ⟨rfl, bz⟩); ((replace bF := bF.next bz; replace nV := nV.below bz; replace hB := hB.trans (bz.mono hB.size))); rw [h4]; clear p0 p1 p2 p3 bz
    (obtain ⟨⟨p0, p1, p2, p3⟩, _⟩ := bF.four); (go_wp2_with fail; refine (refFifth_any mi mb nx l _ _ nV hl h3 (first_has h1)).mono ?_; rintro e wz ⟨rfl, bz⟩); ((replace bF := bF.next bz; replace nV := nV.below bz; replace hB := hB.trans (bz.mono hB.size))); rw [h5]; clear p0 p1 p2 p3 bz
    go_wp2; go_ret; exact ⟨by rw [HN.out]; rfl, hB⟩
  cases h6 : fitsB mi mb l 0 0
  · have HN := Lib.hid (check6 h1 h2 h3 h4 h5 h6)
    go_enter Tryz.func21, Tryz.ntmps21
    (obtain ⟨⟨p0, p1, p2, p3⟩, _⟩ := bF.four); (go_wp2_with fail; refine (refFirst_any mi mb nx l _ _ nV hl).mono ?_; rintro e wz ⟨rfl, bz⟩); ((replace bF := bF.next bz; replace nV := nV.below bz; replace hB := hB.trans (bz.mono hB.size))); rw [h1]; clear p0 p1 p2 p3 bz
    (obtain ⟨⟨p0, p1, p2, p3⟩, _⟩ := bF.four); (go_wp2_with fail; refine (refSecond_any mi mb nx l _ _ nV hl hsh).mono ?_; rintro e wz ⟨rfl, bz⟩); ((replace bF := bF.next bz; replace nV := nV.below bz; replace hB := hB.trans (bz.mono hB.size))); rw [h2]; clear p0 p1 p2 p3 bz
    (obtain ⟨⟨p0, p1, p2, p3⟩, _⟩ := bF.four); (go_wp2_with fail; refine (refThird_any mi mb nx l _ _ nV hl).mono ?_; rintro e wz ⟨rfl, bz⟩); ((replace bF := bF.next bz; replace nV := nV.below bz; replace hB := hB.trans (bz.mono hB.size))); rw [h3]; clear p0 p1 p2 p3 bz
    (obtain ⟨⟨p0, p1, p2, p3⟩, _⟩ := bF.four); (go_wp2_with fail; refine (refFourth_any mi mb nx l _ _ nV hl hp).mono ?_; rintro e wz ⟨rfl, bz⟩); ((replace bF := bF.next bz; replace nV := nV.below bz; replace hB := hB.trans (bz.mono hB.size))); rw [h4]; clear p0 p1 p2 p3 bz
    (obtain ⟨⟨p0, p1, p2, p3⟩, _⟩ := bF.four); (go_wp2_with fail; refine (refFifth_any mi mb nx l _ _ nV hl h3 (first_has h1)).mono ?_; rintro e wz ⟨rfl, bz⟩); ((replace bF := bF.next bz; replace nV := nV.below bz; replace hB := hB.trans (bz.mono hB.size))); rw [h5]; clear p0 p1 p2 p3 bz
    (obtain ⟨⟨p0, p1, p2, p3⟩, _⟩ := bF.four); (go_wp2_with fail; refine (refFits_any mi mb nx 0 0 l _ _ nV hl hb (by decide) (by decide)).mono ?_; rintro e wz ⟨rfl, bz⟩); ((replace bF := bF.next bz; replace nV := nV.below bz; replace hB := hB.trans (bz.mono hB.size))); rw [h6]; clear p0 p1 p2 p3 bz
    go_wp2; go_ret; exact ⟨by rw [HN.out]; rfl, hB⟩
  · have HN := Lib.hid (check0 h1 h2 h3 h4 h5 h6)
    go_enter Tryz.func21, Tryz.ntmps21
    (obtain ⟨⟨p0, p1, p2, p3⟩, _⟩ := bF.four); (go_wp2_with fail; refine (refFirst_any mi mb nx l _ _ nV hl).mono ?_; rintro e wz ⟨rfl, bz⟩); ((replace bF := bF.next bz; replace nV := nV.below bz; replace hB := hB.trans (bz.mono hB.size))); rw [h1]; clear p0 p1 p2 p3 bz
    (obtain ⟨⟨p0, p1, p2, p3⟩, _⟩ := bF.four); (go_wp2_with fail; refine (refSecond_any mi mb nx l _ _ nV hl hsh).mono ?_; rintro e wz ⟨rfl, bz⟩); ((replace bF := bF.next bz; replace nV := nV.below bz; replace hB := hB.trans (bz.mono hB.size))); rw [h2]; clear p0 p1 p2 p3 bz
    (obtain ⟨⟨p0, p1, p2, p3⟩, _⟩ := bF.four); (go_wp2_with fail; refine (refThird_any mi mb nx l _ _ nV hl).mono ?_; rintro e wz ⟨rfl, bz⟩); ((replace bF := bF.next bz; replace nV := nV.below bz; replace hB := hB.trans (bz.mono hB.size))); rw [h3]; clear p0 p1 p2 p3 bz
    (obtain ⟨⟨p0, p1, p2, p3⟩, _⟩ := bF.four); (go_wp2_with fail; refine (refFourth_any mi mb nx l _ _ nV hl hp).mono ?_; rintro e wz ⟨rfl, bz⟩); ((replace bF := bF.next bz; replace nV := nV.below bz; replace hB := hB.trans (bz.mono hB.size))); rw [h4]; clear p0 p1 p2 p3 bz
    (obtain ⟨⟨p0, p1, p2, p3⟩, _⟩ := bF.four); (go_wp2_with fail; refine (refFifth_any mi mb nx l _ _ nV hl h3 (first_has h1)).mono ?_; rintro e wz ⟨rfl, bz⟩); ((replace bF := bF.next bz; replace nV := nV.below bz; replace hB := hB.trans (bz.mono hB.size))); rw [h5]; clear p0 p1 p2 p3 bz
    (obtain ⟨⟨p0, p1, p2, p3⟩, _⟩ := bF.four); (go_wp2_with fail; refine (refFits_any mi mb nx 0 0 l _ _ nV hl hb (by decide) (by decide)).mono ?_; rintro e wz ⟨rfl, bz⟩); ((replace bF := bF.next bz; replace nV := nV.below bz; replace hB := hB.trans (bz.mono hB.size))); rw [h6]; clear p0 p1 p2 p3 bz
    go_wp2; go_ret; exact ⟨by rw [HN.out]; rfl, hB⟩

theorem few_ok {l : List Nd} (h : fewN l = true) : l.length ≤ 1000000 ∧ (∀ x ∈ l, shortP 1000000 x.ents ∧ x.data.length ≤ 281474976710656) ∧ (pairsN l).length ≤ 1000000000000 ∧ bytesN l ≤ 1099511627776 := by
  have hsm := fewN_small h
  unfold fewN at h
  rw [Bool.and_eq_true, List.all_eq_true] at h
  have hx : ∀ x ∈ l, x.ents.length ≤ 40 ∧ shortP 300 x.ents := by
    intro x hx
    have := h.2 x hx
    unfold fewX at this
    simp only [Bool.and_eq_true, decide_eq_true_eq, List.all_eq_true] at this
    exact ⟨this.1.2, this.2⟩
  have h1 := pairs_len l (m := 40) (fun x hm => (hx x hm).1)
  have h2 := bytesN_few hsm.2
  have h3 : l.length * 40 ≤ 40 * 40 := Nat.mul_le_mul_right _ hsm.1
  have h4 : l.length * 5000 ≤ 40 * 5000 := Nat.mul_le_mul_right _ hsm.1
  refine ⟨by omega, fun x hm => ⟨fun e he => Nat.le_trans ((hx x hm).2 e he) (by decide), Nat.le_trans (hsm.2 x hm) (by decide)⟩, by omega, by omega⟩

set_option maxHeartbeats 4000000 in
theorem refOk_any (mi mb nx : Int) (l : List Nd) (v : Value) (w : World) (hv : Nds w v l) :
    Calls Tryz.prog 13 #[.agg (fsC mi mb nx v)] w fun e w' => e = .returned (.bool (okB mi mb nx l)) ∧ Below w.heap.size w w' := by
  obtain ⟨a, ca, rfl⟩ := nds_slice hv
  have bF := Blk.new w 24 (fsC mi mb nx (.slice a l.length ca))
  have hB := alloc_below w (.cells (fsC mi mb nx (.slice a l.length ca)) 24)
  have nV := hv.below hB
  clear hv
  have HK : Hid (okB mi mb nx l = (fewN l && decide (checkN mi mb nx l = 0))) := rfl
  cases hf : fewN l
  · go_enter Tryz.func13, Tryz.ntmps13
    obtain ⟨⟨p0, p1, p2, p3⟩, _⟩ := bF.four
    go_wp2_with fail; refine (fewT_any mi mb nx l _ _ nV).mono ?_; rintro e w2 ⟨rfl, b2⟩
    (replace bF := bF.next b2; replace nV := nV.below b2; replace hB := hB.trans (b2.mono hB.size))
    rw [hf]
    clear p0 p1 p2 p3
    go_wp2
    go_ret
    exact ⟨ret_bool (by rw [HK.out, hf]; rfl), hB⟩
  obtain ⟨q1, q2, q3, q4⟩ := few_ok hf
  go_enter Tryz.func13, Tryz.ntmps13
  obtain ⟨⟨p0, p1, p2, p3⟩, _⟩ := bF.four
  go_wp2_with fail; refine (fewT_any mi mb nx l _ _ nV).mono ?_; rintro e w2 ⟨rfl, b2⟩
  (replace bF := bF.next b2; replace nV := nV.below b2; replace hB := hB.trans (b2.mono hB.size))
  rw [hf]
  clear p0 p1 p2 p3
  obtain ⟨⟨p0, p1, p2, p3⟩, _⟩ := bF.four
  go_wp2_with fail; refine (refCheck_any mi mb nx l _ _ nV q1 q2 q3 q4).mono ?_; rintro e w3 ⟨rfl, b3⟩
  (replace bF := bF.next b3; replace nV := nV.below b3; replace hB := hB.trans (b3.mono hB.size))
  generalize hc : checkN mi mb nx l = c at *
  clear p0 p1 p2 p3
  go_wp2
  go_ret
  exact ⟨ret_bool (by rw [HK.out, hf, Bool.true_and, Bool.eq_iff_iff]; simp), hB⟩
end Go.Proofs.YtoejjdebfjepaaaGreat

/- Walks: the document's paths of an inode, and whether what was seen is the same. -/
set_option linter.unusedVariables false
set_option linter.unusedSimpArgs false
namespace Go.Proofs.YtoejjdebfjepaaaGreat
open Go.RowKit

theorem refSameS_any (la lb : List Ent) (va vb : Value) (w : World) (ha : Ents w va la) (hb : Ents w vb lb) :
    Calls Tryz.prog 24 #[va, vb] w fun e w' => e = .returned (.bool (decide (la = lb))) ∧ Below w.heap.size w w' := by
  obtain ⟨a, ca, rfl, hca, hma, HA⟩ := ha
  obtain ⟨b, cb, rfl, hcb, hmb, HB⟩ := hb
  unfold maxLen at hma hmb
  by_cases hl : la.length = lb.length
  · have HA' := Lib.hid HA
    have HB' := Lib.hid HB
    clear HA HB
    have hne : ((la.length : Int) != (lb.length : Int)) = false := by simp; omega
    have HL := Lib.hid hl
    have hl2 : la.length ≤ lb.length := by omega
    clear hl
    go_enter Tryz.func24, Tryz.ntmps24
    go_wp2
    go_loopw [5] (fun i wr => ∃ k : Nat, k ≤ la.length ∧ i = .int .i64 k ∧ Aside (la.take k = lb.take k) ∧ Below w.heap.size w wr) (fun i _ => la.length - (intOf i).toNat)
    case atStart => exact ⟨0, Nat.zero_le _, rfl, rfl, Below.refl _ _⟩
    case round =>
      obtain ⟨k, hk, rfl, HT, hbw⟩ := hrel
      by_cases hlt : k < la.length
      · have hltb : k < lb.length := by omega
        obtain ⟨ba, oa, rfl, hba, hxa⟩ := HA'.out (by omega)
        obtain ⟨bb, ob, rfl, hbb, hxb⟩ := HB'.out (by omega)
        have c1 : wr.cell? ⟨ba, oa + k * 2, none⟩ = some (.string ⟨la[k].1.toArray⟩) := (hbw.cell (p := ⟨ba, oa + k * 2, none⟩) hba).trans (hxa k hlt).1
        have c2 : wr.cell? ⟨ba, oa + k * 2 + 1, none⟩ = some (.int .i64 la[k].2) := (hbw.cell (p := ⟨ba, oa + k * 2 + 1, none⟩) hba).trans (hxa k hlt).2
        have c3 : wr.cell? ⟨bb, ob + k * 2, none⟩ = some (.string ⟨lb[k].1.toArray⟩) := (hbw.cell (p := ⟨bb, ob + k * 2, none⟩) hbb).trans (hxb k hltb).1
        have c4 : wr.cell? ⟨bb, ob + k * 2 + 1, none⟩ = some (.int .i64 lb[k].2) := (hbw.cell (p := ⟨bb, ob + k * 2 + 1, none⟩) hbb).trans (hxb k hltb).2
        clear hxa hxb
        have k0 : (0 : Int) ≤ (k : Int) := by omega
        have k1 : (k : Int) < (la.length : Int) := by omega
        have k2 : (k : Int) < (lb.length : Int) := by omega
        cases he : la[k].1 == lb[k].1
        · have hne2 : Hid (decide (la = lb) = false) := by
            show _ = _
            rw [decide_eq_false_iff_not]
            intro e
            subst e
            simp at he
          go_wp2
          go_quiet (fail)
          go_wp2
          go_ret
          exact ⟨by rw [hne2.out]; rfl, below_drewN hbw _⟩
        · cases hn : la[k].2 == lb[k].2
          · have hne2 : Hid (decide (la = lb) = false) := by
              show _ = _
              rw [decide_eq_false_iff_not]
              intro e
              subst e
              simp at hn
            go_wp2
            go_quiet (fail)
            go_wp2
            go_ret
            exact ⟨by rw [hne2.out]; rfl, below_drewN hbw _⟩
          · have HT2 : Hid (la.take (k + 1) = lb.take (k + 1)) := by
              show _ = _
              rw [List.take_succ_eq_append_getElem hlt, List.take_succ_eq_append_getElem hltb, HT.out]
              rw [beq_iff_eq] at he hn
              rw [show la[k] = lb[k] from Prod.ext he hn]
            go_wp2
            go_quiet (fail)
            go_wp2
            go_roundw
            case rel => exact ⟨k + 1, by omega, by go_num, HT2.out, below_drewN hbw _⟩
            case measure => simp [intOf]; omega
      · obtain rfl : k = la.length := by omega
        have heq : Hid (decide (la = lb) = true) := by
          show _ = _
          rw [decide_eq_true_eq]
          have := HT.out
          rw [List.take_length, HL.out, List.take_length] at this
          exact this
        clear HT
        go_wp2
        go_ret
        exact ⟨by rw [heq.out]; rfl, hbw⟩
  · have hne : ((la.length : Int) != (lb.length : Int)) = true := by rw [bne_iff_ne]; omega
    have hd : Hid (decide (la = lb) = false) := by
      show _ = _
      rw [decide_eq_false_iff_not]; rintro rfl; exact hl rfl
    clear HA HB
    go_enter Tryz.func24, Tryz.ntmps24
    go_wp2
    go_ret
    exact ⟨by rw [hd.out]; rfl, Below.refl _ _⟩

theorem infoStr8 : (Tryz.prog.info? 9).map (fun i => (i.zero, i.size, i.bytes)) = some (some (.string ⟨#[]⟩), 1, 16) := by kernel_rfl

end Go.Proofs.YtoejjdebfjepaaaGreat
