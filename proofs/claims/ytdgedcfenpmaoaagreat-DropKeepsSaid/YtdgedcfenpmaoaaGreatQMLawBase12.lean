/- Texts put together: WalkE07, WalkF07, Awake12, LawBase12. -/
import Derived.Test.YtdgedcfenpmaoaaGreatQWalkD07
import Derived.Test.YtdgedcfenpmaoaaGreatQWalkE05
import Derived.Test.YtdgedcfenpmaoaaGreatQMCut
import Derived.Test.YtdgedcfenpmaoaaGreatQSmall12
import Derived.Test.YtdgedcfenpmaoaaGreatQMWalkH04
import Derived.Test.YtdgedcfenpmaoaaGreatQMWalkF10
import Derived.Laws.StructEq
import Derived.Test.YtdgedcfenpmaoaaGreatQMPure12d
set_option linter.unusedVariables false
set_option linter.unusedSimpArgs false
/- Walks: the document's rule 5. -/
set_option linter.unusedVariables false
set_option linter.unusedSimpArgs false
namespace Go.Proofs.YtdgedcfenpmaoaaGreat
open Go.RowKit

theorem infoI : (Tryz.prog.info? 3).map (fun i => (i.zero, i.size, i.bytes)) = some (some (.int .i64 0), 1, 8) := by kernel_rfl
def intsV (l : List Int) : List Value := l.map (.int .i64 ·)
theorem intsV_at {l : List Int} {i : Nat} (h : i < l.length) : (intsV l)[i]? = some (.int .i64 l[i]) := by simp [intsV, h]
theorem own_int {w : World} {base : Nat} {e : TypeId} {g cap : Nat} {n : Nat} {l : List Int} (h : w.ownsRow base e 1 (.slice (some ⟨g, 0, none⟩) n cap) n (intsV l)) (hn : n = l.length) {i : Nat} (hi : i < l.length) : w.cell? ⟨g, i, none⟩ = some (.int .i64 l[i]) := by
  rw [h.cellAt i (by omega), intsV_at hi]
theorem see_bound {l : List Nd} (h3 : thirdB l = true) (h1 : hasN l 1 = true) (k m : Nat) (i : Int) : (seeB (bfsN l k) ((getN l i).ents.take m)).length ≤ l.length := by
  have hh : ∀ z ∈ seeB (bfsN l k) ((getN l i).ents.take m), hasN l z = true :=
    see_has _ _ (fun i => hasN l i = true) (bfs_has h3 h1 k) (fun e he => get_ents_has h3 i e (List.mem_of_mem_take he))
  have := len_sub _ _ (see_nodup _ ((getN l i).ents.take m) (bfs_nodup l k)) (fun z hz => has_inos (hh z hz))
  simpa using this
theorem fifth_end {l : List Nd} (h3 : thirdB l = true) (h1 : hasN l 1 = true) {k : Nat} (h : (bfsN l k).length ≤ k) (hk : k ≤ l.length + 1) : fifthB l = decide ((bfsN l k).length = l.length) := by
  unfold fifthB; rw [bfs_end h3 h1 h hk]
theorem hasT_next {s : List Int} {j : Nat} {z : Int} (h : j < s.length) : (s.take (j + 1)).contains z = ((s.take j).contains z || (s[j] == z)) := by
  rw [List.take_succ_eq_append_getElem h]
  simp only [List.contains_eq_mem, List.mem_append, List.mem_singleton, Bool.decide_or]
  congr 1
  by_cases e : z = s[j]
  · rw [decide_eq_true e]; simp [e]
  · rw [decide_eq_false e]
    have : (s[j] == z) = false := by simpa using fun h : s[j] = z => e h.symm
    rw [this]

theorem own_ne {w : World} {base : Nat} {e t : TypeId} {size g cap n : Nat} {xs : List Value} {B : Nat} {cs : Array Value} (h : w.ownsRow base e size (.slice (some ⟨g, 0, none⟩) n cap) n xs) (hb : Blk w B t cs) (hne : e ≠ t) : g ≠ B := by
  intro hgb
  subst hgb
  rcases h.2 with ⟨h', _⟩ | ⟨g', cap', cur, h', _, hg, _⟩
  · simp at h'
  · simp only [Value.slice.injEq, Option.some.injEq, Addr.mk.injEq, and_true, true_and] at h'
    obtain ⟨rfl, _⟩ := h'
    have := hg.symm.trans hb
    simp at this
    exact hne this.2
theorem cast_beq (a b : Nat) : (((a : Nat) : Int) == ((b : Nat) : Int)) = decide (a = b) := by
  rw [Bool.eq_iff_iff]; simp; omega

set_option maxHeartbeats 8000000 in
set_option maxRecDepth 100000 in
theorem refFifth_any (mi mb nx : Int) (l : List Nd) (v : Value) (w : World) (hv : Nds w v l) (hl : l.length ≤ 1000000) (h3 : thirdB l = true) (h1 : hasN l 1 = true) :
    Calls Tryz.prog 52 #[.agg (fsC mi mb nx v)] w fun e w' => e = .returned (.bool (fifthB l)) ∧ Below w.heap.size w w' := by
  obtain ⟨i0, hi, hz0, hz1, hz2⟩ := info_parts infoI
  obtain ⟨a, ca, rfl, hc, hm, _, hna, _⟩ := id hv
  unfold maxLen at hm
  have HV := Lib.hid hv
  have HB3 := Lib.hid (show ∀ k, (bfsN l k).length ≤ l.length from bfs_len h3 h1)
  have HSB := Lib.hid (see_bound h3 h1)
  have HFE := Lib.hid (fun k => fifth_end (l := l) h3 h1 (k := k))
  clear hv h3 h1
  have b0 := (Blk.new w 24 (fsC mi mb nx (.slice a l.length ca))).alloc (.cells #[.int .i64 1] 3)
  have hB0 : Below w.heap.size w ((w.alloc (.cells (fsC mi mb nx (.slice a l.length ca)) 24)).alloc (.cells #[.int .i64 1] 3)) := ((Below.refl _ w).alloc (Nat.le_refl _) _).alloc (by simp) _
  have own0 : ((w.alloc (.cells (fsC mi mb nx (.slice a l.length ca)) 24)).alloc (.cells #[.int .i64 1] 3)).ownsRow (w.heap.size + 1) 3 1 (.slice (some ⟨(w.alloc (.cells (fsC mi mb nx (.slice a l.length ca)) 24)).heap.size, 0, none⟩) 1 1) 1 (intsV [1]) := World.ownsRow_lit _ #[.int .i64 1] 1 (by simp) (by decide) rfl
  simp only [World.size_alloc] at own0
  go_enter Tryz.func52, Tryz.ntmps52
  go_wp2
  go_loopw [3, 4] (fun s3 s4 wr => ∃ k : Nat, s4 = .int .i64 k ∧ k ≤ (bfsN l k).length ∧ Below w.heap.size w wr ∧ Aside (Blk wr w.heap.size 24 (fsC mi mb nx (.slice a l.length ca))) ∧ Aside (wr.ownsRow (w.heap.size + 1) 3 1 s3 (bfsN l k).length (intsV (bfsN l k)))) (fun _ s4 _ => l.length + 1 - (intOf s4).toNat)
  case atStart => exact ⟨0, rfl, Nat.zero_le _, hB0, b0, own0⟩
  case round =>
    clear b0 hB0 own0
    obtain ⟨k, rfl, hk, hbw, HB, HO⟩ := hrel
    have hkl := HB3.out k
    obtain ⟨a3, c3, rfl⟩ := own_slice HO.out
    obtain ⟨⟨p0, p1, p2, p3⟩, _⟩ := HB.out.four
    by_cases hlt : k < (bfsN l k).length
    · have hnx := bfs_next hlt
      have hsb := HSB.out k
      have hBlt := HB.out.lt
      obtain ⟨g, rfl⟩ : ∃ g, a3 = some ⟨g, 0, none⟩ := by
        rcases own_cases HO.out with ⟨_, h0, _⟩ | ⟨g, cap, h, _⟩
        · omega
        · simp only [Value.slice.injEq] at h; exact ⟨g, h.1⟩
      have hgb := (HO.out.lt g rfl).1
      generalize hS0 : bfsN l k = S0 at *
      have HS0 := Lib.hid hS0
      clear hS0
      have d0 := own_int HO.out rfl hlt
      generalize S0[k] = z at *
      have hsz := hsb 
      have k0 : (0 : Int) ≤ (k : Int) := by omega
      have k1 : (k : Int) < (S0.length : Int) := by omega
      have hEG := get_ents HV.out.all z
      obtain ⟨ag, ng, cg, hgs⟩ := get_slice HV.out z
      have hdr : Below wr.heap.size wr wr.drew := (Below.refl _ _).drew
      have hdr2 : Below wr.heap.size wr (wr.alloc (.cells #[.int .i64 0, .int .i64 0, .int .i64 0, .string ⟨#[]⟩, .int .i64 0, .slice none 0 0] 42)).drew := (alloc_below wr _).drew
      have hGc : ∀ W, Below wr.heap.size wr W → Calls Tryz.prog 19 #[.agg (fsC mi mb nx (.slice a l.length ca)), .int .i64 z] W fun e w' => e = .returned (.tuple #[.agg (ndC (getN l z)), .bool (hasN l z)]) ∧ Below W.heap.size W w' :=
        fun W hW => refGetT_any mi mb nx z l _ _ (HV.out.below (hbw.trans (hW.mono hbw.size)))
      have HMK : ∀ W, Below wr.heap.size wr W → (W.cell? ⟨w.heap.size, 0, none⟩ = some (.int .i64 mi) ∧ W.cell? ⟨w.heap.size, 1, none⟩ = some (.int .i64 mb) ∧ W.cell? ⟨w.heap.size, 2, none⟩ = some (.int .i64 nx) ∧ W.cell? ⟨w.heap.size, 3, none⟩ = some (.slice a l.length ca) ∧ W.cell? ⟨g, k, none⟩ = some (.int .i64 z)) := by
        intro W h
        obtain ⟨⟨x0, x1, x2, x3⟩, _⟩ := (HB.out.next h).four
        exact ⟨x0, x1, x2, x3, (h.cell (p := ⟨g, k, none⟩) (HO.out.lt g rfl).2).trans d0⟩
      have hsb2 := fun m => hsb m z
      clear hsb hsz
      generalize getN l z = G at *
      obtain ⟨gi, gk, gl, gd, gp, ge, gn⟩ := G
      dsimp only at hgs hEG hsb2 hnx
      subst hgs
      have HEG := Lib.hid hEG
      have HSB2 := Lib.hid hsb2
      have HNX := Lib.hid hnx
      clear hEG hsb2 hnx
      generalize hasN l z = r at *
      have hG1 := hGc _ hdr
      have hG2 := hGc _ hdr2
      have hG3 := hGc (wr.drew.alloc (.cells #[.int .i64 0, .int .i64 0, .int .i64 0, .string ⟨#[]⟩, .int .i64 0, .slice none 0 0] 42)) (hdr.alloc hdr.size _)
      have hq := hdr
      go_upto_region 5 with fail
      go_cut [5, 6] from 17 to 25 (fun s5 s6 wc => ∃ BX, s5 = .pointer (some ⟨BX, 0, none⟩) ∧ Below wr.heap.size wr wc ∧ Aside (Blk wc BX 42 (ndC ⟨gi, gk, gl, gd, gp, .slice ag ng cg, gn⟩) ∧ wr.heap.size ≤ BX))
      case first =>
        clear p0 p1 p2 p3 d0
        go_region_held3 (fun W => W.cell? ⟨w.heap.size, 0, none⟩ = some (.int .i64 mi) ∧ W.cell? ⟨w.heap.size, 1, none⟩ = some (.int .i64 mb) ∧ W.cell? ⟨w.heap.size, 2, none⟩ = some (.int .i64 nx) ∧ W.cell? ⟨w.heap.size, 3, none⟩ = some (.slice a l.length ca) ∧ W.cell? ⟨g, k, none⟩ = some (.int .i64 z))
          (first | with_reducible exact HMK _ hq | with_reducible exact HMK _ (hq.alloc hq.size _) | with_reducible exact HMK _ hdr2 | with_reducible exact HMK _ (below_grown hq hgW (Nat.le_refl _) (Nat.le_refl _)))
          (first
            | (go_at_call 19; with_reducible refine hG1.mono ?_; rintro e w6 ⟨rfl, b6⟩; have hq := hq.trans (b6.mono hq.size))
            | (go_at_call 19; (first | with_reducible refine hG3.mono ?_ | with_reducible refine hG2.mono ?_); rintro e w6 ⟨rfl, b6⟩; have hbx : Blk w6 wr.heap.size 42 (ndC zeroN) := Blk.next (W := wr.drew.alloc (.cells #[.int .i64 0, .int .i64 0, .int .i64 0, .string ⟨#[]⟩, .int .i64 0, .slice none 0 0] 42)) (Blk.new wr.drew 42 (ndC zeroN)) b6; have hq := (hq.alloc hq.size (.cells #[.int .i64 0, .int .i64 0, .int .i64 0, .string ⟨#[]⟩, .int .i64 0, .slice none 0 0] 42)).trans (b6.mono (hq.alloc hq.size (.cells #[.int .i64 0, .int .i64 0, .int .i64 0, .string ⟨#[]⟩, .int .i64 0, .slice none 0 0] 42)).size); obtain ⟨⟨x0, x1, x2, x3, x4, x5⟩, f0, f1, f2, f3, f4, f5⟩ := hbx.six; simp only [zeroN] at x0 x1 x2 x3 x4 x5; obtain ⟨W', hW', hbW, hgW⟩ := hbx.put6 ⟨gi, gk, gl, gd, gp, .slice ag ng cg, gn⟩; dsimp only at hW'))
        all_goals (go_wp2_with fail; go_meet)
        all_goals first
          | exact ⟨_, rfl, hq.alloc hq.size _, Blk.new w6 42 (ndC ⟨gi, gk, gl, gd, gp, .slice ag ng cg, gn⟩), hq.size⟩
          | exact ⟨_, rfl, below_grown hq hgW (Nat.le_refl _) (Nat.le_refl _), hbW, Nat.le_refl _⟩
      case rest =>
        obtain ⟨BX, rfl, hbc, HX⟩ := hcut
        have hbt := hbw.trans (hbc.mono hbw.size)
        have HB2 := Lib.hid (HB.out.next hbc)
        have HO2 := Lib.hid (own_keep HO.out hbc)
        obtain ⟨ag2, cg2, hgs, hE1, hE2, hE3⟩ := HEG.out
        simp only [Value.slice.injEq] at hgs
        obtain ⟨rfl, rfl, rfl⟩ := hgs
        unfold maxLen at hE2
        have HE := Lib.hid hE3
        have hsz := hbt.size
        have HXB := Lib.hid (show w.heap.size + 1 ≤ wr.heap.size from hBlt)
        clear hdr hdr2 hGc HMK hG1 hG2 hG3 hq hE3 HB HO hBlt d0 p0 p1 p2 p3
        have hlt1 : 1 ≤ S0.length := by omega
        go_wp2
        go_loopw [3, 7] (fun s3 s7 wr => ∃ m : Nat, m ≤ gn.length ∧ s7 = .int .i64 m ∧ Below w.heap.size w wr ∧ Aside (Blk wr w.heap.size 24 (fsC mi mb nx (.slice a l.length ca))) ∧ Aside (Blk wr BX 42 (ndC ⟨gi, gk, gl, gd, gp, .slice ag gn.length cg, gn⟩)) ∧ Aside (wr.ownsRow (w.heap.size + 1) 3 1 s3 (seeB S0 (gn.take m)).length (intsV (seeB S0 (gn.take m))))) (fun _ s7 _ => gn.length - (intOf s7).toNat)
        case atStart => exact ⟨0, Nat.zero_le _, rfl, hbt, HB2.out, HX.out.1, by (show World.ownsRow _ _ _ _ _ _ _); rw [List.take_zero]; exact HO2.out⟩
        case round =>
          clear hbt HB2 HX HO2 hsz hbw hbc hgb HXB
          obtain ⟨m, hm2, rfl, hb2, F2, X2, O2⟩ := hrel
          obtain ⟨a3, c4, rfl⟩ := own_slice O2.out
          have hSb := HSB2.out m
          have hS1 : 1 ≤ (seeB S0 (gn.take m)).length := Nat.le_trans hlt1 (see_len _ _)
          obtain ⟨g2, rfl⟩ : ∃ g, a3 = some ⟨g, 0, none⟩ := by
            rcases own_cases O2.out with ⟨_, h0, _⟩ | ⟨g, cap, h, _⟩
            · omega
            · simp only [Value.slice.injEq] at h; exact ⟨g, h.1⟩
          have x5 := X2.out.six.1.2.2.2.2.2
          dsimp only at x5
          by_cases hmlt : m < gn.length
          · obtain ⟨be, oe, rfl, hbe, hce⟩ := HE.out (by omega)
            have d1 := (hb2.cell (p := ⟨be, oe + m * 2 + 1, none⟩) hbe).trans (hce m hmlt).2
            clear hce
            have hsn := see_next S0 hmlt
            have hSb2 := HSB2.out (m + 1)
            generalize gn[m].2 = z2 at *
            generalize hS : seeB S0 (gn.take m) = S at *
            have HS := Lib.hid hS
            have HSN := Lib.hid hsn
            clear hS hsn hSb2
            have hne := own_ne O2.out X2.out (by decide)
            have m0 : (0 : Int) ≤ (m : Int) := by omega
            have m1 : (m : Int) < (gn.length : Int) := by omega
            have hg2 := (O2.out.lt g2 rfl).1
            have hbe2 : be < wr.heap.size := Nat.lt_of_lt_of_le hbe hb2.size
            have D1 := Lib.hid d1
            clear d1
            go_wp2
            go_loopw [8, 9] (fun s8 s9 wq => ∃ j : Nat, j ≤ S.length ∧ s9 = .int .i64 j ∧ s8 = .bool ((S.take j).contains z2) ∧ Below wr.heap.size wr wq) (fun _ s9 _ => S.length - (intOf s9).toNat)
            case atStart => exact ⟨0, Nat.zero_le _, rfl, rfl, Below.refl _ _⟩
            case round =>
              obtain ⟨j, hj, rfl, rfl, hbq⟩ := hrel
              clear x5
              have X3 := X2.out.next hbq
              have O3 := own_keep O2.out hbq
              have x5 := X3.six.1.2.2.2.2.2
              dsimp only at x5
              have d2 := (hbq.cell (p := ⟨be, oe + m * 2 + 1, none⟩) hbe2).trans D1.out
              have HX3 := Lib.hid X3
              have HO3 := Lib.hid O3
              clear X3 O3
              by_cases hjlt : j < S.length
              · have e1 := own_int HO3.out rfl hjlt
                have hnx := hasT_next (z := z2) hjlt
                generalize S[j] = u at *
                have j0 : (0 : Int) ≤ (j : Int) := by omega
                have j1 : (j : Int) < (S.length : Int) := by omega
                cases ho : (S.take j).contains z2
                · cases he : (u == z2)
                  · rw [ho, he] at hnx
                    have HN := Lib.hid hnx
                    clear hnx ho
                    go_wp2
                    go_quiet (fail)
                    go_wp2
                    go_roundw
                    case rel => exact ⟨j + 1, by omega, by go_num, by rw [HN.out]; rfl, below_drewN hbq _⟩
                    case measure => simp [intOf]; omega
                  · rw [ho, he] at hnx
                    have HN := Lib.hid hnx
                    clear hnx ho
                    go_wp2
                    go_quiet (fail)
                    go_wp2
                    go_roundw
                    case rel => exact ⟨j + 1, by omega, by go_num, by rw [HN.out]; rfl, below_drewN hbq _⟩
                    case measure => simp [intOf]; omega
                · rw [ho] at hnx
                  have HN := Lib.hid hnx
                  clear hnx ho
                  go_wp2
                  go_quiet (fail)
                  go_wp2
                  go_roundw
                  case rel => exact ⟨j + 1, by omega, by go_num, by rw [HN.out]; rfl, below_drewN hbq _⟩
                  case measure => simp [intOf]; omega
              · obtain rfl : j = S.length := by omega
                rw [List.take_length]
                have hbw3 := hb2.trans (hbq.mono hb2.size)
                have F3 := Lib.hid (F2.out.next hbq)
                cases ho : S.contains z2
                · have hsn := HSN.out
                  rw [ho, if_neg (by simp)] at hsn
                  have HN := Lib.hid hsn
                  have hsz3 : w.heap.size + 1 ≤ wr.heap.size := F3.out.lt
                  clear hsn ho
                  go_wp2_with (at_builtin; refine wpList_append_near rfl (.tmp 55) (.tmp 62) 97 3 rfl Tryz.underlying97 hi hz0 hz1 hz2 rfl (by decide) (by decide) (w.heap.size + 1) #[.int .i64 z2] 1 rfl rfl HO3.out rfl (by simp [Value.oneCell']) (by omega) hsz3 ?_; intro v5 w5 hown5 hg5)
                  replace hg5 : World.grownBy _ w5 (some g2) := hg5
                  have hBl := below_grown (hbw3.alloc hbw3.size (.cells #[.int .i64 z2] 3)) hg5 (Nat.le_refl _) (by omega)
                  have F5 := (F3.out.alloc (.cells #[.int .i64 z2] 3)).kept hg5 (by simp; omega)
                  have X5 := (HX3.out.alloc (.cells #[.int .i64 z2] 3)).kept hg5 (by simpa using fun h => hne h.symm)
                  have O5 : Hid (w5.ownsRow (w.heap.size + 1) 3 1 v5 (seeB S0 (gn.take (m + 1))).length (intsV (seeB S0 (gn.take (m + 1))))) := by
                    (show World.ownsRow _ _ _ _ _ _ _); rw [HN.out, List.length_append]; simpa [intsV] using hown5
                  clear hown5 hg5
                  go_roundw
                  case rel => exact ⟨m + 1, by omega, by go_num, hBl, F5, X5, O5.out⟩
                  case measure => simp [intOf]; omega
                · have hsn := HSN.out
                  rw [ho, if_pos rfl] at hsn
                  have HN := Lib.hid hsn
                  clear hsn ho
                  go_wp2
                  go_roundw
                  case rel => exact ⟨m + 1, by omega, by go_num, hbw3, F3.out, HX3.out, by (show World.ownsRow _ _ _ _ _ _ _); rw [HN.out]; exact HO3.out⟩
                  case measure => simp [intOf]; omega
          · obtain rfl : m = gn.length := by omega
            rw [List.take_length] at O2 hS1 ⊢
            have hgrow : k + 1 ≤ (bfsN l (k + 1)).length := by rw [HNX.out]; exact Nat.le_trans (by omega) (see_len _ _)
            have HGR := Lib.hid hgrow
            clear hgrow
            go_wp2
            go_roundw
            case rel => exact ⟨k + 1, by go_num, HGR.out, hb2, F2.out, by (show World.ownsRow _ _ _ _ _ _ _); rw [HNX.out]; exact O2.out⟩
            case measure => simp [intOf]; omega
    · have HF := Lib.hid (HFE.out k (by omega) (by omega))
      go_wp2
      go_ret
      exact ⟨ret_bool (by rw [HF.out, cast_beq]), hbw⟩
end Go.Proofs.YtdgedcfenpmaoaaGreat

/- Walks: the document's Check and Ok. -/
set_option linter.unusedVariables false
set_option linter.unusedSimpArgs false
namespace Go.Proofs.YtdgedcfenpmaoaaGreat
open Go.RowKit

theorem check1 {mi mb nx : Int} {l : List Nd} (h1 : firstB mi mb nx l = false) : checkN mi mb nx l = 1 := by unfold checkN; rw [if_pos h1]
theorem check2 {mi mb nx : Int} {l : List Nd} (h1 : firstB mi mb nx l = true) (h2 : secondB l = false) : checkN mi mb nx l = 2 := by unfold checkN; rw [if_neg (by simp [h1]), if_pos h2]
theorem check3 {mi mb nx : Int} {l : List Nd} (h1 : firstB mi mb nx l = true) (h2 : secondB l = true) (h3 : thirdB l = false) : checkN mi mb nx l = 3 := by unfold checkN; rw [if_neg (by simp [h1]), if_neg (by simp [h2]), if_pos h3]
theorem check4 {mi mb nx : Int} {l : List Nd} (h1 : firstB mi mb nx l = true) (h2 : secondB l = true) (h3 : thirdB l = true) (h4 : fourthB l = false) : checkN mi mb nx l = 4 := by unfold checkN; rw [if_neg (by simp [h1]), if_neg (by simp [h2]), if_neg (by simp [h3]), if_pos h4]
theorem check5 {mi mb nx : Int} {l : List Nd} (h1 : firstB mi mb nx l = true) (h2 : secondB l = true) (h3 : thirdB l = true) (h4 : fourthB l = true) (h5 : fifthB l = false) : checkN mi mb nx l = 5 := by unfold checkN; rw [if_neg (by simp [h1]), if_neg (by simp [h2]), if_neg (by simp [h3]), if_neg (by simp [h4]), if_pos h5]
theorem check6 {mi mb nx : Int} {l : List Nd} (h1 : firstB mi mb nx l = true) (h2 : secondB l = true) (h3 : thirdB l = true) (h4 : fourthB l = true) (h5 : fifthB l = true) (h6 : fitsB mi mb l 0 0 = false) : checkN mi mb nx l = 6 := by unfold checkN; rw [if_neg (by simp [h1]), if_neg (by simp [h2]), if_neg (by simp [h3]), if_neg (by simp [h4]), if_neg (by simp [h5]), if_pos h6]
theorem check0 {mi mb nx : Int} {l : List Nd} (h1 : firstB mi mb nx l = true) (h2 : secondB l = true) (h3 : thirdB l = true) (h4 : fourthB l = true) (h5 : fifthB l = true) (h6 : fitsB mi mb l 0 0 = true) : checkN mi mb nx l = 0 := by unfold checkN; rw [if_neg (by simp [h1]), if_neg (by simp [h2]), if_neg (by simp [h3]), if_neg (by simp [h4]), if_neg (by simp [h5]), if_neg (by simp [h6])]

set_option maxHeartbeats 4000000 in
theorem refCheck_any (mi mb nx : Int) (l : List Nd) (v : Value) (w : World) (hv : Nds w v l) (hl : l.length ≤ 1000000) (hsh : ∀ x ∈ l, shortP 1000000 x.ents ∧ x.data.length ≤ 281474976710656) (hp : (pairsN l).length ≤ 1000000000000) (hb : bytesN l ≤ 1099511627776) :
    Calls Tryz.prog 25 #[.agg (fsC mi mb nx v)] w fun e w' => e = .returned (.int .i64 (checkN mi mb nx l)) ∧ Below w.heap.size w w' := by
  obtain ⟨a, ca, rfl⟩ := nds_slice hv
  have bF := Blk.new w 24 (fsC mi mb nx (.slice a l.length ca))
  have hB := alloc_below w (.cells (fsC mi mb nx (.slice a l.length ca)) 24)
  have nV := hv.below hB
  clear hv
  cases h1 : firstB mi mb nx l
  · have HN := Lib.hid (check1 h1)
    go_enter Tryz.func25, Tryz.ntmps25
    (obtain ⟨⟨p0, p1, p2, p3⟩, _⟩ := bF.four); (go_wp2_with fail; refine (refFirst_any mi mb nx l _ _ nV hl).mono ?_; rintro e wz ⟨rfl, bz⟩); ((replace bF := bF.next bz; replace nV := nV.below bz; replace hB := hB.trans (bz.mono hB.size))); rw [h1]; clear p0 p1 p2 p3 bz
    go_wp2; go_ret; exact ⟨by rw [HN.out]; rfl, hB⟩
  cases h2 : secondB l
  · have HN := Lib.hid (check2 h1 h2)
    go_enter Tryz.func25, Tryz.ntmps25
    (obtain ⟨⟨p0, p1, p2, p3⟩, _⟩ := bF.four); (go_wp2_with fail; refine (refFirst_any mi mb nx l _ _ nV hl).mono ?_; rintro e wz ⟨rfl, bz⟩); ((replace bF := bF.next bz; replace nV := nV.below bz; replace hB := hB.trans (bz.mono hB.size))); rw [h1]; clear p0 p1 p2 p3 bz
    (obtain ⟨⟨p0, p1, p2, p3⟩, _⟩ := bF.four); (go_wp2_with fail; refine (refSecond_any mi mb nx l _ _ nV hl hsh).mono ?_; rintro e wz ⟨rfl, bz⟩); ((replace bF := bF.next bz; replace nV := nV.below bz; replace hB := hB.trans (bz.mono hB.size))); rw [h2]; clear p0 p1 p2 p3 bz
    go_wp2; go_ret; exact ⟨by rw [HN.out]; rfl, hB⟩
  cases h3 : thirdB l
  · have HN := Lib.hid (check3 h1 h2 h3)
    go_enter Tryz.func25, Tryz.ntmps25
    (obtain ⟨⟨p0, p1, p2, p3⟩, _⟩ := bF.four); (go_wp2_with fail; refine (refFirst_any mi mb nx l _ _ nV hl).mono ?_; rintro e wz ⟨rfl, bz⟩); ((replace bF := bF.next bz; replace nV := nV.below bz; replace hB := hB.trans (bz.mono hB.size))); rw [h1]; clear p0 p1 p2 p3 bz
    (obtain ⟨⟨p0, p1, p2, p3⟩, _⟩ := bF.four); (go_wp2_with fail; refine (refSecond_any mi mb nx l _ _ nV hl hsh).mono ?_; rintro e wz ⟨rfl, bz⟩); ((replace bF := bF.next bz; replace nV := nV.below bz; replace hB := hB.trans (bz.mono hB.size))); rw [h2]; clear p0 p1 p2 p3 bz
    (obtain ⟨⟨p0, p1, p2, p3⟩, _⟩ := bF.four); (go_wp2_with fail; refine (refThird_any mi mb nx l _ _ nV hl).mono ?_; rintro e wz ⟨rfl, bz⟩); ((replace bF := bF.next bz; replace nV := nV.below bz; replace hB := hB.trans (bz.mono hB.size))); rw [h3]; clear p0 p1 p2 p3 bz
    go_wp2; go_ret; exact ⟨by rw [HN.out]; rfl, hB⟩
  cases h4 : fourthB l
  · have HN := Lib.hid (check4 h1 h2 h3 h4)
    go_enter Tryz.func25, Tryz.ntmps25
    (obtain ⟨⟨p0, p1, p2, p3⟩, _⟩ := bF.four); (go_wp2_with fail; refine (refFirst_any mi mb nx l _ _ nV hl).mono ?_; rintro e wz ⟨rfl, bz⟩); ((replace bF := bF.next bz; replace nV := nV.below bz; replace hB := hB.trans (bz.mono hB.size))); rw [h1]; clear p0 p1 p2 p3 bz
    (obtain ⟨⟨p0, p1, p2, p3⟩, _⟩ := bF.four); (go_wp2_with fail; refine (refSecond_any mi mb nx l _ _ nV hl hsh).mono ?_; rintro e wz ⟨rfl, bz⟩); ((replace bF := bF.next bz; replace nV := nV.below bz; replace hB := hB.trans (bz.mono hB.size))); rw [h2]; clear p0 p1 p2 p3 bz
    (obtain ⟨⟨p0, p1, p2, p3⟩, _⟩ := bF.four); (go_wp2_with fail; refine (refThird_any mi mb nx l _ _ nV hl).mono ?_; rintro e wz ⟨rfl, bz⟩); ((replace bF := bF.next bz; replace nV := nV.below bz; replace hB := hB.trans (bz.mono hB.size))); rw [h3]; clear p0 p1 p2 p3 bz
    (obtain ⟨⟨p0, p1, p2, p3⟩, _⟩ := bF.four); (go_wp2_with fail; refine (refFourth_any mi mb nx l _ _ nV hl hp).mono ?_; rintro e wz ⟨rfl, bz⟩); ((replace bF := bF.next bz; replace nV := nV.below bz; replace hB := hB.trans (bz.mono hB.size))); rw [h4]; clear p0 p1 p2 p3 bz
    go_wp2; go_ret; exact ⟨by rw [HN.out]; rfl, hB⟩
  cases h5 : fifthB l
  · have HN := Lib.hid (check5 h1 h2 h3 h4 h5)
    go_enter Tryz.func25, Tryz.ntmps25
    (obtain ⟨⟨p0, p1, p2, p3⟩, _⟩ := bF.four); (go_wp2_with fail; refine (refFirst_any mi mb nx l _ _ nV hl).mono ?_; rintro e wz ⟨rfl, bz⟩); ((replace bF := bF.next bz; replace nV := nV.below bz; replace hB := hB.trans (bz.mono hB.size))); rw [h1]; clear p0 p1 p2 p3 bz
    (obtain ⟨⟨p0, p1, p2, p3⟩, _⟩ := bF.four); (go_wp2_with fail; refine (refSecond_any mi mb nx l _ _ nV hl hsh).mono ?_; rintro e wz ⟨rfl, bz⟩); ((replace bF := bF.next bz; replace nV := nV.below bz; replace hB := hB.trans (bz.mono hB.size))); rw [h2]; clear p0 p1 p2 p3 bz
    (obtain ⟨⟨p0, p1, p2, p3⟩, _⟩ := bF.four); (go_wp2_with fail; refine (refThird_any mi mb nx l _ _ nV hl).mono ?_; rintro e wz ⟨rfl, bz⟩); ((replace bF := bF.next bz; replace nV := nV.below bz; replace hB := hB.trans (bz.mono hB.size))); rw [h3]; clear p0 p1 p2 p3 bz
    (obtain ⟨⟨p0, p1, p2, p3⟩, _⟩ := bF.four); (go_wp2_with fail; refine (refFourth_any mi mb nx l _ _ nV hl hp).mono ?_; rintro e wz ⟨rfl, bz⟩); ((replace bF := bF.next bz; replace nV := nV.below bz; replace hB := hB.trans (bz.mono hB.size))); rw [h4]; clear p0 p1 p2 p3 bz
    (obtain ⟨⟨p0, p1, p2, p3⟩, _⟩ := bF.four); (go_wp2_with fail; refine (refFifth_any mi mb nx l _ _ nV hl h3 (first_has h1)).mono ?_; rintro e wz ⟨rfl, bz⟩); ((replace bF := bF.next bz; replace nV := nV.below bz; replace hB := hB.trans (bz.mono hB.size))); rw [h5]; clear p0 p1 p2 p3 bz
    go_wp2; go_ret; exact ⟨by rw [HN.out]; rfl, hB⟩
  cases h6 : fitsB mi mb l 0 0
  · have HN := Lib.hid (check6 h1 h2 h3 h4 h5 h6)
    go_enter Tryz.func25, Tryz.ntmps25
    (obtain ⟨⟨p0, p1, p2, p3⟩, _⟩ := bF.four); (go_wp2_with fail; refine (refFirst_any mi mb nx l _ _ nV hl).mono ?_; rintro e wz ⟨rfl, bz⟩); ((replace bF := bF.next bz; replace nV := nV.below bz; replace hB := hB.trans (bz.mono hB.size))); rw [h1]; clear p0 p1 p2 p3 bz
    (obtain ⟨⟨p0, p1, p2, p3⟩, _⟩ := bF.four); (go_wp2_with fail; refine (refSecond_any mi mb nx l _ _ nV hl hsh).mono ?_; rintro e wz ⟨rfl, bz⟩); ((replace bF := bF.next bz; replace nV := nV.below bz; replace hB := hB.trans (bz.mono hB.size))); rw [h2]; clear p0 p1 p2 p3 bz
    (obtain ⟨⟨p0, p1, p2, p3⟩, _⟩ := bF.four); (go_wp2_with fail; refine (refThird_any mi mb nx l _ _ nV hl).mono ?_; rintro e wz ⟨rfl, bz⟩); ((replace bF := bF.next bz; replace nV := nV.below bz; replace hB := hB.trans (bz.mono hB.size))); rw [h3]; clear p0 p1 p2 p3 bz
    (obtain ⟨⟨p0, p1, p2, p3⟩, _⟩ := bF.four); (go_wp2_with fail; refine (refFourth_any mi mb nx l _ _ nV hl hp).mono ?_; rintro e wz ⟨rfl, bz⟩); ((replace bF := bF.next bz; replace nV := nV.below bz; replace hB := hB.trans (bz.mono hB.size))); rw [h4]; clear p0 p1 p2 p3 bz
    (obtain ⟨⟨p0, p1, p2, p3⟩, _⟩ := bF.four); (go_wp2_with fail; refine (refFifth_any mi mb nx l _ _ nV hl h3 (first_has h1)).mono ?_; rintro e wz ⟨rfl, bz⟩); ((replace bF := bF.next bz; replace nV := nV.below bz; replace hB := hB.trans (bz.mono hB.size))); rw [h5]; clear p0 p1 p2 p3 bz
    (obtain ⟨⟨p0, p1, p2, p3⟩, _⟩ := bF.four); (go_wp2_with fail; refine (refFits_any mi mb nx 0 0 l _ _ nV hl hb (by decide) (by decide)).mono ?_; rintro e wz ⟨rfl, bz⟩); ((replace bF := bF.next bz; replace nV := nV.below bz; replace hB := hB.trans (bz.mono hB.size))); rw [h6]; clear p0 p1 p2 p3 bz
    go_wp2; go_ret; exact ⟨by rw [HN.out]; rfl, hB⟩
  · have HN := Lib.hid (check0 h1 h2 h3 h4 h5 h6)
    go_enter Tryz.func25, Tryz.ntmps25
    (obtain ⟨⟨p0, p1, p2, p3⟩, _⟩ := bF.four); (go_wp2_with fail; refine (refFirst_any mi mb nx l _ _ nV hl).mono ?_; rintro e wz ⟨rfl, bz⟩); ((replace bF := bF.next bz; replace nV := nV.below bz; replace hB := hB.trans (bz.mono hB.size))); rw [h1]; clear p0 p1 p2 p3 bz
    (obtain ⟨⟨p0, p1, p2, p3⟩, _⟩ := bF.four); (go_wp2_with fail; refine (refSecond_any mi mb nx l _ _ nV hl hsh).mono ?_; rintro e wz ⟨rfl, bz⟩); ((replace bF := bF.next bz; replace nV := nV.below bz; replace hB := hB.trans (bz.mono hB.size))); rw [h2]; clear p0 p1 p2 p3 bz
    (obtain ⟨⟨p0, p1, p2, p3⟩, _⟩ := bF.four); (go_wp2_with fail; refine (refThird_any mi mb nx l _ _ nV hl).mono ?_; rintro e wz ⟨rfl, bz⟩); ((replace bF := bF.next bz; replace nV := nV.below bz; replace hB := hB.trans (bz.mono hB.size))); rw [h3]; clear p0 p1 p2 p3 bz
    (obtain ⟨⟨p0, p1, p2, p3⟩, _⟩ := bF.four); (go_wp2_with fail; refine (refFourth_any mi mb nx l _ _ nV hl hp).mono ?_; rintro e wz ⟨rfl, bz⟩); ((replace bF := bF.next bz; replace nV := nV.below bz; replace hB := hB.trans (bz.mono hB.size))); rw [h4]; clear p0 p1 p2 p3 bz
    (obtain ⟨⟨p0, p1, p2, p3⟩, _⟩ := bF.four); (go_wp2_with fail; refine (refFifth_any mi mb nx l _ _ nV hl h3 (first_has h1)).mono ?_; rintro e wz ⟨rfl, bz⟩); ((replace bF := bF.next bz; replace nV := nV.below bz; replace hB := hB.trans (bz.mono hB.size))); rw [h5]; clear p0 p1 p2 p3 bz
    (obtain ⟨⟨p0, p1, p2, p3⟩, _⟩ := bF.four); (go_wp2_with fail; refine (refFits_any mi mb nx 0 0 l _ _ nV hl hb (by decide) (by decide)).mono ?_; rintro e wz ⟨rfl, bz⟩); ((replace bF := bF.next bz; replace nV := nV.below bz; replace hB := hB.trans (bz.mono hB.size))); rw [h6]; clear p0 p1 p2 p3 bz
    go_wp2; go_ret; exact ⟨by rw [HN.out]; rfl, hB⟩

theorem few_ok {l : List Nd} (h : fewN l = true) : l.length ≤ 1000000 ∧ (∀ x ∈ l, shortP 1000000 x.ents ∧ x.data.length ≤ 281474976710656) ∧ (pairsN l).length ≤ 1000000000000 ∧ bytesN l ≤ 1099511627776 := by
  have hsm := fewN_small h
  unfold fewN at h
  rw [Bool.and_eq_true, List.all_eq_true] at h
  have hx : ∀ x ∈ l, x.ents.length ≤ 40 ∧ shortP 300 x.ents := by
    intro x hx
    have := h.2 x hx
    unfold fewX at this
    simp only [Bool.and_eq_true, decide_eq_true_eq, List.all_eq_true] at this
    exact ⟨this.1.2, this.2⟩
  have h1 := pairs_len l (m := 40) (fun x hm => (hx x hm).1)
  have h2 := bytesN_few hsm.2
  have h3 : l.length * 40 ≤ 40 * 40 := Nat.mul_le_mul_right _ hsm.1
  have h4 : l.length * 5000 ≤ 40 * 5000 := Nat.mul_le_mul_right _ hsm.1
  refine ⟨by omega, fun x hm => ⟨fun e he => Nat.le_trans ((hx x hm).2 e he) (by decide), Nat.le_trans (hsm.2 x hm) (by decide)⟩, by omega, by omega⟩

set_option maxHeartbeats 4000000 in
theorem refOk_any (mi mb nx : Int) (l : List Nd) (v : Value) (w : World) (hv : Nds w v l) :
    Calls Tryz.prog 28 #[.agg (fsC mi mb nx v)] w fun e w' => e = .returned (.bool (okB mi mb nx l)) ∧ Below w.heap.size w w' := by
  obtain ⟨a, ca, rfl⟩ := nds_slice hv
  have bF := Blk.new w 24 (fsC mi mb nx (.slice a l.length ca))
  have hB := alloc_below w (.cells (fsC mi mb nx (.slice a l.length ca)) 24)
  have nV := hv.below hB
  clear hv
  have HK : Hid (okB mi mb nx l = (fewN l && decide (checkN mi mb nx l = 0))) := rfl
  cases hf : fewN l
  · go_enter Tryz.func28, Tryz.ntmps28
    obtain ⟨⟨p0, p1, p2, p3⟩, _⟩ := bF.four
    go_wp2_with fail; refine (fewT_any mi mb nx l _ _ nV).mono ?_; rintro e w2 ⟨rfl, b2⟩
    (replace bF := bF.next b2; replace nV := nV.below b2; replace hB := hB.trans (b2.mono hB.size))
    rw [hf]
    clear p0 p1 p2 p3
    go_wp2
    go_ret
    exact ⟨ret_bool (by rw [HK.out, hf]; rfl), hB⟩
  obtain ⟨q1, q2, q3, q4⟩ := few_ok hf
  go_enter Tryz.func28, Tryz.ntmps28
  obtain ⟨⟨p0, p1, p2, p3⟩, _⟩ := bF.four
  go_wp2_with fail; refine (fewT_any mi mb nx l _ _ nV).mono ?_; rintro e w2 ⟨rfl, b2⟩
  (replace bF := bF.next b2; replace nV := nV.below b2; replace hB := hB.trans (b2.mono hB.size))
  rw [hf]
  clear p0 p1 p2 p3
  obtain ⟨⟨p0, p1, p2, p3⟩, _⟩ := bF.four
  go_wp2_with fail; refine (refCheck_any mi mb nx l _ _ nV q1 q2 q3 q4).mono ?_; rintro e w3 ⟨rfl, b3⟩
  (replace bF := bF.next b3; replace nV := nV.below b3; replace hB := hB.trans (b3.mono hB.size))
  generalize hc : checkN mi mb nx l = c at *
  clear p0 p1 p2 p3
  go_wp2
  go_ret
  exact ⟨ret_bool (by rw [HK.out, hf, Bool.true_and, Bool.eq_iff_iff]; simp), hB⟩
end Go.Proofs.YtdgedcfenpmaoaaGreat

/- Walks: awake, of what is linked and taken away; whether a file system and paths may be looked at. -/
set_option linter.unusedVariables false
set_option linter.unusedSimpArgs false
namespace Go.Proofs.YtdgedcfenpmaoaaGreat
open Go.RowKit
set_option linter.unusedVariables false

def qaR (e : Value) : Nd := ⟨1, 2, 0, [], 1, e, [([100], 3), ([103], 4)]⟩
def qaF : Nd := ⟨4, 1, 2, [], 0, .slice none 0 0, []⟩
def qbD (e : Value) : Nd := ⟨3, 2, 1, [], 1, e, []⟩
def qcR (e : Value) : Nd := ⟨1, 2, 0, [], 1, e, [([103], 4)]⟩
def qaL (e1 e2 : Value) : List Nd := [qaR e1, sqD e2, qaF]
def qbL (e1 e2 : Value) : List Nd := [qaR e1, qbD e2, sqF]
theorem qa_ok (e1 e2 : Value) : okB 9 9 9 (qaL e1 e2) = true := by kernel_rfl
theorem qb_ok (e1 e2 : Value) : okB 9 9 9 (qbL e1 e2) = true := by kernel_rfl

theorem aw12_link (l : List Nd) (base p q : List UInt8) (r1 r2 : Sp × Int) (R : Value → List Nd × Int) (v : Value) (w : World) (hv : Nds w v l) (hok : okB 9 9 9 l = true) (hb : base.length ≤ 100) (hp : p.length ≤ 100) (hq : q.length ≤ 100) (h : seekF 20 l base p false = some r1) (h2 : seekF 20 l base q false = some r2) (h3 : ∀ ev, linkE r1 r2 l q ev = R ev) :
    Calls Tryz.prog 11 #[.agg (fsC 9 9 9 v), .string ⟨base.toArray⟩, .string ⟨p.toArray⟩, .string ⟨q.toArray⟩] w fun e w' => ∃ y ev, e = .returned (.tuple #[.agg (fsC 9 9 9 y), .int .i64 (R ev).2]) ∧ Nds w' y (R ev).1 ∧ Below w.heap.size w w' := by
  refine (Link_any 9 9 9 l base p q v w hv (ok_s hok) (by omega) (by omega) (by omega)).mono ?_
  rintro e w' ⟨y, ev, rfl, hM, hB⟩
  have hn := hM.now hv hB
  rw [linkF_eq 20 h h2, h3] at hn
  exact ⟨y, ev, by rw [linkF_eq 20 h h2, h3], hn, hB⟩
theorem aw12_unlink (l : List Nd) (base p : List UInt8) (r : Sp × Int) (R : Value → List Nd × Int) (v : Value) (w : World) (hv : Nds w v l) (hok : okB 9 9 9 l = true) (hb : base.length ≤ 100) (hp : p.length ≤ 100) (h : seekF 20 l base p false = some r) (h3 : ∀ ev, unlinkE r l ev = R ev) :
    Calls Tryz.prog 14 #[.agg (fsC 9 9 9 v), .string ⟨base.toArray⟩, .string ⟨p.toArray⟩] w fun e w' => ∃ y ev, e = .returned (.tuple #[.agg (fsC 9 9 9 y), .int .i64 (R ev).2]) ∧ Nds w' y (R ev).1 ∧ Below w.heap.size w w' := by
  refine (Unlink_any 9 9 9 l base p v w hv (ok_s hok) (by omega) (by omega)).mono ?_
  rintro e w' ⟨y, ev, rfl, hM, hB⟩
  have hn := hM.now hv hB
  rw [unlinkF_eq 20 h, h3] at hn
  exact ⟨y, ev, by rw [unlinkF_eq 20 h, h3], hn, hB⟩
theorem aw12_rmdir (l : List Nd) (base p : List UInt8) (r : Sp × Int) (R : Value → List Nd × Int) (v : Value) (w : World) (hv : Nds w v l) (hok : okB 9 9 9 l = true) (hb : base.length ≤ 100) (hp : p.length ≤ 100) (h : seekF 20 l base p false = some r) (h3 : ∀ ev, rmdirE r l ev = R ev) :
    Calls Tryz.prog 16 #[.agg (fsC 9 9 9 v), .string ⟨base.toArray⟩, .string ⟨p.toArray⟩] w fun e w' => ∃ y ev, e = .returned (.tuple #[.agg (fsC 9 9 9 y), .int .i64 (R ev).2]) ∧ Nds w' y (R ev).1 ∧ Below w.heap.size w w' := by
  refine (Rmdir_any 9 9 9 l base p v w hv (ok_s hok) (by omega) (by omega)).mono ?_
  rintro e w' ⟨y, ev, rfl, hM, hB⟩
  have hn := hM.now hv hB
  rw [rmdirF_eq 20 h, h3] at hn
  exact ⟨y, ev, by rw [rmdirF_eq 20 h, h3], hn, hB⟩

set_option maxRecDepth 100000 in
set_option maxHeartbeats 16000000 in
theorem awake12 (w : World) : Calls Tryz.prog 9 #[] w fun e w' => e = .returned (.bool true) ∧ Below w.heap.size w w' := by
  go_enter Tryz.func9, Tryz.ntmps9
  go_wp2_with fail
  refine (small12_any _).mono ?_
  rintro e w0 ⟨v0, g1, g2, rfl, n0, hB⟩
  unfold sqL at n0
  obtain ⟨a0, c0, rfl⟩ := nds_slice n0
  have s0 := alloc_below w0 (.cells (fsC 9 9 9 (.slice a0 3 c0)) 24)
  have b0 := Blk.new w0 24 (fsC 9 9 9 (.slice a0 3 c0))
  replace n0 := n0.below s0
  replace hB := hB.trans (s0.mono hB.size)
  clear s0
  obtain ⟨⟨p0, p1, p2, p3⟩, _⟩ := b0.four
  go_wp2_with fail; refine (aw12_link [sqR g1, sqD g2, sqF] [47, 100] [102] [47, 103] (⟨3, [102], 4⟩, 0) (⟨1, [103], 0⟩, 0) (fun ev => ([qaR ev, sqD g2, qaF], 0)) _ _ n0 (sq_ok g1 g2) (by decide) (by decide) (by decide) (by kernel_rfl) (by kernel_rfl) (fun ev => by kernel_rfl)).mono ?_; rintro e w1 ⟨v1, ev1, rfl, n1, c1⟩
  clear p0 p1 p2 p3
  obtain ⟨a1, k1, rfl⟩ := nds_slice n1
  have s1 := alloc_below w1 (.cells (fsC 9 9 9 (.slice a1 3 k1)) 24)
  have d1 := c1.trans (s1.mono c1.size)
  have b1 := Blk.new w1 24 (fsC 9 9 9 (.slice a1 3 k1))
  replace n1 := n1.below s1
  replace b0 := b0.next d1
  replace n0 := n0.below d1
  replace hB := hB.trans (d1.mono hB.size)
  clear s1 c1 d1
  obtain ⟨⟨p0, p1, p2, p3⟩, _⟩ := b1.four
  go_wp2_with fail; refine (aw12_unlink [qaR ev1, sqD g2, qaF] [47] [100, 47, 102] (⟨3, [102], 4⟩, 0) (fun ev => ([qaR ev1, qbD ev, sqF], 0)) _ _ n1 (qa_ok ev1 g2) (by decide) (by decide) (by kernel_rfl) (fun ev => by kernel_rfl)).mono ?_; rintro e w2 ⟨v2, ev2, rfl, n2, c2⟩
  clear p0 p1 p2 p3
  obtain ⟨a2, k2, rfl⟩ := nds_slice n2
  have s2 := alloc_below w2 (.cells (fsC 9 9 9 (.slice a2 3 k2)) 24)
  have d2 := c2.trans (s2.mono c2.size)
  have b2 := Blk.new w2 24 (fsC 9 9 9 (.slice a2 3 k2))
  replace n2 := n2.below s2
  replace b0 := b0.next d2
  replace n0 := n0.below d2
  replace b1 := b1.next d2
  replace n1 := n1.below d2
  replace hB := hB.trans (d2.mono hB.size)
  clear s2 c2 d2
  obtain ⟨⟨p0, p1, p2, p3⟩, _⟩ := b2.four
  go_wp2_with fail; refine (aw12_rmdir [qaR ev1, qbD ev2, sqF] [47] [100] (⟨1, [100], 3⟩, 0) (fun ev => ([qcR ev, sqF], 0)) _ _ n2 (qb_ok ev1 ev2) (by decide) (by decide) (by kernel_rfl) (fun ev => by kernel_rfl)).mono ?_; rintro e w3 ⟨v3, ev3, rfl, n3, c3⟩
  clear p0 p1 p2 p3
  obtain ⟨a3, k3, rfl⟩ := nds_slice n3
  have s3 := alloc_below w3 (.cells (fsC 9 9 9 (.slice a3 2 k3)) 24)
  have d3 := c3.trans (s3.mono c3.size)
  have b3 := Blk.new w3 24 (fsC 9 9 9 (.slice a3 2 k3))
  replace n3 := n3.below s3
  replace b0 := b0.next d3
  replace n0 := n0.below d3
  replace b1 := b1.next d3
  replace n1 := n1.below d3
  replace b2 := b2.next d3
  replace n2 := n2.below d3
  replace hB := hB.trans (d3.mono hB.size)
  clear s3 c3 d3
  obtain ⟨⟨p0, p1, p2, p3⟩, _⟩ := b0.four
  go_wp2_with fail; refine (aw12_rmdir [sqR g1, sqD g2, sqF] [47] [100] (⟨1, [100], 3⟩, 0) (fun ev => ([sqR g1, sqD g2, sqF], 5)) _ _ n0 (sq_ok g1 g2) (by decide) (by decide) (by kernel_rfl) (fun ev => by kernel_rfl)).mono ?_; rintro e w4 ⟨v4, ev4, rfl, n4, c4⟩
  clear p0 p1 p2 p3
  obtain ⟨a4, k4, rfl⟩ := nds_slice n4
  have s4 := alloc_below w4 (.cells (fsC 9 9 9 (.slice a4 3 k4)) 24)
  have d4 := c4.trans (s4.mono c4.size)
  replace b0 := b0.next d4
  replace n0 := n0.below d4
  replace b1 := b1.next d4
  replace n1 := n1.below d4
  replace b2 := b2.next d4
  replace n2 := n2.below d4
  replace b3 := b3.next d4
  replace n3 := n3.below d4
  replace hB := hB.trans (d4.mono hB.size)
  clear s4 c4 d4 n4
  obtain ⟨⟨p0, p1, p2, p3⟩, _⟩ := b0.four
  go_wp2_with fail; refine (aw12_rmdir [sqR g1, sqD g2, sqF] [47] [47] (⟨0, [], 1⟩, 0) (fun ev => ([sqR g1, sqD g2, sqF], 10)) _ _ n0 (sq_ok g1 g2) (by decide) (by decide) (by kernel_rfl) (fun ev => by kernel_rfl)).mono ?_; rintro e w5 ⟨v5, ev5, rfl, n5, c5⟩
  clear p0 p1 p2 p3
  obtain ⟨a5, k5, rfl⟩ := nds_slice n5
  have s5 := alloc_below w5 (.cells (fsC 9 9 9 (.slice a5 3 k5)) 24)
  have d5 := c5.trans (s5.mono c5.size)
  replace b0 := b0.next d5
  replace n0 := n0.below d5
  replace b1 := b1.next d5
  replace n1 := n1.below d5
  replace b2 := b2.next d5
  replace n2 := n2.below d5
  replace b3 := b3.next d5
  replace n3 := n3.below d5
  replace hB := hB.trans (d5.mono hB.size)
  clear s5 c5 d5 n5
  obtain ⟨⟨p0, p1, p2, p3⟩, _⟩ := b2.four
  go_wp2_with fail; refine (aw12_rmdir [qaR ev1, qbD ev2, sqF] [47] [100, 47, 46] (⟨0, [], 3⟩, 0) (fun ev => ([qaR ev1, qbD ev2, sqF], 9)) _ _ n2 (qb_ok ev1 ev2) (by decide) (by decide) (by kernel_rfl) (fun ev => by kernel_rfl)).mono ?_; rintro e w6 ⟨v6, ev6, rfl, n6, c6⟩
  clear p0 p1 p2 p3
  obtain ⟨a6, k6, rfl⟩ := nds_slice n6
  have s6 := alloc_below w6 (.cells (fsC 9 9 9 (.slice a6 3 k6)) 24)
  have d6 := c6.trans (s6.mono c6.size)
  replace b0 := b0.next d6
  replace n0 := n0.below d6
  replace b1 := b1.next d6
  replace n1 := n1.below d6
  replace b2 := b2.next d6
  replace n2 := n2.below d6
  replace b3 := b3.next d6
  replace n3 := n3.below d6
  replace hB := hB.trans (d6.mono hB.size)
  clear s6 c6 d6 n6
  obtain ⟨⟨p0, p1, p2, p3⟩, _⟩ := b0.four
  go_wp2_with fail; refine (aw12_unlink [sqR g1, sqD g2, sqF] [47] [100] (⟨1, [100], 3⟩, 0) (fun ev => ([sqR g1, sqD g2, sqF], 4)) _ _ n0 (sq_ok g1 g2) (by decide) (by decide) (by kernel_rfl) (fun ev => by kernel_rfl)).mono ?_; rintro e w7 ⟨v7, ev7, rfl, n7, c7⟩
  clear p0 p1 p2 p3
  obtain ⟨a7, k7, rfl⟩ := nds_slice n7
  have s7 := alloc_below w7 (.cells (fsC 9 9 9 (.slice a7 3 k7)) 24)
  have d7 := c7.trans (s7.mono c7.size)
  replace b0 := b0.next d7
  replace n0 := n0.below d7
  replace b1 := b1.next d7
  replace n1 := n1.below d7
  replace b2 := b2.next d7
  replace n2 := n2.below d7
  replace b3 := b3.next d7
  replace n3 := n3.below d7
  replace hB := hB.trans (d7.mono hB.size)
  clear s7 c7 d7 n7
  obtain ⟨⟨p0, p1, p2, p3⟩, _⟩ := b0.four
  go_wp2_with fail; refine (aw12_link [sqR g1, sqD g2, sqF] [47] [100] [120] (⟨1, [100], 3⟩, 0) (⟨1, [120], 0⟩, 0) (fun ev => ([sqR g1, sqD g2, sqF], 11)) _ _ n0 (sq_ok g1 g2) (by decide) (by decide) (by decide) (by kernel_rfl) (by kernel_rfl) (fun ev => by kernel_rfl)).mono ?_; rintro e w8 ⟨v8, ev8, rfl, n8, c8⟩
  clear p0 p1 p2 p3
  obtain ⟨a8, k8, rfl⟩ := nds_slice n8
  have s8 := alloc_below w8 (.cells (fsC 9 9 9 (.slice a8 3 k8)) 24)
  have d8 := c8.trans (s8.mono c8.size)
  replace b0 := b0.next d8
  replace n0 := n0.below d8
  replace b1 := b1.next d8
  replace n1 := n1.below d8
  replace b2 := b2.next d8
  replace n2 := n2.below d8
  replace b3 := b3.next d8
  replace n3 := n3.below d8
  replace hB := hB.trans (d8.mono hB.size)
  clear s8 c8 d8 n8
  obtain ⟨⟨p0, p1, p2, p3⟩, _⟩ := b1.four
  have hG := refGetT_any 9 9 9 4 [qaR ev1, sqD g2, qaF] _ _ n1
  rw [show getN [qaR ev1, sqD g2, qaF] 4 = ⟨4, 1, 2, [], 0, .slice none 0 0, []⟩ from by kernel_rfl, show hasN [qaR ev1, sqD g2, qaF] 4 = true from by kernel_rfl] at hG
  go_wp2_with fail
  refine hG.mono ?_
  rintro e w9 ⟨rfl, c9⟩
  clear p0 p1 p2 p3 hG
  have s9 := alloc_below w9 (.cells (ndC ⟨4, 1, 2, [], 0, .slice none 0 0, []⟩) 42)
  have bX := Blk.new w9 42 (ndC ⟨4, 1, 2, [], 0, .slice none 0 0, []⟩)
  have d9 := c9.trans (s9.mono c9.size)
  replace b3 := b3.next d9
  replace hB := hB.trans (d9.mono hB.size)
  clear s9 c9 d9
  obtain ⟨⟨q0, q1, q2, q3⟩, _⟩ := b3.four
  obtain ⟨⟨x0, x1, x2, x3, x4, x5⟩, _⟩ := bX.six
  dsimp only at x0 x1 x2 x3 x4 x5
  go_wp2
  go_ret
  exact ⟨rfl, hB⟩

/-! ### May a file system, and paths, be looked at? -/
def fit12B (mi mb nx : Int) (l : List Nd) (base p q : List UInt8) : Bool := okB mi mb nx l && shortB l base p && shortB l base q
theorem fit12_parts {mi mb nx : Int} {l : List Nd} {base p q : List UInt8} (h : fit12B mi mb nx l base p q = true) : okB mi mb nx l = true ∧ shortB l base p = true ∧ shortB l base q = true := by
  unfold fit12B at h
  simp only [Bool.and_eq_true] at h
  exact ⟨h.1.1, h.1.2, h.2⟩

set_option maxHeartbeats 4000000 in
theorem fits12_any (mi mb nx : Int) (l : List Nd) (base p q : List UInt8) (v : Value) (w : World) (hv : Nds w v l) :
    Calls Tryz.prog 10 #[.agg (fsC mi mb nx v), .string ⟨base.toArray⟩, .string ⟨p.toArray⟩, .string ⟨q.toArray⟩] w fun e w' => e = .returned (.bool (fit12B mi mb nx l base p q)) ∧ Below w.heap.size w w' := by
  obtain ⟨a, ca, rfl⟩ := nds_slice hv
  have bF := Blk.new w 24 (fsC mi mb nx (.slice a l.length ca))
  have hB := alloc_below w (.cells (fsC mi mb nx (.slice a l.length ca)) 24)
  have nV := hv.below hB
  clear hv
  go_enter Tryz.func10, Tryz.ntmps10
  obtain ⟨⟨p0, p1, p2, p3⟩, _⟩ := bF.four
  go_wp2_with fail; refine (refOk_any mi mb nx l _ _ nV).mono ?_; rintro e w1 ⟨rfl, b1⟩
  (replace bF := bF.next b1; replace nV := nV.below b1; replace hB := hB.trans (b1.mono hB.size))
  clear b1 p0 p1 p2 p3
  obtain ⟨⟨p0, p1, p2, p3⟩, _⟩ := bF.four
  cases hok : okB mi mb nx l
  · have HN : Hid (fit12B mi mb nx l base p q = false) := by (show _ = _); unfold fit12B; rw [hok]; rfl
    go_wp2
    go_ret
    exact ⟨ret_bool (by rw [HN.out]), hB⟩
  go_wp2_with fail
  refine (refShort_any mi mb nx l base p _ _ nV).mono ?_
  rintro e w2 ⟨rfl, b2⟩
  (replace bF := bF.next b2; replace nV := nV.below b2; replace hB := hB.trans (b2.mono hB.size))
  clear b2 p0 p1 p2 p3
  obtain ⟨⟨p0, p1, p2, p3⟩, _⟩ := bF.four
  cases hsh : shortB l base p
  · have HN : Hid (fit12B mi mb nx l base p q = false) := by (show _ = _); unfold fit12B; rw [hok, hsh]; rfl
    go_wp2
    go_ret
    exact ⟨ret_bool (by rw [HN.out]), hB⟩
  have HN : Hid (fit12B mi mb nx l base p q = shortB l base q) := by (show _ = _); unfold fit12B; rw [hok, hsh]; rfl
  go_wp2_with fail
  refine (refShort_any mi mb nx l base q _ _ nV).mono ?_
  rintro e w3 ⟨rfl, b3⟩
  go_wp2
  go_ret
  exact ⟨ret_bool (by rw [HN.out]), hB.trans (b3.mono hB.size)⟩
end Go.Proofs.YtdgedcfenpmaoaaGreat

/- What the statements on what is linked and taken away have in common. -/
set_option linter.unusedVariables false
set_option linter.unusedSimpArgs false
namespace Go.Proofs.YtdgedcfenpmaoaaGreat
open Go.RowKit
set_option linter.unusedVariables false

theorem links_fit {mi mb nx : Int} {l : List Nd} (h : okB mi mb nx l = true) : ∀ i, 0 ≤ (getN l i).links ∧ (getN l i).links ≤ 1000000 := fun i => by
  have := links_few h i
  omega
theorem tab_same {mi mb nx : Int} {a b : List Nd} (h : onesB a b = true) : tabB mi mb nx a mi mb nx b = true := by simp [tabB, h]
theorem short12 {l : List Nd} {base p : List UInt8} (h : shortB l base p = true) : base.length ≤ 1000 ∧ p.length ≤ 5000 := by
  unfold shortB at h
  simp only [Bool.and_eq_true, decide_eq_true_eq] at h
  exact ⟨h.1.2, h.2⟩
end Go.Proofs.YtdgedcfenpmaoaaGreat
