import Derived.Test.YtboceckeebhfoaaDoorQMWalkO17
import Derived.Test.YtboceckeebhfoaaDoorQMWalkA01
import Derived.Test.YtboceckeebhfoaaDoorQMMore
set_option linter.unusedVariables false
set_option linter.unusedSimpArgs false
/- Walks: the program's take, count, Read. -/
set_option linter.unusedVariables false
set_option linter.unusedSimpArgs false
namespace Go.Proofs.YtboceckeebhfoaaDoor
open Go.RowKit

abbrev comC (k : Int) : Array Value := #[.string ⟨(nameK k).toArray⟩, .string ⟨(letK k).toArray⟩, .bool (decide (4 ≤ k)), .int .i64 (needK k)]
def sBadOpt : List UInt8 := [105, 110, 118, 97, 108, 105, 100, 32, 111, 112, 116, 105, 111, 110, 32]
def takeO (k : Int) (l : List (List UInt8)) : List UInt8 := if (lettersN (allK k) l).2.2 ≠ [] then [] else optionsF k (lettersN (allK k) l).1
def takeR (k : Int) (l : List (List UInt8)) : List (List UInt8) := if (lettersN (allK k) l).2.2 ≠ [] then [] else l.drop (lettersN (allK k) l).2.1
def takeF (k : Int) (l : List (List UInt8)) : List UInt8 := if (lettersN (allK k) l).2.2 ≠ [] then sBadOpt ++ quoteB (lettersN (allK k) l).2.2 else []
theorem take_bad {k : Int} {l : List (List UInt8)} {s bad : List UInt8} {n : Nat} (h : lettersN (allK k) l = (s, n, bad)) (hb : bad ≠ []) : takeO k l = [] ∧ takeR k l = [] ∧ takeF k l = sBadOpt ++ quoteB bad := by
  unfold takeO takeR takeF
  rw [h]
  exact ⟨if_pos hb, if_pos hb, if_pos hb⟩
theorem take_good {k : Int} {l : List (List UInt8)} {s : List UInt8} {n : Nat} (h : lettersN (allK k) l = (s, n, [])) : takeO k l = optionsF k s ∧ takeR k l = l.drop n ∧ takeF k l = [] := by
  unfold takeO takeR takeF
  rw [h]
  exact ⟨if_neg (by simp), if_neg (by simp), if_neg (by simp)⟩
theorem strsC_tail {w : World} {a : Option Addr} {c n : Nat} {x : List UInt8} {t : List (List UInt8)} (h : StrsC w (.slice a n c) (x :: t)) :
    ∃ b o, a = some ⟨b, o, none⟩ ∧ n = t.length + 1 ∧ n ≤ c ∧ w.cell? ⟨b, o, none⟩ = some (.string ⟨x.toArray⟩) ∧ b < w.heap.size ∧ (c = 1 → StrsC w (.slice (some ⟨b, o, none⟩) 0 0) t) ∧ (c ≠ 1 → StrsC w (.slice (some ⟨b, o + 1, none⟩) t.length (c - 1)) t) := by
  obtain ⟨⟨a', c', e, hm, hx⟩, h2⟩ := h
  cases e
  obtain ⟨b, o, rfl, hb, hc⟩ := hx (by simp)
  have hcap := (h2 _ _ _ rfl).1
  rw [List.length_cons] at hcap hm
  refine ⟨b, o, rfl, rfl, hcap, hc 0 (by simp), hb, fun e => ?_, fun e => ?_⟩
  · have ht : t = [] := List.eq_nil_of_length_eq_zero (by omega)
    subst ht
    exact ⟨⟨_, _, rfl, Nat.zero_le _, fun h => absurd h (by simp)⟩, fun a n c h => by cases h; exact ⟨Nat.le_refl _, fun h => by cases h⟩⟩
  · refine ⟨⟨_, _, rfl, by omega, fun h => ⟨b, o + 1, rfl, hb, fun i hi => ?_⟩⟩, fun a n c h => by cases h; exact ⟨by omega, fun h => by cases h⟩⟩
    have := hc (i + 1) (by simp; omega)
    rw [show o + 1 + i = o + (i + 1) by omega, this, List.getElem_cons_succ]

theorem letters_all {k : Int} {l : List (List UInt8)} {s bad : List UInt8} {n : Nat} (h : lettersN (allK k) l = (s, n, bad)) : ∀ c ∈ s, (allK k).contains c = true := fun c hc => letters_in (allK k) l c (by rw [h]; exact hc)
theorem zeroG (k : Int) (W : World) : (zeroValue 54).run Tryd.prog W = .ok (.agg (boolsV (marks k []))) W := by
  rw [marks_nil]
  kernel_rfl

set_option maxHeartbeats 8000000 in
set_option maxRecDepth 100000 in
theorem take_any (k : Int) (l : List (List UInt8)) (v : Value) (w : World) (hv : StrsC w v l) (hk : 1 ≤ k ∧ k ≤ 5) (hl : l.length ≤ 900) (he : ∀ y ∈ l, y.length ≤ 1000) :
    Calls Tryd.prog 21 #[.agg (comC k), v] w fun e w' => ∃ vr, e = .returned (.tuple #[.string ⟨(takeO k l).toArray⟩, vr, .string ⟨(takeF k l).toArray⟩]) ∧ StrsC w' vr (takeR k l) ∧ Below w.heap.size w w' := by
  obtain ⟨a, ca, rfl⟩ := strsC_slice hv
  have bC := (Blk.new w 44 (comC k)).alloc (.cells (boolsV (marks k [])) 54)
  have bG := Blk.new (w.alloc (.cells (comC k) 44)) 54 (boolsV (marks k []))
  have hB : Below w.heap.size w ((w.alloc (.cells (comC k) 44)).alloc (.cells (boolsV (marks k [])) 54)) := ((Below.refl _ w).alloc (Nat.le_refl _) _).alloc (by simp) _
  have hV := hv
  have HE := Lib.hid he
  clear he hv
  rw [World.size_alloc] at bG
  go_enter Tryd.func21, Tryd.ntmps21
  have hz := zeroG k
  have HV := Lib.hid hV
  clear hV
  generalize hMK : boolsV (marks k []) = mk at *
  go_wp2
  go_step3
  go_wp2
  go_step3
  go_wp2
  subst hMK
  clear hz
  go_loopg [5] l.length (fun f s5 wr => ∃ (n : Nat) (s : List UInt8), n + f = l.length ∧ Aside (StrsC w s5 (l.drop n)) ∧ Below w.heap.size w wr ∧ Aside (LetAt (allK k) l n s) ∧ Aside (Blk wr w.heap.size 44 (comC k)) ∧ Aside (Blk wr (w.heap.size + 1) 54 (boolsV (marks k s))))
  case atStart => exact ⟨0, [], by omega, HV.out, hB, let_start _ _, bC, bG⟩
  case round =>
    obtain ⟨n, s, hnf, HS, hbw, HL, HC, HG⟩ := hrel
    clear hB bC bG HV
    have hS := HS.out
    obtain ⟨a1, c1, rfl⟩ := strsC_slice hS
    by_cases hlt : n < l.length
    rotate_left
    · obtain rfl : n = l.length := by omega
      have HS0 : Hid (StrsC w (.slice a1 (List.drop l.length l).length c1) (l.drop l.length)) := Lib.hid hS
      rw [List.drop_length] at hS
      clear HS
      generalize hsl : (List.drop l.length l).length = z at *
      have hz0 : z = 0 := by rw [← hsl]; simp
      subst hz0
      clear hsl
      have HE0 := let_end HL.out
      (obtain ⟨g1, g2, g3⟩ := take_good HE0; have hR := rising_any (marks k s) wr (marks_len k s); rw [riseG_is hk.1 hk.2 (letters_all HE0)] at hR; have G1 := Lib.hid g1; have G2 := Lib.hid g2; have G3 := Lib.hid g3; clear g1 g2 g3 HL; have bG := HG.out; generalize hbv : boolsV (marks k s) = bv at *; have hbz : bv.size = 256 := (by rw [← hbv]; simp [boolsV, marks_len]); clear hbv; go_wp2_with (first | (refine wpList_load_row rfl 54 (.tmp 7) rfl (w.heap.size + 1) rfl 54 bv (0, 0) _ bG Tryd.underlying54 rfl (by rw [hbz]; kernel_rfl) ?_) | fail); refine hR.mono ?_; rintro e w8 ⟨rfl, b8⟩; go_wp2; (try rw [Exit.noGoto_ret]); go_ret3; exact ⟨_, by rw [G1.out, G3.out]; rfl, by rw [G2.out]; exact (HS0.out).below (hbw.trans (b8.mono hbw.size)), hbw.trans (b8.mono hbw.size)⟩)
    have HDR := Lib.hid (List.drop_eq_getElem_cons hlt)
    have hy := HE.out l[n] (List.getElem_mem hlt)
    have hdl : (List.drop n l).length = (List.drop (n + 1) l).length + 1 := by rw [HDR.out]; rfl
    have hln : l[n]? = some l[n] := List.getElem?_eq_getElem hlt
    have hS2 : StrsC w (.slice a1 ((List.drop (n + 1) l).length + 1) c1) (l[n] :: List.drop (n + 1) l) := by rw [← hdl, ← HDR.out]; exact hS
    rw [hdl]
    clear hS
    have hD2 : Hid ((List.drop (n + 1) l).length + (n + 1) = l.length) := Lib.hid (by rw [List.length_drop]; omega)
    obtain ⟨b, o, rfl, hN, hNc, cy0, hbl, hT1, hT2⟩ := strsC_tail hS2
    have cy := (hbw.cell (p := ⟨b, o, none⟩) hbl).trans cy0
    clear cy0
    have HSw : Hid (StrsC w (.slice (some ⟨b, o, none⟩) ((List.drop (n + 1) l).length + 1) c1) (l.drop n)) := Lib.hid (by rw [HDR.out]; exact hS2)
    have HT1 := Lib.hid hT1
    have HT2 := Lib.hid hT2
    clear hT1 hT2 hS2 HS hN hdl
    generalize hM : (List.drop (n + 1) l).length = M at *
    clear hM
    cases hdd : (l[n] == [45, 45])
    rotate_left
    · have HE0 := let_dash HL.out hlt (by simpa using hdd)
      by_cases h1 : c1 = 1
      · have HG1 := Lib.hid (HT1.out h1)
        clear HT1 HT2
        subst h1
        obtain rfl : M = 0 := by omega
        (obtain ⟨g1, g2, g3⟩ := take_good HE0; have hR := rising_any (marks k s) wr (marks_len k s); rw [riseG_is hk.1 hk.2 (letters_all HE0)] at hR; have G1 := Lib.hid g1; have G2 := Lib.hid g2; have G3 := Lib.hid g3; clear g1 g2 g3 HL; have bG := HG.out; generalize hbv : boolsV (marks k s) = bv at *; have hbz : bv.size = 256 := (by rw [← hbv]; simp [boolsV, marks_len]); clear hbv; go_wp2_with (first | (refine wpList_load_row rfl 54 (.tmp 7) rfl (w.heap.size + 1) rfl 54 bv (0, 0) _ bG Tryd.underlying54 rfl (by rw [hbz]; kernel_rfl) ?_) | fail); refine hR.mono ?_; rintro e w8 ⟨rfl, b8⟩; go_wp2; (try rw [Exit.noGoto_ret]); go_ret3; exact ⟨_, by rw [G1.out, G3.out]; rfl, by rw [G2.out]; exact (HG1.out).below (hbw.trans (b8.mono hbw.size)), hbw.trans (b8.mono hbw.size)⟩)
      · have h2 : 1 < c1 := by omega
        have HG2 := Lib.hid (HT2.out h1)
        clear HT1 HT2
        (obtain ⟨g1, g2, g3⟩ := take_good HE0; have hR := rising_any (marks k s) wr (marks_len k s); rw [riseG_is hk.1 hk.2 (letters_all HE0)] at hR; have G1 := Lib.hid g1; have G2 := Lib.hid g2; have G3 := Lib.hid g3; clear g1 g2 g3 HL; have bG := HG.out; generalize hbv : boolsV (marks k s) = bv at *; have hbz : bv.size = 256 := (by rw [← hbv]; simp [boolsV, marks_len]); clear hbv; go_wp2_with (first | (refine wpList_load_row rfl 54 (.tmp 7) rfl (w.heap.size + 1) rfl 54 bv (0, 0) _ bG Tryd.underlying54 rfl (by rw [hbz]; kernel_rfl) ?_) | fail); refine hR.mono ?_; rintro e w8 ⟨rfl, b8⟩; go_wp2; (try rw [Exit.noGoto_ret]); go_ret3; exact ⟨_, by rw [G1.out, G3.out]; rfl, by rw [G2.out]; exact (HG2.out).below (hbw.trans (b8.mono hbw.size)), hbw.trans (b8.mono hbw.size)⟩)
    have hdd2 : ¬ l[n] = [45, 45] := by simpa using hdd
    by_cases hw2 : l[n].length < 2
    · have HE0 := let_word HL.out hlt hdd2 (opt_short hw2)
      have hgt : ¬ (1 : Int) < (l[n].length : Int) := by omega
      clear HT1 HT2
      (obtain ⟨g1, g2, g3⟩ := take_good HE0; have hR := rising_any (marks k s) wr (marks_len k s); rw [riseG_is hk.1 hk.2 (letters_all HE0)] at hR; have G1 := Lib.hid g1; have G2 := Lib.hid g2; have G3 := Lib.hid g3; clear g1 g2 g3 HL; have bG := HG.out; generalize hbv : boolsV (marks k s) = bv at *; have hbz : bv.size = 256 := (by rw [← hbv]; simp [boolsV, marks_len]); clear hbv; go_wp2_with (first | (refine wpList_load_row rfl 54 (.tmp 7) rfl (w.heap.size + 1) rfl 54 bv (0, 0) _ bG Tryd.underlying54 rfl (by rw [hbz]; kernel_rfl) ?_) | fail); refine hR.mono ?_; rintro e w8 ⟨rfl, b8⟩; go_wp2; (try rw [Exit.noGoto_ret]); go_ret3; exact ⟨_, by rw [G1.out, G3.out]; rfl, by rw [G2.out]; exact (HSw.out).below (hbw.trans (b8.mono hbw.size)), hbw.trans (b8.mono hbw.size)⟩)
    have hl0 : 0 < l[n].length := by omega
    have hgt : (1 : Int) < (l[n].length : Int) := by omega
    cases h45 : ((l[n][0].toNat : Int) == 45)
    · have HE0 := let_word HL.out hlt hdd2 (opt_no (by omega) (fun e => by rw [e] at h45; exact absurd h45 (by decide)))
      clear HT1 HT2
      (obtain ⟨g1, g2, g3⟩ := take_good HE0; have hR := rising_any (marks k s) wr (marks_len k s); rw [riseG_is hk.1 hk.2 (letters_all HE0)] at hR; have G1 := Lib.hid g1; have G2 := Lib.hid g2; have G3 := Lib.hid g3; clear g1 g2 g3 HL; have bG := HG.out; generalize hbv : boolsV (marks k s) = bv at *; have hbz : bv.size = 256 := (by rw [← hbv]; simp [boolsV, marks_len]); clear hbv; go_wp2_with (first | (refine wpList_load_row rfl 54 (.tmp 7) rfl (w.heap.size + 1) rfl 54 bv (0, 0) _ bG Tryd.underlying54 rfl (by rw [hbz]; kernel_rfl) ?_) | fail); refine hR.mono ?_; rintro e w8 ⟨rfl, b8⟩; go_wp2; (try rw [Exit.noGoto_ret]); go_ret3; exact ⟨_, by rw [G1.out, G3.out]; rfl, by rw [G2.out]; exact (HSw.out).below (hbw.trans (b8.mono hbw.size)), hbw.trans (b8.mono hbw.size)⟩)
    have hop := opt_yes (w := l[n]) (by omega) (by simp at h45; exact UInt8.toNat_inj.1 (by simp; omega))
    have HB := Lib.hid (fun h => let_bad HL.out hlt hdd2 hop h)
    have HX := Lib.hid (fun h => let_next HL.out hlt hdd2 hop h)
    clear HL hdd2 hop HSw
    go_wp2
    have hexq : (ByteArray.mk l[n].toArray).extract 1 l[n].length = ⟨(l[n].drop 1).toArray⟩ := by
      rw [ByteArray.extract_mk]
      congr 1
      simp
      rw [List.take_of_length_le (by simp)]
    have hTl : l[n].length - 1 = (l[n].drop 1).length := by rw [List.length_drop]
    rw [hexq, hTl]
    clear hexq hTl
    generalize hT : l[n].drop 1 = T at *
    have hT1000 : T.length ≤ 1000 := by rw [← hT, List.length_drop]; omega
    have HGM := Lib.hid (marks_give k)
    clear hT
    go_loopw [5, 36] (fun s5 s36 wq => ∃ j : Nat, j ≤ T.length ∧ s5 = .slice (some ⟨b, o, none⟩) (M + 1) c1 ∧ s36 = .int .i64 (j : Int) ∧ Aside (ScanAt (allK k) T j) ∧ Below w.heap.size w wq ∧ Aside (Blk wq w.heap.size 44 (comC k)) ∧ Aside (Blk wq (w.heap.size + 1) 54 (boolsV (marks k (s ++ T.take j))))) (fun _ s36 _ => T.length - (intOf s36).toNat)
    case atStart => exact ⟨0, Nat.zero_le _, rfl, rfl, scan_start _ _, hbw, HC.out, by rw [List.take_zero, List.append_nil]; exact HG.out⟩
    case round =>
      clear hbw HC HG cy
      obtain ⟨j, hj, rfl, rfl, HSC, hbq, HC, HG⟩ := hrel
      rename World => wq
      by_cases hjl : j < T.length
      · have hcell := (HC.out.cell 1).trans (show (comC k)[1]? = some (.string ⟨(letK k).toArray⟩) from rfl)
        have hIX := fun W => IndexByte17_any (letK k) T[j] W
        cases hin : inB (allK k) T[j]
        · have hneg := index_not ((letK_in k T[j]).trans hin)
          generalize Lib.indexByte (letK k) T[j] = ix at *
          have HST := Lib.hid (scan_stop HSC.out hjl hin)
          have HN := Lib.hid (take_bad (HB.out (by rw [HST.out]; simp)) (by rw [HST.out]; simp))
          go_upto_region 12 with fail
          go_quiet ((go_at_call 28; exact Calls.quiet_of_same (hIX _)))
          have hQ := below_drewN (Below.refl wq.heap.size wq) nq
          generalize wq.drewN nq = w9 at *
          have hj1 : IntKind.i64.wrap ((j : Int) + 1) = (j : Int) + 1 := by rw [IntKind.wrap_i64]; omega
          go_wp2_with fail
          rw [byte_at hjl]
          refine (Quote_any [T[j]] _ (by simp)).mono ?_
          rintro e w8 ⟨rfl, b8⟩
          have hql := quoteB_len [T[j]]
          have hcat1 := cat_run (P := Tryd.prog) sBadOpt (quoteB [T[j]]) (by simp [sBadOpt]; simp at hql; omega)
          unfold sBadOpt at hcat1
          go_wp2
          (try rw [Exit.noGoto_ret])
          go_ret3
          exact ⟨.slice none 0 0, by rw [HN.out.1, HN.out.2.2, HST.out]; rfl, by rw [HN.out.2.1]; exact StrsC.nil_ _, (hbq.trans (hQ.mono hbq.size)).trans (b8.mono (hbq.trans (hQ.mono hbq.size)).size)⟩
        · have hpos := index_yes ((letK_in k T[j]).trans hin)
          generalize Lib.indexByte (letK k) T[j] = ix at *
          go_upto_region 12 with fail
          go_quiet ((go_at_call 28; exact Calls.quiet_of_same (hIX _)))
          have hq9 := below_drewN (Below.refl wq.heap.size wq) nq
          generalize wq.drewN nq = w9 at *
          have hcell2 := ((HC.out.next hq9).cell 2).trans (show (comC k)[2]? = some (.bool (decide (4 ≤ k))) from rfl)
          go_upto_region 14 with fail
          go_still_tail 5, (by kernel_rfl)
          change wpList _ _ _ _ _ (World.drew w9)
          have hQ := hq9.drew
          generalize hw2 : World.drew w9 = w2 at *
          have hGv := give_any (w.heap.size + 1) (marks k (s ++ T.take j)) T[j] (decide (4 ≤ k)) w2 (HG.out.next hQ) (marks_len _ _)
          rw [← HGM.out] at hGv
          have hTK := Lib.hid (List.take_succ_eq_append_getElem hjl)
          have HS2 := Lib.hid (scan_next HSC.out hjl hin)
          go_wp2_with fail
          refine hGv.mono ?_
          rintro e w3 ⟨rfl, hG3, hg3⟩
          have hB3 := hbq.trans (hQ.mono hbq.size)
          have hC3 := (HC.out.next hQ).kept hg3 (by simp)
          have hB4 := grown_below hB3 hg3 (Nat.le_refl _) (by omega)
          go_wp2
          go_roundw
          case rel => exact ⟨j + 1, hjl, rfl, by go_num, HS2.out, hB4, hC3, by rw [hTK.out, ← List.append_assoc]; exact hG3⟩
          case measure => simp [intOf]; omega
      · obtain rfl : j = T.length := by omega
        have hall : scanW (allK k) T = (T, []) := scan_end HSC.out
        have HX2 := HX.out (by rw [hall])
        rw [hall] at HX2
        have HX3 := Lib.hid HX2
        have hG4 := HG.out
        rw [List.take_length] at hG4
        have HG4 := Lib.hid hG4
        have HD := hD2.out
        clear HB HX HSC hall HX2 hG4 HG
        obtain ⟨G, rfl⟩ : ∃ G, gk = G + 1 := ⟨gk - 1, by omega⟩
        by_cases h1 : c1 = 1
        · have HG1 := Lib.hid (HT1.out h1)
          clear HT1 HT2
          subst h1
          obtain rfl : M = 0 := by omega
          go_wp2
          go_roundg G
          case rel => exact ⟨n + 1, s ++ T, by omega, HG1.out, hbq, HX3.out, HC.out, HG4.out⟩
          case measure => omega
        · have h2 : 1 < c1 := by omega
          have HG2 := Lib.hid (HT2.out h1)
          clear HT1 HT2
          go_wp2
          go_roundg G
          case rel => exact ⟨n + 1, s ++ T, by omega, HG2.out, hbq, HX3.out, HC.out, HG4.out⟩
          case measure => omega

def sMissOp : List UInt8 := [109, 105, 115, 115, 105, 110, 103, 32, 111, 112, 101, 114, 97, 110, 100]
def sDst : List UInt8 := [109, 105, 115, 115, 105, 110, 103, 32, 100, 101, 115, 116, 105, 110, 97, 116, 105, 111, 110, 32, 111, 112, 101, 114, 97, 110, 100, 32, 97, 102, 116, 101, 114, 32]
def sExt : List UInt8 := [101, 120, 116, 114, 97, 32, 111, 112, 101, 114, 97, 110, 100, 32]
/-- What is told of a command's operands. -/
def countF (k : Int) (o : List UInt8) (L : List (List UInt8)) : List UInt8 :=
  if L = [] ∧ ¬ (k = 2 ∧ inB o 102 = true) then sMissOp
  else if L ≠ [] ∧ L.length < leastF k o then sDst ++ quoteB (L.getLastD [])
  else if 2 < L.length ∧ inB o 84 = true then sExt ++ quoteB (L.getD 2 [])
  else []
theorem count_ops (k : Int) (w o : List UInt8) (L : List (List UInt8)) : opsF k w o L = if countF k o L = [] then (⟨k, o, L⟩, []) else (noC, w ++ [58, 32] ++ countF k o L) := by
  unfold opsF countF inB
  split
  · rw [if_neg (by simp [sMissOp])]; simp [sOperand, sMissOp]
  split
  · rw [if_neg (by simp [sDst])]; simp [sDest, sDst]
  split
  · rw [if_neg (by simp [sExt])]; simp [sExtra, sExt]
  · rw [if_pos rfl]
theorem cnt_miss {k : Int} {o : List UInt8} {L : List (List UInt8)} (h0 : L.length = 0) (h : ¬ (k = 2 ∧ inB o 102 = true)) : countF k o L = sMissOp := by
  unfold countF; rw [if_pos ⟨List.eq_nil_of_length_eq_zero h0, h⟩]
theorem cnt_dst {k : Int} {o : List UInt8} {L : List (List UInt8)} (h0 : L.length = 1) (h : leastF k o = 2) : countF k o L = sDst ++ quoteB (L[0]'(by omega)) := by
  match L, h0 with
  | [y], _ => unfold countF; rw [if_neg (by simp), if_pos ⟨by simp, by rw [h]; simp⟩]; rfl
theorem cnt_ext {k : Int} {o : List UInt8} {L : List (List UInt8)} (h0 : 2 < L.length) (h : inB o 84 = true) : countF k o L = sExt ++ quoteB (L[2]'h0) := by
  have hl : leastF k o ≤ 2 := by unfold leastF; split <;> omega
  unfold countF
  rw [if_neg (fun c => by rw [c.1] at h0; simp at h0), if_neg (fun c => by have := c.2; omega), if_pos ⟨h0, h⟩, List.getD_eq_getElem?_getD, List.getElem?_eq_getElem h0]
  rfl
theorem cnt_none {k : Int} {o : List UInt8} {L : List (List UInt8)} (h1 : L.length ≠ 0 ∨ (k = 2 ∧ inB o 102 = true)) (h2 : L.length = 0 ∨ leastF k o ≤ L.length) (h3 : L.length ≤ 2 ∨ inB o 84 = false) : countF k o L = [] := by
  unfold countF
  rw [if_neg (fun c => by rcases h1 with h | h; exact h (by rw [c.1]; rfl); exact c.2 h), if_neg (fun c => by have := c.2; rcases h2 with h | h; exact c.1 (List.eq_nil_of_length_eq_zero h); omega), if_neg (fun c => by rcases h3 with h | h; omega; rw [h] at c; cases c.2)]

set_option maxHeartbeats 8000000 in
set_option maxRecDepth 100000 in
theorem count_any (k : Int) (o : List UInt8) (L : List (List UInt8)) (v : Value) (w : World) (hv : Strs w v L) (hk : 1 ≤ k ∧ k ≤ 5) (hl : L.length ≤ 900) (he : ∀ y ∈ L, y.length ≤ 1000) (ho : o.length ≤ 1000) (hT2 : inB o 84 = true → k ≠ 2) (hLd : Laid17 w) :
    Calls Tryd.prog 23 #[.agg (cmdC ⟨k, o, L⟩ v)] w fun e w' => e = .returned (.string ⟨(countF k o L).toArray⟩) ∧ Below w.heap.size w w' := by
  obtain ⟨a, ca, rfl, hm, HA0⟩ := hv
  have HA := Lib.hid HA0
  have HE := Lib.hid he
  have bC := Blk.new w 26 (cmdC ⟨k, o, L⟩ (.slice a L.length ca))
  have hB := below_new w (.cells (cmdC ⟨k, o, L⟩ (.slice a L.length ca)) 26)
  obtain ⟨kn, rfl⟩ : ∃ n : Nat, k = n := ⟨k.toNat, by omega⟩
  have hk6 : kn < 6 := by omega
  have t3 := (hB.cell (p := ⟨0, kn * 4 + 3, none⟩) hLd.1).trans (hLd.2 kn hk6).2.2.2
  have hH := fun (x : UInt8) W => Has17_any ⟨kn, o, L⟩ (.slice a L.length ca) x W ho ⟨_, _, _, rfl⟩
  dsimp only at hH
  have hnk : needK (kn : Int) = if 4 ≤ (kn : Int) then 2 else 1 := by
    unfold needK
    rw [if_neg (by omega)]
    split <;> split <;> omega
  clear HA0 he hm hLd
  generalize hW0 : w.alloc (.cells (cmdC ⟨kn, o, L⟩ (.slice a L.length ca)) 26) = W0 at *
  obtain ⟨⟨p0, p1, p2⟩, _⟩ := bC.tri
  dsimp only at p0 p1 p2
  have hk0 : (0 : Int) ≤ (kn : Int) := by omega
  have hk6' : (kn : Int) < 6 := by omega
  cases hT : inB o 84
  · have hlF : leastF (kn : Int) o = if 4 ≤ (kn : Int) then 2 else 1 := by rw [least_is, hT, Bool.or_false]; simp
    by_cases hk2 : kn = 2
    · have h2k : ((kn : Int) == 2) = true := by rw [hk2]; rfl
      have hnl : needK (kn : Int) = 1 := by rw [hk2]; rfl
      have hl1 : leastF (kn : Int) o = 1 := by rw [hlF, hk2]; rfl
      have hki : (kn : Int) = 2 := by omega
      rw [hnl] at t3
      clear hnk hlF hnl
      cases hf : inB o 102
      · by_cases h0 : L.length = 0
        · have HN := Lib.hid (cnt_miss (k := (kn : Int)) (o := o) h0 (fun c => by rw [hf] at c; cases c.2))
          rw [h0] at p2 hH bC hW0 ⊢
          clear h0 hl1 hki hk2
          ((go_enter Tryd.func23, Tryd.ntmps23; go_wp2_with fail; refine (hH 84 _).mono ?_; rintro e w1 ⟨rfl, b1⟩; rw [hT]; replace bC := bC.next b1; replace hB := hB.trans (b1.mono hB.size); clear b1 p0 p1 p2 t3 hW0; obtain ⟨⟨p0, p1, p2⟩, _⟩ := bC.tri; dsimp only at p0 p1 p2); go_wp2_with fail; refine (hH 102 _).mono ?_; rintro e w2 ⟨rfl, b2⟩; rw [hf]; replace bC := bC.next b2; replace hB := hB.trans (b2.mono hB.size); clear b2 p0 p1 p2; obtain ⟨⟨p0, p1, p2⟩, _⟩ := bC.tri; dsimp only at p0 p1 p2)
          (go_wp2; go_ret; exact ⟨by rw [HN.out]; rfl, hB⟩)
        · have HN := Lib.hid (cnt_none (k := (kn : Int)) (o := o) (.inl h0) (.inr (by omega)) (.inr hT))
          have g1 : ¬ ((L.length : Int) < 1) := by omega
          clear hl1 hki hk2
          ((go_enter Tryd.func23, Tryd.ntmps23; go_wp2_with fail; refine (hH 84 _).mono ?_; rintro e w1 ⟨rfl, b1⟩; rw [hT]; replace bC := bC.next b1; replace hB := hB.trans (b1.mono hB.size); clear b1 p0 p1 p2 t3 hW0; obtain ⟨⟨p0, p1, p2⟩, _⟩ := bC.tri; dsimp only at p0 p1 p2); go_wp2_with fail; refine (hH 102 _).mono ?_; rintro e w2 ⟨rfl, b2⟩; rw [hf]; replace bC := bC.next b2; replace hB := hB.trans (b2.mono hB.size); clear b2 p0 p1 p2; obtain ⟨⟨p0, p1, p2⟩, _⟩ := bC.tri; dsimp only at p0 p1 p2)
          (go_wp2; go_ret; exact ⟨by rw [HN.out]; rfl, hB⟩)
      · have HN := Lib.hid (cnt_none (k := (kn : Int)) (o := o) (L := L) (.inr ⟨hki, hf⟩) (by omega) (.inr hT))
        have g1 : ¬ ((L.length : Int) < 0) := by omega
        clear hl1 hki hk2
        ((go_enter Tryd.func23, Tryd.ntmps23; go_wp2_with fail; refine (hH 84 _).mono ?_; rintro e w1 ⟨rfl, b1⟩; rw [hT]; replace bC := bC.next b1; replace hB := hB.trans (b1.mono hB.size); clear b1 p0 p1 p2 t3 hW0; obtain ⟨⟨p0, p1, p2⟩, _⟩ := bC.tri; dsimp only at p0 p1 p2); go_wp2_with fail; refine (hH 102 _).mono ?_; rintro e w2 ⟨rfl, b2⟩; rw [hf]; replace bC := bC.next b2; replace hB := hB.trans (b2.mono hB.size); clear b2 p0 p1 p2; obtain ⟨⟨p0, p1, p2⟩, _⟩ := bC.tri; dsimp only at p0 p1 p2)
        (go_wp2; go_ret; exact ⟨by rw [HN.out]; rfl, hB⟩)
    · have hk2b : ((kn : Int) == 2) = false := by rw [beq_eq_false_iff_ne]; omega
      obtain ⟨lst, hls⟩ : ∃ n : Nat, leastF (kn : Int) o = n := ⟨_, rfl⟩
      have hnl : needK (kn : Int) = (lst : Int) := by rw [hnk, ← hls, hlF]; split <;> rfl
      have hl12 : 1 ≤ lst ∧ lst ≤ 2 := by rw [← hls, hlF]; split <;> omega
      rw [hnl] at t3
      by_cases h0 : L.length = 0
      · have HN := Lib.hid (cnt_miss (k := (kn : Int)) (o := o) h0 (fun c => hk2 (by omega)))
        have hz : (0 : Int) < (lst : Int) := by omega
        rw [h0] at p2 hH bC hW0 ⊢
        clear hls hnl hlF hnk h0
        (go_enter Tryd.func23, Tryd.ntmps23; go_wp2_with fail; refine (hH 84 _).mono ?_; rintro e w1 ⟨rfl, b1⟩; rw [hT]; replace bC := bC.next b1; replace hB := hB.trans (b1.mono hB.size); clear b1 p0 p1 p2 t3 hW0; obtain ⟨⟨p0, p1, p2⟩, _⟩ := bC.tri; dsimp only at p0 p1 p2)
        (go_wp2; go_ret; exact ⟨by rw [HN.out]; rfl, hB⟩)
      · by_cases h1 : L.length = 1 ∧ lst = 2
        · obtain ⟨h1, rfl⟩ := h1
          have HN := Lib.hid (cnt_dst (k := (kn : Int)) (o := o) h1 hls)
          obtain ⟨b, off, rfl, hb, hc⟩ := HA.out (by omega)
          have HC := Lib.hid hc
          have hLp : 0 < L.length := by omega
          rw [h1] at p2 hH bC hW0 ⊢
          clear hls hnl hlF hnk hc
          (go_enter Tryd.func23, Tryd.ntmps23; go_wp2_with fail; refine (hH 84 _).mono ?_; rintro e w1 ⟨rfl, b1⟩; rw [hT]; replace bC := bC.next b1; replace hB := hB.trans (b1.mono hB.size); clear b1 p0 p1 p2 t3 hW0; obtain ⟨⟨p0, p1, p2⟩, _⟩ := bC.tri; dsimp only at p0 p1 p2)
          (have hcy := (hB.cell (p := ⟨b, off + 0, none⟩) hb).trans (HC.out 0 (by omega)); (try simp only [Nat.add_zero] at hcy); have hly := HE.out _ (List.getElem_mem (show 0 < L.length by omega)); generalize hyy : L[0]'(by omega) = y at *; go_wp2_with fail; refine (Quote_any y _ (by omega)).mono ?_; rintro e w8 ⟨rfl, b8⟩; have hql := quoteB_len y; have hcat1 := cat_run (P := Tryd.prog) sDst (quoteB y) (by simp [sDst]; omega); unfold sDst at hcat1; go_wp2; go_ret; exact ⟨by rw [HN.out]; rfl, hB.trans (b8.mono hB.size)⟩)
        · have HN := Lib.hid (cnt_none (k := (kn : Int)) (o := o) (.inl h0) (.inr (by omega)) (.inr hT))
          have g1 : ¬ ((L.length : Int) < (lst : Int)) := by omega
          clear hls hnl hlF hnk
          (go_enter Tryd.func23, Tryd.ntmps23; go_wp2_with fail; refine (hH 84 _).mono ?_; rintro e w1 ⟨rfl, b1⟩; rw [hT]; replace bC := bC.next b1; replace hB := hB.trans (b1.mono hB.size); clear b1 p0 p1 p2 t3 hW0; obtain ⟨⟨p0, p1, p2⟩, _⟩ := bC.tri; dsimp only at p0 p1 p2)
          (go_wp2; go_ret; exact ⟨by rw [HN.out]; rfl, hB⟩)
  · have hk2 := hT2 hT
    have hlF : leastF (kn : Int) o = 2 := by rw [least_is, hT, Bool.or_true]; simp
    clear hnk hT2
    by_cases h0 : L.length = 0
    · have HN := Lib.hid (cnt_miss (k := (kn : Int)) (o := o) h0 (fun c => hk2 c.1))
      rw [h0] at p2 hH bC hW0 ⊢
      clear hlF h0
      (go_enter Tryd.func23, Tryd.ntmps23; go_wp2_with fail; refine (hH 84 _).mono ?_; rintro e w1 ⟨rfl, b1⟩; rw [hT]; replace bC := bC.next b1; replace hB := hB.trans (b1.mono hB.size); clear b1 p0 p1 p2 t3 hW0; obtain ⟨⟨p0, p1, p2⟩, _⟩ := bC.tri; dsimp only at p0 p1 p2)
      (go_wp2; go_ret; exact ⟨by rw [HN.out]; rfl, hB⟩)
    by_cases h1 : L.length = 1
    · have HN := Lib.hid (cnt_dst (k := (kn : Int)) (o := o) h1 hlF)
      obtain ⟨b, off, rfl, hb, hc⟩ := HA.out (by omega)
      have HC := Lib.hid hc
      have hLp : 0 < L.length := by omega
      rw [h1] at p2 hH bC hW0 ⊢
      clear hlF hc
      (go_enter Tryd.func23, Tryd.ntmps23; go_wp2_with fail; refine (hH 84 _).mono ?_; rintro e w1 ⟨rfl, b1⟩; rw [hT]; replace bC := bC.next b1; replace hB := hB.trans (b1.mono hB.size); clear b1 p0 p1 p2 t3 hW0; obtain ⟨⟨p0, p1, p2⟩, _⟩ := bC.tri; dsimp only at p0 p1 p2)
      (have hcy := (hB.cell (p := ⟨b, off + 0, none⟩) hb).trans (HC.out 0 (by omega)); (try simp only [Nat.add_zero] at hcy); have hly := HE.out _ (List.getElem_mem (show 0 < L.length by omega)); generalize hyy : L[0]'(by omega) = y at *; go_wp2_with fail; refine (Quote_any y _ (by omega)).mono ?_; rintro e w8 ⟨rfl, b8⟩; have hql := quoteB_len y; have hcat1 := cat_run (P := Tryd.prog) sDst (quoteB y) (by simp [sDst]; omega); unfold sDst at hcat1; go_wp2; go_ret; exact ⟨by rw [HN.out]; rfl, hB.trans (b8.mono hB.size)⟩)
    by_cases h2 : L.length = 2
    · have HN := Lib.hid (cnt_none (k := (kn : Int)) (o := o) (.inl h0) (.inr (by omega)) (.inl (by omega)))
      rw [h2] at p2 hH bC hW0 ⊢
      clear hlF h0 h1 h2
      (go_enter Tryd.func23, Tryd.ntmps23; go_wp2_with fail; refine (hH 84 _).mono ?_; rintro e w1 ⟨rfl, b1⟩; rw [hT]; replace bC := bC.next b1; replace hB := hB.trans (b1.mono hB.size); clear b1 p0 p1 p2 t3 hW0; obtain ⟨⟨p0, p1, p2⟩, _⟩ := bC.tri; dsimp only at p0 p1 p2)
      (go_wp2; go_ret; exact ⟨by rw [HN.out]; rfl, hB⟩)
    · have h3 : 2 < L.length := by omega
      have HN := Lib.hid (cnt_ext (k := (kn : Int)) (o := o) h3 hT)
      obtain ⟨b, off, rfl, hb, hc⟩ := HA.out (by omega)
      have HC := Lib.hid hc
      have g1 : ¬ ((L.length : Int) < 2) := by omega
      have g2 : (2 : Int) < (L.length : Int) := by omega
      clear hlF hc h0 h1 h2
      (go_enter Tryd.func23, Tryd.ntmps23; go_wp2_with fail; refine (hH 84 _).mono ?_; rintro e w1 ⟨rfl, b1⟩; rw [hT]; replace bC := bC.next b1; replace hB := hB.trans (b1.mono hB.size); clear b1 p0 p1 p2 t3 hW0; obtain ⟨⟨p0, p1, p2⟩, _⟩ := bC.tri; dsimp only at p0 p1 p2)
      (have hcy := (hB.cell (p := ⟨b, off + 2, none⟩) hb).trans (HC.out 2 (by omega)); (try simp only [Nat.add_zero] at hcy); have hly := HE.out _ (List.getElem_mem (show 2 < L.length by omega)); generalize hyy : L[2]'(by omega) = y at *; go_wp2_with fail; refine (Quote_any y _ (by omega)).mono ?_; rintro e w8 ⟨rfl, b8⟩; have hql := quoteB_len y; have hcat1 := cat_run (P := Tryd.prog) sExt (quoteB y) (by simp [sExt]; omega); unfold sExt at hcat1; go_wp2; go_ret; exact ⟨by rw [HN.out]; rfl, hB.trans (b8.mono hB.size)⟩)
end Go.Proofs.YtboceckeebhfoaaDoor
