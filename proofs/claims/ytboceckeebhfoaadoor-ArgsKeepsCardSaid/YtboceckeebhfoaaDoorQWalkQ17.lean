import Derived.Test.YtboceckeebhfoaaDoorQWalkP17
set_option linter.unusedVariables false
set_option linter.unusedSimpArgs false
/- Walks: the program's Read. -/
set_option linter.unusedVariables false
set_option linter.unusedSimpArgs false
namespace Go.Proofs.YtboceckeebhfoaaDoor
open Go.RowKit

def sMissC : List UInt8 := [109, 105, 115, 115, 105, 110, 103, 32, 99, 111, 109, 109, 97, 110, 100]
def sUnkC : List UInt8 := [117, 110, 107, 110, 111, 119, 110, 32, 99, 111, 109, 109, 97, 110, 100]
theorem read_unk {x : List UInt8} {t : List (List UInt8)} (h : kindF x = 0) : readA (x :: t) = (noC, lineB [quoteB x, sUnkC]) := by
  rw [read_cons, if_pos h]
  simp [lineB, sUnknown, sUnkC]
theorem read_prog {x : List UInt8} {t : List (List UInt8)} {k : Int} (hk : kindF x = k) (h0 : k ≠ 0) : readA (x :: t) =
    if takeF k t ≠ [] then (noC, lineB [nameK k, takeF k t])
    else if countF k (takeO k t) (takeR k t) ≠ [] then (noC, lineB [nameK k, countF k (takeO k t) (takeR k t)])
    else (⟨k, takeO k t, takeR k t⟩, []) := by
  have hx : nameK k = x := by rw [← hk]; exact name_kind (by rw [hk]; exact h0)
  rw [read_cons, hk, if_neg h0, hx, count_ops]
  unfold takeF takeO takeR
  by_cases hb : (lettersN (allK k) t).2.2 = []
  · simp only [hb, ne_eq, not_true_eq_false, if_false]
    split
    · rfl
    · simp [lineB]
  · simp only [hb, ne_eq, not_false_eq_true, if_true]
    rw [if_pos (by simp [sBadOpt])]
    simp [lineB, sInvalid, sBadOpt]
theorem takeO_len (k : Int) (l : List (List UInt8)) : (takeO k l).length ≤ 58 := by
  unfold takeO
  split
  · simp
  · exact options_len k _ 58
theorem takeR_in (k : Int) (l : List (List UInt8)) : (takeR k l).length ≤ l.length ∧ ∀ y ∈ takeR k l, y ∈ l := by
  unfold takeR
  split
  · simp
  · exact ⟨by rw [List.length_drop]; omega, fun y hy => List.mem_of_mem_drop hy⟩
theorem takeF_len (k : Int) (l : List (List UInt8)) : (takeF k l).length ≤ 100 := by
  unfold takeF
  split
  · have h := quoteB_len (lettersN (allK k) l).2.2
    have h2 : (lettersN (allK k) l).2.2.length ≤ 1 := by
      have : ∀ l : List (List UInt8), (lettersN (allK k) l).2.2.length ≤ 1 := by
        intro l
        induction l with
        | nil => simp [lettersN]
        | cons w t ih =>
          have hs : ∀ u : List UInt8, (scanW (allK k) u).2.length ≤ 1 := by
            intro u
            induction u with
            | nil => simp [scanW]
            | cons c u ih => rw [scanW]; split; exact ih; simp
          rw [lettersN]
          split
          · simp
          split
          · simp
          split
          · exact hs _
          · exact ih
      exact this l
    simp [sBadOpt]
    omega
  · simp
theorem takeO_T {k : Int} {l : List (List UInt8)} (h : inB (takeO k l) 84 = true) : k ≠ 2 := by
  rintro rfl
  unfold inB takeO at h
  split at h
  · cases h
  · rw [List.contains_iff_mem] at h
    unfold optionsF optionsK at h
    rw [List.mem_filter] at h
    have h2 := h.2
    unfold isO at h2
    rw [if_neg (by decide), if_neg (by decide), if_neg (by decide)] at h2
    have := letters_in (allK 2) l 84 (List.contains_iff_mem.1 h2)
    exact absurd this (by decide)
theorem count_len (k : Int) (o : List UInt8) (L : List (List UInt8)) (h : ∀ y ∈ L, y.length ≤ 1000) : (countF k o L).length ≤ 5000 := by
  unfold countF
  split
  · decide
  split
  · have := quoteB_len (L.getLastD [])
    have h2 : (L.getLastD []).length ≤ 1000 := by
      rw [List.getLastD_eq_getLast?]
      cases hg : L.getLast? with
      | none => simp
      | some y => exact h y (List.mem_of_getLast? hg)
    generalize L.getLastD [] = y at *
    rw [List.length_append, show sDst.length = 34 from rfl]
    omega
  split
  · have := quoteB_len (L.getD 2 [])
    have h2 : (L.getD 2 []).length ≤ 1000 := by
      rw [List.getD_eq_getElem?_getD]
      cases hg : L[2]? with
      | none => simp
      | some y => exact h y (List.mem_of_getElem? hg)
    generalize L.getD 2 [] = y at *
    rw [List.length_append, show sExt.length = 14 from rfl]
    omega
  · simp

theorem strs_at (w : World) (t : TypeId) (C : Array Value) (l : List (List UInt8)) (B n : Nat) (hB : B = w.heap.size) (hC : C = (strsV l).toArray) (hn : n = l.length) (hm : l.length ≤ maxLen) : Strs (w.alloc (.cells C t)) (.slice (some ⟨B, 0, none⟩) n n) l := by
  subst hB
  exact new_strs w t C l n n hC hn hm

set_option maxHeartbeats 8000000 in
set_option maxRecDepth 100000 in
theorem Read17_nil (v : Value) (w : World) (hv : StrsC w v []) :
    Calls Tryd.prog 10 #[v] w fun e w' => ∃ vo, e = .returned (.tuple #[.agg (cmdC (readA []).1 vo), .string ⟨(readA []).2.toArray⟩]) ∧ w'.ownsRow w.heap.size 9 1 vo (readA []).1.ops.length (strsV (readA []).1.ops) ∧ Below w.heap.size w w' := by
  obtain ⟨a, ca, rfl⟩ := strsC_slice hv
  clear hv
  have bR := Blk.new w 26 #[.int .i64 0, .string ⟨#[]⟩, .slice none 0 0]
  have hB := below_new w (.cells #[.int .i64 0, .string ⟨#[]⟩, .slice none 0 0] 26)
  have hLn : ∀ W v, Strs W v [sMissC] → Calls Tryd.prog 18 #[v] W fun e w' => e = .returned (.string ⟨sMissing.toArray⟩) ∧ Below W.heap.size W w' := fun W v h => Line_any [sMissC] v W h (by decide) (by decide)
  go_enter Tryd.func10, Tryd.ntmps10
  go_wp2_with fail
  have g1 := below_new (w.alloc (.cells #[.int .i64 0, .string ⟨#[]⟩, .slice none 0 0] 26)) (.cells #[.string ⟨sMissC.toArray⟩] 9)
  replace bR := bR.next g1
  replace hB := hB.trans (g1.mono hB.size)
  refine (hLn _ _ (strs_at _ _ _ [sMissC] _ _ (by simp) rfl rfl (by decide))).mono ?_
  rintro e w2 ⟨rfl, b2⟩
  replace bR := bR.next b2
  replace hB := hB.trans (b2.mono hB.size)
  obtain ⟨⟨r0, r1, r2⟩, e0, e1, e2⟩ := bR.tri
  obtain ⟨W', hW', hb3, hg3⟩ := bR.putTri (.int .i64 0) (.string ⟨#[]⟩) (.slice none 0 0)
  have hbl := grown_below hB hg3 (Nat.le_refl _) (Nat.le_refl _)
  go_wp2
  obtain ⟨⟨y0, y1, y2⟩, _⟩ := hb3.tri
  refine bodyPost_ret (v := .tuple #[.agg #[.int .i64 0, .string ⟨#[]⟩, .slice none 0 0], .string ⟨sMissing.toArray⟩]) (by simp [results, Tryd.f10, go_sem, y0, y1, y2, sMissing]) rfl ?_
  exact ⟨.slice none 0 0, rfl, World.ownsRow_nil _ _ _ _, hbl⟩

theorem line_two (a b : List UInt8) : (lineB [a, b]).length = a.length + 2 + b.length := by simp [lineB]; omega

set_option maxHeartbeats 16000000 in
set_option maxRecDepth 100000 in
theorem Read17_cons (x : List UInt8) (t : List (List UInt8)) (v : Value) (w : World) (hv : StrsC w v (x :: t)) (hl : t.length ≤ 900) (he : ∀ y ∈ x :: t, y.length ≤ 1000) (hLd : Laid17 w) :
    Calls Tryd.prog 10 #[v] w fun e w' => ∃ vo, e = .returned (.tuple #[.agg (cmdC (readA (x :: t)).1 vo), .string ⟨(readA (x :: t)).2.toArray⟩]) ∧ w'.ownsRow w.heap.size 9 1 vo (readA (x :: t)).1.ops.length (strsV (readA (x :: t)).1.ops) ∧ Below w.heap.size w w' := by
  obtain ⟨a, ca, rfl⟩ := strsC_slice hv
  rw [List.length_cons] at *
  obtain ⟨b, o, rfl, _, hNc, c0, hbl, hT1, hT2⟩ := strsC_tail hv
  have hx := he x List.mem_cons_self
  have HE := Lib.hid (fun y hy => he y (List.mem_cons_of_mem x hy))
  have HT1 := Lib.hid hT1
  have HT2 := Lib.hid hT2
  clear hv he hT1 hT2
  have bR := Blk.new w 26 #[.int .i64 0, .string ⟨#[]⟩, .slice none 0 0]
  have hB := below_new w (.cells #[.int .i64 0, .string ⟨#[]⟩, .slice none 0 0] 26)
  have hlb : ((t.length : Int) + 1 == 0) = false := by rw [beq_eq_false_iff_ne]; omega
  generalize hW0 : w.alloc (.cells #[.int .i64 0, .string ⟨#[]⟩, .slice none 0 0] 26) = W0 at *
  have c1 := (hB.cell (p := ⟨b, o, none⟩) hbl).trans c0
  have HL := Lib.hid hLd
  have hKO := kindOf_any x W0 (hLd.next hB)
  clear hLd
  go_enter Tryd.func10, Tryd.ntmps10
  go_wp2_with fail
  refine hKO.mono ?_
  rintro e w2 ⟨rfl, rfl⟩
  clear hKO hW0
  by_cases hK : kindF x = 0
  · have HN := Lib.hid (read_unk (t := t) hK)
    have hkb : (kindF x == 0) = true := by rw [beq_iff_eq]; exact hK
    clear hK
    go_wp2_with fail
    refine (Quote_any x _ (by omega)).mono ?_
    rintro e w3 ⟨rfl, b3⟩
    have hql := quoteB_len x
    replace bR := bR.next b3
    replace hB := hB.trans (b3.mono hB.size)
    go_wp2_with fail
    (have gL := below_new w3 (.cells #[.string ⟨(quoteB x).toArray⟩, .string ⟨sUnkC.toArray⟩] 9); have bR2 := bR.next gL; have hB2 := hB.trans (gL.mono hB.size); have hLq := Line_any [quoteB x, sUnkC] _ _ (strs_at w3 9 #[.string ⟨(quoteB x).toArray⟩, .string ⟨sUnkC.toArray⟩] [quoteB x, sUnkC] _ 2 (by first | rfl | simp) rfl rfl (by simp [maxLen])) (by simp) (by rw [line_two, show sUnkC.length = 15 from rfl]; omega); refine hLq.mono ?_; rintro e w9 ⟨rfl, b9⟩; clear hLq; have bR3 := bR2.next b9; have hB3 := hB2.trans (b9.mono hB2.size); clear bR2 gL; obtain ⟨⟨r0, r1, r2⟩, e0, e1, e2⟩ := bR3.tri; obtain ⟨W', hW', hb3, hg3⟩ := bR3.putTri (.int .i64 0) (.string ⟨#[]⟩) (.slice none 0 0); have hbl := grown_below hB3 hg3 (Nat.le_refl _) (Nat.le_refl _); go_wp2; obtain ⟨⟨y0, y1, y2⟩, _⟩ := hb3.tri; refine bodyPost_ret (v := .tuple #[.agg #[.int .i64 0, .string ⟨#[]⟩, .slice none 0 0], .string ⟨(lineB [quoteB x, sUnkC]).toArray⟩]) (by simp [results, Tryd.f10, go_sem, y0, y1, y2]) rfl ?_; exact ⟨.slice none 0 0, by rw [HN.out]; rfl, by rw [HN.out]; exact World.ownsRow_nil _ _ _ _, hbl⟩)
  have hRd := read_prog (x := x) (t := t) rfl hK
  have hp := kindF_pos x
  obtain ⟨kn, hkn⟩ : ∃ n : Nat, kindF x = n := ⟨(kindF x).toNat, by omega⟩
  rw [hkn] at hRd hK hp ⊢
  have hk15 : 1 ≤ (kn : Int) ∧ (kn : Int) ≤ 5 := by omega
  have hk6 : kn < 6 := by omega
  have hk6' : (kn : Int) < 6 := by omega
  have hk0 : (0 : Int) ≤ (kn : Int) := by omega
  have hkb : ((kn : Int) == 0) = false := by rw [beq_eq_false_iff_ne]; exact hK
  have hkd : ((kn : Int) = 0) = False := eq_false hK
  have HRD := Lib.hid hRd
  clear hRd hK hkn hp
  obtain ⟨q0, q1, q2, q3⟩ := (HL.out.next hB).2 kn hk6
  have HL0 := Lib.hid (HL.out.next hB)
  have hTk := fun W v (h : StrsC W v t) => take_any (kn : Int) t v W h hk15 hl HE.out
  have htf := takeF_len (kn : Int) t
  have hto := takeO_len (kn : Int) t
  have htr := takeR_in (kn : Int) t
  have htT := takeO_T (k := (kn : Int)) (l := t)
  generalize takeF (kn : Int) t = tf at *
  generalize takeO (kn : Int) t = op at *
  generalize takeR (kn : Int) t = tr at *
  go_upto_region 6 with fail
  have hq : Below W0.heap.size W0 W0.drew := (Below.refl W0.heap.size W0).drew
  have HMK : ∀ W, Below W0.heap.size W0 W → W.cell? ⟨0, kn * 4, none⟩ = some (.string ⟨(nameK (kn : Int)).toArray⟩) ∧ W.cell? ⟨0, kn * 4 + 1, none⟩ = some (.string ⟨(letK (kn : Int)).toArray⟩) ∧ W.cell? ⟨0, kn * 4 + 2, none⟩ = some (.bool (decide (4 ≤ (kn : Int)))) ∧ W.cell? ⟨0, kn * 4 + 3, none⟩ = some (.int .i64 (needK (kn : Int))) := fun W h => (HL0.out.next h).2 kn hk6
  clear q0 q1 q2 q3
  go_cut [5, 6, 7] from 28 (fun s5 s6 s7 wc => s5 = .string ⟨op.toArray⟩ ∧ s7 = .string ⟨tf.toArray⟩ ∧ Below W0.heap.size W0 wc ∧ Aside (StrsC wc s6 tr))
  case first =>
    by_cases h1 : ca = 1
    · obtain rfl : t = [] := List.eq_nil_of_length_eq_zero (by omega)
      have hG := fun W (h : Below W0.heap.size W0 W) => (HT1.out h1).below (hB.trans (h.mono hB.size))
      subst h1
      go_region_held3 (fun W => W.cell? ⟨0, kn * 4, none⟩ = some (.string ⟨(nameK (kn : Int)).toArray⟩) ∧ W.cell? ⟨0, kn * 4 + 1, none⟩ = some (.string ⟨(letK (kn : Int)).toArray⟩) ∧ W.cell? ⟨0, kn * 4 + 2, none⟩ = some (.bool (decide (4 ≤ (kn : Int)))) ∧ W.cell? ⟨0, kn * 4 + 3, none⟩ = some (.int .i64 (needK (kn : Int))))
        (first | with_reducible exact HMK _ hq)
        (first | (go_at_call 21; (with_reducible refine (hTk _ _ (hG _ hq)).mono ?_); rintro e w6 ⟨vr, rfl, hS6, b6⟩; have hq := hq.trans (b6.mono hq.size)))
      all_goals (go_wp2_with fail; go_meet)
      all_goals exact ⟨rfl, rfl, hq, hS6⟩
    · have hG := fun W (h : Below W0.heap.size W0 W) => (HT2.out h1).below (hB.trans (h.mono hB.size))
      have h2 : 1 < ca := by omega
      have hi1 : (1 : Int) ≤ (t.length : Int) + 1 := by omega
      have hi2 : (t.length : Int) + 1 ≤ (ca : Int) := by omega
      go_region_held3 (fun W => W.cell? ⟨0, kn * 4, none⟩ = some (.string ⟨(nameK (kn : Int)).toArray⟩) ∧ W.cell? ⟨0, kn * 4 + 1, none⟩ = some (.string ⟨(letK (kn : Int)).toArray⟩) ∧ W.cell? ⟨0, kn * 4 + 2, none⟩ = some (.bool (decide (4 ≤ (kn : Int)))) ∧ W.cell? ⟨0, kn * 4 + 3, none⟩ = some (.int .i64 (needK (kn : Int))))
        (first | with_reducible exact HMK _ hq)
        (first | (go_at_call 21; (with_reducible refine (hTk _ _ (hG _ hq)).mono ?_); rintro e w6 ⟨vr, rfl, hS6, b6⟩; have hq := hq.trans (b6.mono hq.size)))
      all_goals (go_wp2_with fail; go_meet)
      all_goals exact ⟨rfl, rfl, hq, hS6⟩
  case rest =>
  obtain ⟨rfl, rfl, hbc, HS⟩ := hcut
  rename World => w3
  clear hq HMK hTk
  replace bR := bR.next hbc
  replace hB := hB.trans (hbc.mono hB.size)
  have hS := HS.out
  obtain ⟨a3, c3, rfl⟩ := strsC_slice hS
  by_cases htn : tf = []
  rotate_left
  · have HN : Hid (readA (x :: t) = (noC, lineB [nameK (kn : Int), tf])) := Lib.hid (by rw [HRD.out, if_pos htn])
    have htb : (tf == []) = false := by simpa using htn
    have d0 := ((HL.out.next hB).2 kn hk6).1
    have hnl := nameK_len (kn : Int)
    clear htn HRD
    go_wp2_with fail
    (have gL := below_new w3 (.cells #[.string ⟨(nameK (kn : Int)).toArray⟩, .string ⟨tf.toArray⟩] 9); have bR2 := bR.next gL; have hB2 := hB.trans (gL.mono hB.size); have hLq := Line_any [nameK (kn : Int), tf] _ _ (strs_at w3 9 #[.string ⟨(nameK (kn : Int)).toArray⟩, .string ⟨tf.toArray⟩] [nameK (kn : Int), tf] _ 2 (by first | rfl | simp) rfl rfl (by simp [maxLen])) (by simp) (by rw [line_two]; omega); refine hLq.mono ?_; rintro e w9 ⟨rfl, b9⟩; clear hLq; have bR3 := bR2.next b9; have hB3 := hB2.trans (b9.mono hB2.size); clear bR2 gL; obtain ⟨⟨r0, r1, r2⟩, e0, e1, e2⟩ := bR3.tri; obtain ⟨W', hW', hb3, hg3⟩ := bR3.putTri (.int .i64 0) (.string ⟨#[]⟩) (.slice none 0 0); have hbl := grown_below hB3 hg3 (Nat.le_refl _) (Nat.le_refl _); go_wp2; obtain ⟨⟨y0, y1, y2⟩, _⟩ := hb3.tri; refine bodyPost_ret (v := .tuple #[.agg #[.int .i64 0, .string ⟨#[]⟩, .slice none 0 0], .string ⟨(lineB [nameK (kn : Int), tf]).toArray⟩]) (by simp [results, Tryd.f10, go_sem, y0, y1, y2]) rfl ?_; exact ⟨.slice none 0 0, by rw [HN.out]; rfl, by rw [HN.out]; exact World.ownsRow_nil _ _ _ _, hbl⟩)
  subst htn
  have hRd := HRD.out
  rw [if_neg (by simp)] at hRd
  have HRD2 := Lib.hid hRd
  clear hRd HRD
  have hrl : tr.length ≤ 900 := by have := htr.1; omega
  have hre : ∀ y ∈ tr, y.length ≤ 1000 := fun y hy => HE.out y (htr.2 y hy)
  have HRE := Lib.hid hre
  have hCp := copies_any tr _ _ hS.1 (by omega) hre
  clear hre htr hS HS HE HT1 HT2
  go_wp2_with fail
  refine hCp.mono ?_
  rintro e w4 ⟨vo, rfl, own4, b4⟩
  obtain ⟨a4, c4, rfl⟩ := own_sl17 own4
  have hsz3 := bR.lt
  have k5 := b4.trans ((below_new w4 (.cells #[.int .i64 kn, .string ⟨op.toArray⟩, .slice a4 tr.length c4] 26)).mono b4.size)
  have bC := Blk.new w4 26 #[.int .i64 kn, .string ⟨op.toArray⟩, .slice a4 tr.length c4]
  have hCl : w.heap.size < w4.heap.size := (bR.next b4).lt
  have own5 := own_keep17 own4 (below_new w4 (.cells #[.int .i64 kn, .string ⟨op.toArray⟩, .slice a4 tr.length c4] 26))
  replace bR := bR.next k5
  replace hB := hB.trans (k5.mono hB.size)
  clear b4 k5 own4 hCp
  have hCt := count_any (kn : Int) op tr _ _ (own_strs own5) hk15 hrl HRE.out (by omega) htT (HL.out.next hB)
  have hcl := count_len (kn : Int) op tr HRE.out
  generalize hcf : countF (kn : Int) op tr = cf at *
  obtain ⟨⟨z0, z1, z2⟩, _⟩ := bC.tri
  go_wp2_with fail
  refine hCt.mono ?_
  rintro e w6 ⟨rfl, b6⟩
  clear hCt z0 z1 z2
  replace own5 := own_keep17 own5 b6
  replace bC := bC.next b6
  replace bR := bR.next b6
  replace hB := hB.trans (b6.mono hB.size)
  clear b6
  generalize w4.heap.size = BC at *
  by_cases hcn : cf = []
  rotate_left
  · have HN : Hid (readA (x :: t) = (noC, lineB [nameK (kn : Int), cf])) := Lib.hid (by rw [HRD2.out, if_pos hcn])
    have htb : (cf == []) = false := by simpa using hcn
    have d0 := ((HL.out.next hB).2 kn hk6).1
    have hnl := nameK_len (kn : Int)
    clear hcn HRD2
    go_wp2_with fail
    (have gL := below_new w6 (.cells #[.string ⟨(nameK (kn : Int)).toArray⟩, .string ⟨cf.toArray⟩] 9); have bR2 := bR.next gL; have hB2 := hB.trans (gL.mono hB.size); have hLq := Line_any [nameK (kn : Int), cf] _ _ (strs_at w6 9 #[.string ⟨(nameK (kn : Int)).toArray⟩, .string ⟨cf.toArray⟩] [nameK (kn : Int), cf] _ 2 (by first | rfl | simp) rfl rfl (by simp [maxLen])) (by simp) (by rw [line_two]; omega); refine hLq.mono ?_; rintro e w9 ⟨rfl, b9⟩; clear hLq; have bR3 := bR2.next b9; have hB3 := hB2.trans (b9.mono hB2.size); clear bR2 gL; obtain ⟨⟨r0, r1, r2⟩, e0, e1, e2⟩ := bR3.tri; obtain ⟨W', hW', hb3, hg3⟩ := bR3.putTri (.int .i64 0) (.string ⟨#[]⟩) (.slice none 0 0); have hbl := grown_below hB3 hg3 (Nat.le_refl _) (Nat.le_refl _); go_wp2; obtain ⟨⟨y0, y1, y2⟩, _⟩ := hb3.tri; refine bodyPost_ret (v := .tuple #[.agg #[.int .i64 0, .string ⟨#[]⟩, .slice none 0 0], .string ⟨(lineB [nameK (kn : Int), cf]).toArray⟩]) (by simp [results, Tryd.f10, go_sem, y0, y1, y2]) rfl ?_; exact ⟨.slice none 0 0, by rw [HN.out]; rfl, by rw [HN.out]; exact World.ownsRow_nil _ _ _ _, hbl⟩)
  · have HN : Hid (readA (x :: t) = (⟨kn, op, tr⟩, [])) := Lib.hid (by rw [HRD2.out, if_neg (by rw [hcn]; simp)])
    subst hcn
    clear HRD2
    obtain ⟨⟨z0, z1, z2⟩, _⟩ := bC.tri
    obtain ⟨⟨r0, r1, r2⟩, e0, e1, e2⟩ := bR.tri
    obtain ⟨W', hW', hb3, hg3⟩ := bR.putTri (.int .i64 kn) (.string ⟨op.toArray⟩) (.slice a4 tr.length c4)
    have hbl := grown_below hB hg3 (Nat.le_refl _) (Nat.le_refl _)
    have hOw := Lib.hid (own5.kept hg3 (own_far17 own5 (by omega)))
    go_wp2
    obtain ⟨⟨y0, y1, y2⟩, _⟩ := hb3.tri
    refine bodyPost_ret (v := .tuple #[.agg (cmdC ⟨kn, op, tr⟩ (.slice a4 tr.length c4)), .string ⟨#[]⟩]) (by simp [results, Tryd.f10, go_sem, y0, y1, y2]) rfl ?_
    exact ⟨.slice a4 tr.length c4, by rw [HN.out], by rw [HN.out]; exact own_base17 hOw.out (by omega), hbl⟩

theorem Read17_any (l : List (List UInt8)) (v : Value) (w : World) (hv : StrsC w v l) (hl : l.length ≤ 900) (he : ∀ y ∈ l, y.length ≤ 1000) (hLd : Laid17 w) :
    Calls Tryd.prog 10 #[v] w fun e w' => ∃ vo, e = .returned (.tuple #[.agg (cmdC (readA l).1 vo), .string ⟨(readA l).2.toArray⟩]) ∧ w'.ownsRow w.heap.size 9 1 vo (readA l).1.ops.length (strsV (readA l).1.ops) ∧ Below w.heap.size w w' := by
  cases l with
  | nil => exact Read17_nil v w hv
  | cons x t => exact Read17_cons x t v w hv (by simp at hl; omega) he hLd
end Go.Proofs.YtboceckeebhfoaaDoor
