/- Walks: the document's Without, With, Same. -/
import Derived.Test.YtobepdmpacdakaaGreatQB
import Derived.BigQuiet
import Derived.Laws.StructEq
set_option linter.unusedVariables false
set_option linter.unusedSimpArgs false
namespace Go.Proofs.YtobepdmpacdakaaGreat
open Go.RowKit

/-- New entries: a row of the call's own. -/
def OwnEnts (w : World) (L : List Ent) (e : Ending) (w' : World) : Prop :=
  ∃ v, e = .returned v ∧ w'.ownsRow w.heap.size 90 2 v L.length (entsV L) ∧ Below w.heap.size w w'
theorem own_nil (w : World) (n : Nat) : w.ownsRow n 90 2 (.slice none 0 0) 0 (entsV []) := ⟨rfl, .inl ⟨rfl, rfl⟩⟩
theorem entC_one (e : Ent) : ∀ u ∈ (entC e).toList, u.oneCell' = true := by
  intro u hu; simp [entC] at hu; rcases hu with rfl | rfl <;> rfl
theorem filter_take (l : List Ent) (n : List UInt8) (k : Nat) (h : k < l.length) : (l.take (k + 1)).filter (fun e => e.1 != n) = if l[k].1 == n then (l.take k).filter (fun e => e.1 != n) else (l.take k).filter (fun e => e.1 != n) ++ [l[k]] := by
  rw [List.take_succ_eq_append_getElem h, List.filter_append]
  cases hm : (l[k].1 == n) <;> simp [bne, hm]

set_option maxHeartbeats 1000000 in
theorem refWithout_any (l : List Ent) (n : List UInt8) (v : Value) (w : World) (hv : Ents w v l) (hl : l.length ≤ 1000000) :
    Calls Tryz.prog 71 #[v, .string ⟨n.toArray⟩] w (OwnEnts w (l.filter (fun e => e.1 != n))) := by
  obtain ⟨a, ca, rfl, hc, hm, HA0⟩ := hv
  unfold maxLen at hm
  have HA := Lib.hid HA0
  clear HA0
  obtain ⟨i0, hi, hz0, hz1, hz2⟩ := info_parts infoE
  go_enter Tryz.func71, Tryz.ntmps71
  go_wp2
  go_loopg [5, 6] l.length (fun g s5 s6 wr => ∃ k : Nat, k + g = l.length ∧ s6 = .int .i64 k ∧ Below w.heap.size w wr ∧ Aside (wr.ownsRow w.heap.size 90 2 s5 ((l.take k).filter (fun e => e.1 != n)).length (entsV ((l.take k).filter (fun e => e.1 != n)))))
  case atStart => exact ⟨0, by omega, rfl, Below.refl _ _, own_nil _ _⟩
  case round =>
    obtain ⟨k, hkg, rfl, hbw, HO⟩ := hrel
    by_cases hlt : k < l.length
    · obtain ⟨G, rfl⟩ : ∃ G, gk = G + 1 := ⟨gk - 1, by omega⟩
      obtain ⟨b, o, rfl, hb, hcl⟩ := HA.out (by omega)
      have c1 : wr.cell? ⟨b, o + k * 2, none⟩ = some (.string ⟨l[k].1.toArray⟩) := (hbw.cell (p := ⟨b, o + k * 2, none⟩) hb).trans (hcl k hlt).1
      have c2 : wr.cell? ⟨b, o + k * 2 + 1, none⟩ = some (.int .i64 l[k].2) := (hbw.cell (p := ⟨b, o + k * 2 + 1, none⟩) hb).trans (hcl k hlt).2
      clear hcl
      have HF := Lib.hid (filter_take l n k hlt)
      have hcount : ((l.take k).filter (fun e => e.1 != n)).length ≤ k := Nat.le_trans (List.length_filter_le _ _) (by simp; omega)
      generalize hL : (l.take k).filter (fun e => e.1 != n) = L at *
      clear hL
      cases he : (l[k].1 == n)
      · have HF2 := Lib.hid (HF.out.trans (if_neg (by rw [he]; simp)))
        go_wp2_with (at_builtin; refine wpList_append_new rfl (.tmp 20) (.tmp 25) 43 90 rfl Tryz.underlying43 hi hz0 hz1 hz2 rfl (by decide) (by decide) w.heap.size (entC l[k]) 1 rfl rfl HO.out rfl (entC_one _) (by omega) hbw.size ?_; intro v4 w4 hown4 hb4)
        go_roundg G
        case measure => omega
        case rel => exact ⟨k + 1, by omega, by go_num, hbw.trans hb4, by (show World.ownsRow _ _ _ _ _ _ _); rw [HF2.out, entsV_append, List.length_append]; exact hown4⟩
      · have HF2 := Lib.hid (HF.out.trans (if_pos (by rw [he])))
        go_wp2
        go_roundg G
        case measure => omega
        case rel => exact ⟨k + 1, by omega, by go_num, hbw, by (show World.ownsRow _ _ _ _ _ _ _); rw [HF2.out]; exact HO.out⟩
    · obtain rfl : k = l.length := by omega
      have HO1 := HO.out
      rw [List.take_length] at HO1
      have HO2 := Lib.hid HO1
      clear HO1 HO
      go_wp2
      go_ret
      exact ⟨_, rfl, HO2.out, hbw⟩

theorem ins_next {n : List UInt8} {i : Int} {r O : List Ent} {k : Nat} (h : k < r.length) (hI : insB n i r = O ++ insB n i (r.drop k)) :
    (ltB n r[k].1 = true → insB n i r = (O ++ [(n, i)] ++ [r[k]]) ++ r.drop (k + 1)) ∧ (ltB n r[k].1 = false → insB n i r = (O ++ [r[k]]) ++ insB n i (r.drop (k + 1))) := by
  rw [List.drop_eq_getElem_cons h] at hI
  constructor
  · intro h1; rw [hI, insB, if_pos h1]; simp
  · intro h1; rw [hI, insB, if_neg (by rw [h1]; simp)]; simp
theorem gt_three (a n : List UInt8) : (ltB a n = true ∧ ltB n a = false) ∨ (ltB a n = false ∧ (a == n) = true ∧ ltB n a = false) ∨ (ltB a n = false ∧ (a == n) = false ∧ ltB n a = true) := by
  cases h1 : ltB a n
  · cases h2 : (a == n)
    · refine .inr (.inr ⟨rfl, rfl, ?_⟩)
      cases h3 : ltB n a
      · rw [lt_tri _ _ h1 h3] at h2; simp at h2
      · rfl
    · have : a = n := by simpa using h2
      subst this
      exact .inr (.inl ⟨rfl, rfl, h1⟩)
  · exact .inl ⟨rfl, lt_asym h1⟩

set_option maxHeartbeats 2000000 in
theorem refWith_any (l : List Ent) (n : List UInt8) (i : Int) (v : Value) (w : World) (hv : Ents w v l) (hs : sortP l) (hl : l.length ≤ 999998) :
    Calls Tryz.prog 44 #[v, .string ⟨n.toArray⟩, .int .i64 i] w (OwnEnts w (withB l n i)) := by
  have HW := Lib.hid (ins_eq n i hs)
  have hwe := without_eq n hs
  have hle := without_len l n
  obtain ⟨a, ca, rfl, hc, hm, HA0⟩ := id hv
  unfold maxLen at hm
  clear HA0
  obtain ⟨i0, hi, hz0, hz1, hz2⟩ := info_parts infoE
  go_enter Tryz.func44, Tryz.ntmps44
  go_wp2_with fail; refine (refWithout_any l n _ _ hv (by omega)).mono ?_; rintro e w1 ⟨x, rfl, hown, hb1⟩
  rw [hwe] at hown
  clear hwe hs hv
  generalize withoutB l n = r at *
  obtain ⟨ax, cx, rfl, hcx, hmx, HX0⟩ := own_ents hown
  have HX := Lib.hid HX0
  unfold maxLen at hmx
  clear HX0 hown
  generalize hWI : withB l n i = WI at *
  clear hWI
  go_wp2
  go_loopg [8, 9, 10] r.length (fun g s8 s9 s10 wr => ∃ (k : Nat) (d : Bool) (O : List Ent), k + g = r.length ∧ s10 = .int .i64 k ∧ s9 = .bool d ∧ O.length ≤ k + d.toNat ∧ Below w1.heap.size w1 wr ∧ Aside (wr.ownsRow w1.heap.size 90 2 s8 O.length (entsV O)) ∧
    Aside (insB n i r = O ++ (if d then r.drop k else insB n i (r.drop k))))
  case atStart => exact ⟨0, false, [], by omega, rfl, rfl, by simp, Below.refl _ _, own_nil _ _, by (show _ = _); simp⟩
  case round =>
    obtain ⟨k, d, O, hkg, rfl, rfl, hOl, hbw, HO, HI⟩ := hrel
    by_cases hlt : k < r.length
    · obtain ⟨G, rfl⟩ : ∃ G, gk = G + 1 := ⟨gk - 1, by omega⟩
      obtain ⟨b, o, rfl, hb, hcl⟩ := HX.out (by omega)
      have c1 : wr.cell? ⟨b, o + k * 2, none⟩ = some (.string ⟨r[k].1.toArray⟩) := (hbw.cell (p := ⟨b, o + k * 2, none⟩) hb).trans (hcl k hlt).1
      have c2 : wr.cell? ⟨b, o + k * 2 + 1, none⟩ = some (.int .i64 r[k].2) := (hbw.cell (p := ⟨b, o + k * 2 + 1, none⟩) hb).trans (hcl k hlt).2
      have HC := Lib.hid (hcl k hlt)
      clear hcl
      cases d
      · replace hOl : O.length ≤ k := hOl
        have HN := Lib.hid (ins_next hlt (show insB n i r = O ++ insB n i (r.drop k) from HI.out))
        rcases gt_three r[k].1 n with ⟨h1, h2⟩ | ⟨h1, h3, h2⟩ | ⟨h1, h3, h2⟩
        · have HN2 := Lib.hid (HN.out.2 h2)
          clear h2
          go_wp2_with (at_builtin; refine wpList_append_new rfl (.tmp 37) (.tmp 42) 43 90 rfl Tryz.underlying43 hi hz0 hz1 hz2 rfl (by decide) (by decide) w1.heap.size (entC r[k]) 1 rfl rfl HO.out rfl (entC_one _) (by omega) hbw.size ?_; intro v4 w4 hown4 hb4)
          go_roundg G
          case measure => omega
          case rel => exact ⟨k + 1, false, O ++ [r[k]], by omega, by go_num, rfl, by simp; omega, hbw.trans hb4, by (show World.ownsRow _ _ _ _ _ _ _); rw [entsV_append, List.length_append]; exact hown4, HN2.out⟩
        · have HN2 := Lib.hid (HN.out.2 h2)
          clear h2
          go_wp2_with (at_builtin; refine wpList_append_new rfl (.tmp 37) (.tmp 42) 43 90 rfl Tryz.underlying43 hi hz0 hz1 hz2 rfl (by decide) (by decide) w1.heap.size (entC r[k]) 1 rfl rfl HO.out rfl (entC_one _) (by omega) hbw.size ?_; intro v4 w4 hown4 hb4)
          go_roundg G
          case measure => omega
          case rel => exact ⟨k + 1, false, O ++ [r[k]], by omega, by go_num, rfl, by simp; omega, hbw.trans hb4, by (show World.ownsRow _ _ _ _ _ _ _); rw [entsV_append, List.length_append]; exact hown4, HN2.out⟩
        · have HN2 := Lib.hid (HN.out.1 h2)
          clear h2
          go_wp2_with (first
            | (at_builtin
               refine wpList_append_new rfl (.tmp 31) (.tmp 35) 43 90 rfl Tryz.underlying43 hi hz0 hz1 hz2 rfl (by decide) (by decide) w1.heap.size (entC (n, i)) 1 rfl rfl HO.out rfl (entC_one _) (by omega) hbw.size ?_
               intro v4 w4 hown4 hb4
               have hb5 := hbw.trans hb4
               have d1 : w4.cell? ⟨b, o + k * 2, none⟩ = some (.string ⟨r[k].1.toArray⟩) := (hb5.cell (p := ⟨b, o + k * 2, none⟩) hb).trans HC.out.1
               have d2 : w4.cell? ⟨b, o + k * 2 + 1, none⟩ = some (.int .i64 r[k].2) := (hb5.cell (p := ⟨b, o + k * 2 + 1, none⟩) hb).trans HC.out.2)
            | (at_builtin; refine wpList_append_new rfl (.tmp 37) (.tmp 42) 43 90 rfl Tryz.underlying43 hi hz0 hz1 hz2 rfl (by decide) (by decide) w1.heap.size (entC r[k]) 1 rfl rfl hown4 rfl (entC_one _) (by omega) hb5.size ?_; intro v6 w6 hown6 hb6))
          go_roundg G
          case measure => omega
          case rel => exact ⟨k + 1, true, O ++ [(n, i)] ++ [r[k]], by omega, by go_num, rfl, by simp; omega, hb5.trans hb6, by (show World.ownsRow _ _ _ _ _ _ _); rw [entsV_append, entsV_append, List.length_append, List.length_append]; exact hown6, HN2.out⟩
      · replace hOl : O.length ≤ k + 1 := hOl
        have HN2 : Hid (insB n i r = O ++ [r[k]] ++ r.drop (k + 1)) := by
          have := HI.out
          rw [if_pos rfl, List.drop_eq_getElem_cons hlt] at this
          (show _ = _); rw [this]; simp
        go_wp2_with (at_builtin; refine wpList_append_new rfl (.tmp 37) (.tmp 42) 43 90 rfl Tryz.underlying43 hi hz0 hz1 hz2 rfl (by decide) (by decide) w1.heap.size (entC r[k]) 1 rfl rfl HO.out rfl (entC_one _) (by omega) hbw.size ?_; intro v4 w4 hown4 hb4)
        go_roundg G
        case measure => omega
        case rel => exact ⟨k + 1, true, O ++ [r[k]], by omega, by go_num, rfl, by simp; omega, hbw.trans hb4, by (show World.ownsRow _ _ _ _ _ _ _); rw [entsV_append, List.length_append]; exact hown4, HN2.out⟩
    · obtain rfl : k = r.length := by omega
      cases d
      · replace hOl : O.length ≤ r.length := hOl
        have HE : Hid (WI = O ++ [(n, i)]) := by
          have := HI.out
          rw [if_neg (by simp), List.drop_length] at this
          exact HW.out.symm.trans this
        go_wp2_with (at_builtin; refine wpList_append_new rfl (.tmp 46) (.tmp 50) 43 90 rfl Tryz.underlying43 hi hz0 hz1 hz2 rfl (by decide) (by decide) w1.heap.size (entC (n, i)) 1 rfl rfl HO.out rfl (entC_one _) (by omega) hbw.size ?_; intro v4 w4 hown4 hb4)
        go_ret
        exact ⟨_, rfl, by rw [HE.out, entsV_append, List.length_append]; exact Joins.ownsRow_le hown4 hb1.size, hb1.trans ((hbw.trans hb4).mono hb1.size)⟩
      · have HE : Hid (WI = O) := by
          have := HI.out
          rw [if_pos rfl, List.drop_length, List.append_nil] at this
          exact HW.out.symm.trans this
        go_wp2
        go_ret
        exact ⟨_, rfl, by rw [HE.out]; exact Joins.ownsRow_le HO.out hb1.size, hb1.trans (hbw.mono hb1.size)⟩
end Go.Proofs.YtobepdmpacdakaaGreat
