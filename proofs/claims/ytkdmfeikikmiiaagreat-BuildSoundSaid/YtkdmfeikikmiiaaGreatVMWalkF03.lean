/- Texts put together: May, Plain03, WalkB04, WalkJ03, WalkF03. -/
import Derived.Test.YtkdmfeikikmiiaaGreatVMList11
import Derived.Test.YtkdmfeikikmiiaaGreatChecked
import Derived.Test.YtkdmfeikikmiiaaGreatVAnyOf
import Derived.Test.YtkdmfeikikmiiaaGreatVMPure09
import Derived.Test.YtkdmfeikikmiiaaGreatVMWalkB03
import Derived.Deep.Cut
import Derived.Test.YtkdmfeikikmiiaaGreatVMSure14
set_option linter.unusedVariables false
set_option linter.unusedSimpArgs false
namespace Go.Proofs.YtkdmfeikikmiiaaGreat
open Go.RowKit
theorem mayB_hit (n : List UInt8) (h0 : n ≠ []) (h1 : n ≠ [46]) (h2 : n ≠ [46, 46]) (h3 : n.length ≤ 255) : mayB n = !n.any hitB := by
  have e0 : n.isEmpty = false := by simpa using h0
  have e1 : (n != [46]) = true := by simpa using h1
  have e2 : (n != [46, 46]) = true := by simpa using h2
  have key : n.any hitB = (n.contains 47 || n.contains 0) := by
    clear h0 h1 h2 h3 e0 e1 e2
    induction n with
    | nil => rfl
    | cons c n ih =>
      rw [List.any_cons, ih, List.contains_cons, List.contains_cons]
      unfold hitB
      rw [BEq.comm (a := c) (b := 47), BEq.comm (a := c) (b := 0)]
      cases (47 == c) <;> cases (0 == c) <;> cases n.contains 47 <;> cases n.contains 0 <;> rfl
  unfold mayB
  rw [e0, e1, e2, key, decide_eq_true h3]
  cases n.contains 47 <;> cases n.contains 0 <;> rfl
theorem May_any (l : List UInt8) (w : World) (hl : l.length ≤ 1000000) :
    Calls Tryz.prog 78 #[.string ⟨l.toArray⟩] w fun e w' => e = .returned (.bool (mayB l)) ∧ Below w.heap.size w w' := by
  by_cases h0 : l = []
  · subst h0
    go_enter Tryz.func78, Tryz.ntmps78
    go_wp2
    go_ret
    exact ⟨rfl, Below.refl _ _⟩
  by_cases h1 : l = [46]
  · subst h1
    go_enter Tryz.func78, Tryz.ntmps78
    go_wp2
    go_ret
    exact ⟨rfl, Below.refl _ _⟩
  by_cases h2 : l = [46, 46]
  · subst h2
    go_enter Tryz.func78, Tryz.ntmps78
    go_wp2
    go_ret
    exact ⟨rfl, Below.refl _ _⟩
  by_cases h3 : l.length ≤ 255
  · have HM := Lib.hid (mayB_hit l h0 h1 h2 h3)
    have e0 : l.isEmpty = false := by simpa using h0
    have e1 : (l == [46]) = false := by simpa using h1
    have e2 : (l == [46, 46]) = false := by simpa using h2
    clear h0 h1 h2
    go_enter Tryz.func78, Tryz.ntmps78
    go_wp2_with fail; refine (ContainsAny_any l _ hl).mono ?_; rintro e w' ⟨rfl, hB⟩
    go_wp2
    go_ret
    exact ⟨ret_bool (by rw [HM.out]), hB⟩
  · have HM : Hid (mayB l = false) := by
      have : decide (l.length ≤ 255) = false := decide_eq_false h3
      (show _ = _); unfold mayB; rw [this]; simp
    have e0 : l.isEmpty = false := by simpa using h0
    have e1 : (l == [46]) = false := by simpa using h1
    have e2 : (l == [46, 46]) = false := by simpa using h2
    clear h0 h1 h2
    go_enter Tryz.func78, Tryz.ntmps78
    go_wp2
    go_ret
    exact ⟨ret_bool (by rw [HM.out]), Below.refl _ _⟩
theorem any_hit_at {l : List UInt8} {k : Nat} (h : k < l.length) (hc : hitB l[k] = true) : mayB l = false := by
  by_cases h0 : l = []
  · subst h0; simp at h
  by_cases h1 : l = [46]
  · subst h1; rfl
  by_cases h2 : l = [46, 46]
  · subst h2; rfl
  by_cases h3 : l.length ≤ 255
  · rw [mayB_hit l h0 h1 h2 h3, hits_found h hc]; rfl
  · have : decide (l.length ≤ 255) = false := decide_eq_false h3
    unfold mayB; rw [this]; simp
set_option maxHeartbeats 1000000 in
theorem refMay_all (l : List UInt8) (w : World) (hl : l.length ≤ 9223372036854775807) :
    Calls Tryz.prog 58 #[.string ⟨l.toArray⟩] w fun e w' => e = .returned (.bool (mayB l)) ∧ w = w' := by
  go_enter Tryz.func58, Tryz.ntmps58
  go_wp2
  go_loop [3] (fun i => ∃ k : Nat, k ≤ l.length ∧ i = .int .i64 k ∧ Aside ((l.take k).any hitB = false)) (fun i => l.length - (intOf i).toNat)
  case atStart => exact ⟨0, Nat.zero_le _, rfl, by (show _ = _); simp⟩
  case round =>
    obtain ⟨k, hk, rfl, HT⟩ := hrel
    by_cases hlt : k < l.length
    · cases h47 : ((l[k].toNat : Int) == 47)
      · cases h00 : ((l[k].toNat : Int) == 0)
        · have hh : hitB l[k] = false := by
            unfold hitB
            rw [Bool.or_eq_false_iff, beq_eq_false_iff_ne, beq_eq_false_iff_ne]
            constructor
            · intro e; rw [e] at h47; exact absurd h47 (by decide)
            · intro e; rw [e] at h00; exact absurd h00 (by decide)
          have HT2 : Hid ((l.take (k + 1)).any hitB = false) := hits_next HT.out (by omega) (fun j hj a b => by
            obtain rfl : j = k := by omega
            exact hh)
          go_wp2
          go_round
          case rel => exact ⟨k + 1, by omega, by go_num, HT2.out⟩
          case measure => simp [intOf]; omega
        · have hh : hitB l[k] = true := by
            have : l[k] = 0 := UInt8.toNat_inj.1 (by simp at h00; simp; omega)
            rw [this]; rfl
          have HN := Lib.hid (any_hit_at hlt hh)
          go_wp2
          go_ret
          exact ⟨ret_bool (by rw [HN.out]), rfl⟩
      · have hh : hitB l[k] = true := by
          have : l[k] = 47 := UInt8.toNat_inj.1 (by simp at h47; simp; omega)
          rw [this]; rfl
        have HN := Lib.hid (any_hit_at hlt hh)
        go_wp2
        go_ret
        exact ⟨ret_bool (by rw [HN.out]), rfl⟩
    · obtain rfl : k = l.length := by omega
      have hno : l.any hitB = false := by have := HT.out; rwa [List.take_length] at this
      by_cases h0 : l = []
      · subst h0
        go_wp2
        go_ret
        exact ⟨rfl, rfl⟩
      by_cases h1 : l = [46]
      · subst h1
        go_wp2
        go_ret
        exact ⟨rfl, rfl⟩
      by_cases h2 : l = [46, 46]
      · subst h2
        go_wp2
        go_ret
        exact ⟨rfl, rfl⟩
      have hpos : 1 ≤ l.length := List.length_pos_iff.2 h0
      have e1 : (l == [46]) = false := by simpa using h1
      have e2 : (l == [46, 46]) = false := by simpa using h2
      by_cases h3 : l.length ≤ 255
      · have HM := Lib.hid ((mayB_hit l h0 h1 h2 h3).trans (by rw [hno]))
        clear h0 h1 h2 hno
        go_wp2
        go_ret
        exact ⟨ret_bool (by rw [HM.out]; rfl), rfl⟩
      · have HM : Hid (mayB l = false) := by
          have : decide (l.length ≤ 255) = false := decide_eq_false h3
          (show _ = _); unfold mayB; rw [this]; simp
        clear h0 h1 h2 hno
        go_wp2
        go_ret
        exact ⟨ret_bool (by rw [HM.out]), rfl⟩
theorem refMay_any (l : List UInt8) (w : World) (hl : l.length ≤ 1000000) :
    Calls Tryz.prog 58 #[.string ⟨l.toArray⟩] w fun e w' => e = .returned (.bool (mayB l)) ∧ w = w' := refMay_all l w (by omega)
def PlainPost (w : World) (o : Option (List (List UInt8))) (e : Ending) (w' : World) : Prop :=
  ∃ v, e = .returned (.tuple #[v, .bool o.isSome]) ∧ Strs w' v (o.getD []) ∧ Below w.heap.size w w'
theorem PlainPost.none_ {w w' : World} {o : Option (List (List UInt8))} {e : Ending} (h : o = none) (he : e = .returned (.tuple #[.slice none 0 0, .bool false])) (hb : Below w.heap.size w w') : PlainPost w o e w' :=
  ⟨.slice none 0 0, by rw [he, h]; rfl, by rw [h]; exact Strs.nil_ _, hb⟩
set_option maxHeartbeats 1000000 in
theorem refPlain_any (p : List UInt8) (w : World) (hp : p.length ≤ 100000) :
    Calls Tryz.prog 148 #[.string ⟨p.toArray⟩] w (PlainPost w (plainB p)) := by
  have hsz := Lib.hid (namesB_size p)
  have hct := namesB_count p
  have htl : (tailB (namesB p)).length ≤ 100000000 := by
    have := namesA_total p []
    simp [namesB] at *; omega
  go_enter Tryz.func148, Tryz.ntmps148
  go_wp2_with fail; refine (refNames_any p _ (by omega)).mono ?_; rintro e w1 ⟨v, rfl, hown, h1⟩
  have hs := own_strs hown
  have HS := Lib.hid hs
  obtain ⟨ad, ca, rfl, hm, HA0⟩ := hs
  have HA := Lib.hid HA0
  clear HA0 hm hown
  go_wp2
  go_loop [5] (fun i => ∃ k : Nat, k ≤ (namesB p).length ∧ i = .int .i64 k ∧ Aside (∀ j (hj : j < (namesB p).length), j < k → mayB (namesB p)[j] = true)) (fun i => (namesB p).length - (intOf i).toNat)
  case atStart => exact ⟨0, Nat.zero_le _, rfl, fun j hj h => absurd h (by omega)⟩
  case round =>
    obtain ⟨k, hk, rfl, HT⟩ := hrel
    by_cases hlt : k < (namesB p).length
    · obtain ⟨ba, oa, rfl, hba, hca⟩ := HA.out (by omega)
      have c1 : w1.cell? ⟨ba, oa + k, none⟩ = some (.string ⟨(namesB p)[k].toArray⟩) := hca k hlt
      clear hca
      have hks := hsz.out _ (List.getElem_mem hlt)
      go_wp2_with fail; refine (refMay_any (namesB p)[k] _ (by omega)).mono ?_; rintro e w2 ⟨rfl, rfl⟩
      cases hmk : mayB (namesB p)[k]
      · have HN := Lib.hid (plainB_bad hlt hmk)
        go_wp2
        go_ret2
        exact PlainPost.none_ HN.out rfl h1
      · have HT2 : Hid (∀ j (hj : j < (namesB p).length), j < k + 1 → mayB (namesB p)[j] = true) := by
          intro j hj h
          rcases Nat.lt_or_ge j k with h' | h'
          · exact HT.out j hj h'
          · obtain rfl : j = k := by omega
            exact hmk
        go_wp2
        go_round
        case rel => exact ⟨k + 1, by omega, by go_num, HT2.out⟩
        case measure => simp [intOf]; omega
    · obtain rfl : k = (namesB p).length := by omega
      have HP := Lib.hid (plainB_ok (l := p) (fun n hn => by
        obtain ⟨j, hj, rfl⟩ := List.getElem_of_mem hn
        exact HT.out j hj hj))
      go_wp2_with fail; refine (refJoin_any (namesB p) _ _ HS.out (by omega) htl).mono ?_; rintro e w2 ⟨rfl, rfl⟩
      cases hj : (joinB (namesB p) == p)
      · have HN : Hid (plainB p = none) := by (show _ = _); rw [HP.out, hj]; rfl
        go_wp2
        go_ret2
        exact PlainPost.none_ HN.out rfl h1
      · have HN : Hid (plainB p = some (namesB p)) := by (show _ = _); rw [HP.out, hj]; rfl
        go_wp2
        go_ret2
        exact ⟨_, by rw [HN.out]; rfl, by rw [HN.out]; exact HS.out, h1⟩
theorem ent_bad {e : Ent} (h : mayB e.1 = false) : goodE e = false := by unfold goodE; rw [h]; rfl
theorem ent_low {e : Ent} (h : e.2 ≤ 0) : goodE e = false := by
  unfold goodE; rw [decide_eq_false (by omega), Bool.and_false]
theorem ent_good {e : Ent} (h : mayB e.1 = true) (h2 : 0 < e.2) : goodE e = true := by
  unfold goodE; rw [h, decide_eq_true h2]; rfl
set_option maxHeartbeats 1000000 in
theorem refRight_any (l : List Ent) (v : Value) (w : World) (hv : Ents w v l) (hsh : shortP 1000000 l) :
    Calls Tryz.prog 49 #[v] w fun e w' => e = .returned (.bool (rightB l)) ∧ Below w.heap.size w w' := by
  obtain ⟨a, ca, rfl, hc, hm, HA0⟩ := hv
  unfold maxLen at hm
  have HA := Lib.hid HA0
  clear HA0
  go_enter Tryz.func49, Tryz.ntmps49
  go_wp2
  go_loopw [3] (fun i wr => ∃ k : Nat, k ≤ l.length ∧ i = .int .i64 k ∧ Aside (rightP (l.take k)) ∧ Below w.heap.size w wr) (fun i _ => l.length - (intOf i).toNat)
  case atStart => exact ⟨0, Nat.zero_le _, rfl, by (show _ ∧ _); simp [rightP, sortP], Below.refl _ _⟩
  case round =>
    obtain ⟨k, hk, rfl, HT, hbA⟩ := hrel
    by_cases hlt : k < l.length
    · obtain ⟨b, o, rfl, hb, hcl⟩ := HA.out (by omega)
      have c1 : wr.cell? ⟨b, o + k * 2, none⟩ = some (.string ⟨l[k].1.toArray⟩) := (hbA.cell (p := ⟨b, o + k * 2, none⟩) hb).trans (hcl k hlt).1
      have c2 : wr.cell? ⟨b, o + k * 2 + 1, none⟩ = some (.int .i64 l[k].2) := (hbA.cell (p := ⟨b, o + k * 2 + 1, none⟩) hb).trans (hcl k hlt).2
      have hks := hsh _ (List.getElem_mem hlt)
      go_wp2_with fail; refine (refMay_any l[k].1 _ hks).mono ?_; rintro e w2 ⟨rfl, rfl⟩
      cases hmk : mayB l[k].1
      · have HN := Lib.hid (right_bad hlt (ent_bad hmk))
        go_wp2
        go_ret
        exact ⟨ret_bool HN.out.symm, hbA⟩
      · by_cases hp : l[k].2 < 1
        · have HN := Lib.hid (right_bad hlt (ent_low (by omega)))
          go_wp2
          go_ret
          exact ⟨ret_bool HN.out.symm, hbA⟩
        · have hg := ent_good hmk (by omega)
          by_cases h0 : k = 0
          · have HT2 := Lib.hid (right_next hlt HT.out hg (fun j hj h => by omega))
            have hk0 : decide (0 < k) = false := decide_eq_false (by omega)
            have HK0 := Lib.hid h0
            clear h0
            go_wp2
            go_quiet (fail)
            go_wp2
            go_roundw
            case rel => exact ⟨k + 1, by omega, by go_num, HT2.out, below_drewN hbA _⟩
            case measure => simp [intOf]; omega
          · have c0 : wr.cell? ⟨b, o + (k - 1) * 2, none⟩ = some (.string ⟨(l[k - 1]'(by omega)).1.toArray⟩) := (hbA.cell (p := ⟨b, o + (k - 1) * 2, none⟩) hb).trans (hcl (k - 1) (by omega)).1
            have k0 : decide (0 < k) = true := decide_eq_true (by omega)
            have k1 : (0 : Int) ≤ (k : Int) - 1 := by omega
            have k2 : (k : Int) - 1 < (l.length : Int) := by omega
            have k3 : ((k : Int) - 1).toNat = k - 1 := by omega
            clear hcl
            cases hl1 : ltB (l[k - 1]'(by omega)).1 l[k].1
            · have HN : Hid (rightB l = false) := by
                have := @right_unsorted l (k - 1) (by omega)
                simp only [show k - 1 + 1 = k from by omega] at this
                exact this hl1
              go_wp2
              go_quiet (fail)
              go_wp2
              go_ret
              exact ⟨ret_bool HN.out.symm, below_drewN hbA _⟩
            · have HT2 := Lib.hid (right_next hlt HT.out hg (fun j hj h => by
                obtain rfl : j = k - 1 := by omega
                exact hl1))
              go_wp2
              go_quiet (fail)
              go_wp2
              go_roundw
              case rel => exact ⟨k + 1, by omega, by go_num, HT2.out, below_drewN hbA _⟩
              case measure => simp [intOf]; omega
    · obtain rfl : k = l.length := by omega
      have HY := Lib.hid (right_end HT.out)
      go_wp2
      go_ret
      exact ⟨ret_bool HY.out.symm, hbA⟩
theorem absB_at {p : List UInt8} (h : 0 < p.length) : absB p = ((p[0].toNat : Int) == 47) := by
  cases p with
  | nil => simp at h
  | cons c r =>
    rw [Bool.eq_iff_iff]
    simp [absB]
    constructor
    · rintro rfl; rfl
    · intro e; exact UInt8.toNat_inj.1 (by simp; omega)
theorem endB_at {p : List UInt8} (h : 0 < p.length) : endB p = ((p[p.length - 1].toNat : Int) == 47) := by
  unfold endB
  rw [List.getLast?_eq_getElem?, List.getElem?_eq_getElem (by omega), Bool.eq_iff_iff]
  simp
  constructor
  · intro e; rw [e]; rfl
  · intro e; exact UInt8.toNat_inj.1 (by simp; omega)
theorem read_close {w w1 : World} {t : TypeId} {a s : Bool} {v : Value} {ns : List (List UInt8)} (hb : Blk w1 w.heap.size t (pathR false (.slice none 0 0) false)) (hB : Below w.heap.size w w1) (hs : Strs w1 v ns) :
    ∃ W, W = ((((w1.setCell ⟨w.heap.size, 0, none⟩ (.bool a)).setCell ⟨w.heap.size, 1, none⟩ v).setCell ⟨w.heap.size, 2, none⟩ (.bool s)).alloc (.cells (pathR a v s) t)) ∧
      Blk W w.heap.size t (pathR a v s) ∧ Strs W v ns ∧ Below w.heap.size w W := by
  refine ⟨_, rfl, ?_, ?_, ?_⟩
  · simpa [pathR] using (((hb.set 0 (.bool a)).set 1 v).set 2 (.bool s)).alloc (.cells (pathR a v s) t)
  · obtain ⟨ad, cap, rfl, hm, h1⟩ := hs
    refine ⟨ad, cap, rfl, hm, fun hl => ?_⟩
    obtain ⟨b, off, rfl, hlt, hc⟩ := h1 hl
    have hne : b ≠ w.heap.size := by
      rintro rfl
      have := hc 0 hl
      rw [hb.cell] at this
      rcases Nat.lt_or_ge (off + 0) 3 with h | h
      · have : off + 0 = 0 ∨ off + 0 = 1 ∨ off + 0 = 2 := by omega
        rcases this with e | e | e <;> simp_all [pathR]
      · have hn3 : (pathR false (.slice none 0 0) false)[off + 0]? = none := Array.getElem?_eq_none h
        rw [hn3] at this; cases this
    refine ⟨b, off, rfl, by simp [World.setCell]; omega, fun i hi => ?_⟩
    have hbl : ((((w1.setCell ⟨w.heap.size, 0, none⟩ (.bool a)).setCell ⟨w.heap.size, 1, none⟩ (.slice (some ⟨b, off, none⟩) ns.length cap)).setCell ⟨w.heap.size, 2, none⟩ (.bool s)).alloc (.cells (pathR a (.slice (some ⟨b, off, none⟩) ns.length cap) s) t)).heap[b]? = w1.heap[b]? := by
      rw [Below.heap_alloc _ _ _ (by simp [World.setCell]; omega), Below.heap_setCell _ _ _ b (fun e => hne e), Below.heap_setCell _ _ _ b (fun e => hne e), Below.heap_setCell _ _ _ b (fun e => hne e)]
    rw [World.cell?_of_block (a := ⟨b, off + i, none⟩) hbl]
    exact hc i hi
  · have hn := Nat.le_refl w.heap.size
    have h3 := ((hB.setCell (p := ⟨w.heap.size, 0, none⟩) hn (.bool a)).setCell (p := ⟨w.heap.size, 1, none⟩) hn v).setCell (p := ⟨w.heap.size, 2, none⟩) hn (.bool s)
    exact h3.alloc h3.size _
theorem field1 (a s : Bool) (v : Value) (w : World) : (Instr.field 86 (.agg (pathV a v s)) 1).run Tryz.prog w = .ok v w := by kernel_rfl
set_option maxHeartbeats 2000000 in
theorem Plain_any (p : List UInt8) (w : World) (hp : p.length ≤ 100000) :
    Calls Tryz.prog 155 #[.string ⟨p.toArray⟩] w (PlainPost w (plainB p)) := by
  go_enter Tryz.func155, Tryz.ntmps155
  go_wp2_with fail; refine (Read_any p (by omega) _).mono ?_; rintro e w1 ⟨v, rfl, hown, h1⟩
  have hs := own_strs hown
  have hsz := Lib.hid (namesB_size p)
  have hct := namesB_count p
  have htot := Lib.hid (namesB_total p)
  clear hown
  obtain ⟨ad, ca, rfl, hm, HA0⟩ := hs
  have HA := Lib.hid HA0
  have HM := Lib.hid hm
  clear HA0 hm
  have hF := field1 (absB p) (slashB p) (.slice ad (namesB p).length ca) w1
  go_wp2
  clear hF
  go_loopw [12] (fun i wr => ∃ k : Nat, k ≤ (namesB p).length ∧ i = .int .i64 k ∧ Aside (∀ j (hj : j < (namesB p).length), j < k → mayB (namesB p)[j] = true) ∧ Below w1.heap.size w1 wr) (fun i _ => (namesB p).length - (intOf i).toNat)
  case atStart => exact ⟨0, Nat.zero_le _, rfl, fun j hj h => absurd h (by omega), Below.refl _ _⟩
  case round =>
    obtain ⟨k, hk, rfl, HT, hBl⟩ := hrel
    by_cases hlt : k < (namesB p).length
    · obtain ⟨ba, oa, rfl, hba, hca⟩ := HA.out (by omega)
      have c1 : wr.cell? ⟨ba, oa + k, none⟩ = some (.string ⟨(namesB p)[k].toArray⟩) := (hBl.cell (p := ⟨ba, oa + k, none⟩) hba).trans (hca k hlt)
      clear hca
      have hks := hsz.out _ (List.getElem_mem hlt)
      go_wp2_with fail; refine (May_any (namesB p)[k] _ (by omega)).mono ?_; rintro e w2 ⟨rfl, hB2⟩
      have hB3 := hBl.trans (hB2.mono hBl.size)
      cases hmk : mayB (namesB p)[k]
      · have HN := Lib.hid (plainB_bad hlt hmk)
        go_wp2
        go_ret2
        exact PlainPost.none_ HN.out rfl (h1.trans (hB3.mono h1.size))
      · have HT2 : Hid (∀ j (hj : j < (namesB p).length), j < k + 1 → mayB (namesB p)[j] = true) := by
          intro j hj h
          rcases Nat.lt_or_ge j k with h' | h'
          · exact HT.out j hj h'
          · obtain rfl : j = k := by omega
            exact hmk
        go_wp2
        go_roundw
        case rel => exact ⟨k + 1, by omega, by go_num, HT2.out, hB3⟩
        case measure => simp [intOf]; omega
    · obtain rfl : k = (namesB p).length := by omega
      have HP := Lib.hid (plainB_ok (l := p) (fun n hn => by
        obtain ⟨j, hj, rfl⟩ := List.getElem_of_mem hn
        exact HT.out j hj hj))
      have hsr : Strs wr (.slice ad (namesB p).length ca) (namesB p) := Strs.below ⟨ad, ca, rfl, HM.out, HA.out⟩ hBl
      go_wp2_with fail; refine (Join_any (namesB p) _ _ hsr (by omega) (by have := htot.out; omega)).mono ?_; rintro e w2 ⟨rfl, hB2⟩
      have hB3 := hBl.trans (hB2.mono hBl.size)
      have hs2 := hsr.below hB2
      cases hj : (joinB (namesB p) == p)
      · have HN : Hid (plainB p = none) := by (show _ = _); rw [HP.out, hj]; rfl
        go_wp2
        go_ret2
        exact PlainPost.none_ HN.out rfl (h1.trans (hB3.mono h1.size))
      · have HN : Hid (plainB p = some (namesB p)) := by (show _ = _); rw [HP.out, hj]; rfl
        go_wp2
        go_ret2
        exact ⟨_, by rw [HN.out]; rfl, by rw [HN.out]; exact hs2, h1.trans (hB3.mono h1.size)⟩
end Go.Proofs.YtkdmfeikikmiiaaGreat
