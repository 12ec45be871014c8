/- Walks: the document's Under, Plain, Read. -/
import Derived.Test.YtgonjgbdggpedaaWalkI03
namespace Go.Proofs.Ytgonjgbdggpedaa
open Go.RowKit

theorem prefix_at {a b : List (List UInt8)} (h : b.length ≤ a.length) : b.isPrefixOf a = decide (∀ j (hj : j < b.length), a[j]'(by omega) = b[j]) := by
  rw [Bool.eq_iff_iff, List.isPrefixOf_iff_prefix, decide_eq_true_eq, List.prefix_iff_eq_take]
  constructor
  · intro e j hj
    have : (a.take b.length)[j]'(by simp; omega) = b[j] := by congr 1; exact e.symm
    rw [← this, List.getElem_take]
  · intro e
    apply List.ext_getElem
    · simp; omega
    · intro i h1 h2
      rw [List.getElem_take, e i h1]

set_option maxHeartbeats 1000000 in
theorem refUnder_any (p q : List UInt8) (w : World) (hp : p.length ≤ 1000000) (hq : q.length ≤ 1000000) :
    Calls Try.prog 28 #[.string ⟨p.toArray⟩, .string ⟨q.toArray⟩] w fun e w' => e = .returned (.bool ((namesB q).isPrefixOf (namesB p))) ∧ Below w.heap.size w w' := by
  go_enter Try.func28, Try.ntmps28
  go_wp2_with fail; refine (refNames_any p _ hp).mono ?_; rintro e w1 ⟨va, rfl, owna, h1⟩
  have sa := own_strs owna
  go_wp2_with fail; refine (refNames_any q _ hq).mono ?_; rintro e w2 ⟨vb, rfl, ownb, h2⟩
  have sa2 := sa.below h2
  replace h2 := h1.trans (h2.mono h1.size)
  have sb := own_strs ownb
  clear sa owna ownb h1
  have hca := namesB_count p
  have hcb := namesB_count q
  generalize hA : namesB p = A at *
  generalize hB : namesB q = B at *
  have HAe := Lib.hid hA
  have HBe := Lib.hid hB
  clear hA hB
  obtain ⟨aa, ca, rfl, _, HA0⟩ := sa2
  obtain ⟨ab, cb, rfl, _, HB0⟩ := sb
  have HA := Lib.hid HA0
  have HB := Lib.hid HB0
  clear HA0 HB0
  by_cases hl : B.length ≤ A.length
  · have HP := Lib.hid (prefix_at hl)
    go_wp2
    go_loopw [7] (fun i wr => ∃ k : Nat, k ≤ B.length ∧ i = .int .i64 k ∧ Aside (∀ j (hj : j < B.length), j < k → A[j]'(by omega) = B[j]) ∧ Below w2.heap.size w2 wr) (fun i _ => B.length - (intOf i).toNat)
    case atStart => exact ⟨0, Nat.zero_le _, rfl, fun j hj h => absurd h (by omega), Below.refl _ _⟩
    case round =>
      obtain ⟨k, hk, rfl, HT, hbw⟩ := hrel
      by_cases hlt : k < B.length
      · have hlta : k < A.length := by omega
        obtain ⟨ba, oa, rfl, hba, hxa⟩ := HA.out (by omega)
        obtain ⟨bb, ob, rfl, hbb, hxb⟩ := HB.out (by omega)
        have c1 : wr.cell? ⟨ba, oa + k, none⟩ = some (.string ⟨A[k].toArray⟩) := (hbw.cell (p := ⟨ba, oa + k, none⟩) hba).trans (hxa k hlta)
        have c2 : wr.cell? ⟨bb, ob + k, none⟩ = some (.string ⟨B[k].toArray⟩) := (hbw.cell (p := ⟨bb, ob + k, none⟩) hbb).trans (hxb k hlt)
        clear hxa hxb
        have k0 : (0 : Int) ≤ (k : Int) := by omega
        have k1 : (k : Int) < (A.length : Int) := by omega
        have k2 : (k : Int) < (B.length : Int) := by omega
        cases he : A[k] == B[k]
        · have hne2 : Hid (B.isPrefixOf A = false) := by
            (show _ = _); rw [HP.out, decide_eq_false_iff_not]
            intro h
            rw [h k hlt] at he
            simp at he
          go_wp2
          go_quiet (fail)
          go_wp2
          go_ret
          exact ⟨ret_bool (by rw [HAe.out, HBe.out, hne2.out]), h2.trans ((below_drewN hbw _).mono h2.size)⟩
        · have HT2 : Hid (∀ j (hj : j < B.length), j < k + 1 → A[j]'(by omega) = B[j]) := by
            intro j hj h
            rcases Nat.lt_or_ge j k with h' | h'
            · exact HT.out j hj h'
            · obtain rfl : j = k := by omega
              exact beq_iff_eq.1 he
          go_wp2
          go_quiet (fail)
          go_wp2
          go_roundw
          case rel => exact ⟨k + 1, by omega, by go_num, HT2.out, below_drewN hbw _⟩
          case measure => simp [intOf]; omega
      · have hy : Hid (B.isPrefixOf A = true) := by
          (show _ = _); rw [HP.out, decide_eq_true_eq]
          intro j hj
          exact HT.out j hj (by omega)
        go_wp2
        go_ret
        exact ⟨ret_bool (by rw [HAe.out, HBe.out, hy.out]), h2.trans (hbw.mono h2.size)⟩
  · have hn : Hid (B.isPrefixOf A = false) := by
      (show _ = _); rw [Bool.eq_false_iff, ne_eq, List.isPrefixOf_iff_prefix]
      intro h; exact hl h.length_le
    go_wp2
    go_ret
    exact ⟨ret_bool (by rw [HAe.out, HBe.out, hn.out]), h2⟩

set_option maxHeartbeats 1000000 in
theorem refPlain_any (p : List UInt8) (w : World) (hp : p.length ≤ 10000) :
    Calls Try.prog 25 #[.string ⟨p.toArray⟩] w (PlainPost w (plainB p)) := by
  have hsz := Lib.hid (namesB_size p)
  have hct := namesB_count p
  have htl : (tailB (namesB p)).length ≤ 100000000 := by
    have := namesA_total p []
    simp [namesB] at *; omega
  go_enter Try.func25, Try.ntmps25
  go_wp2_with fail; refine (refNames_any p _ (by omega)).mono ?_; rintro e w1 ⟨v, rfl, hown, h1⟩
  have hs := own_strs hown
  have HS := Lib.hid hs
  obtain ⟨ad, ca, rfl, hm, HA0⟩ := hs
  have HA := Lib.hid HA0
  clear HA0 hm hown
  go_wp2
  go_loop [5] (fun i => ∃ k : Nat, k ≤ (namesB p).length ∧ i = .int .i64 k ∧ Aside (∀ j (hj : j < (namesB p).length), j < k → mayB (namesB p)[j] = true)) (fun i => (namesB p).length - (intOf i).toNat)
  case atStart => exact ⟨0, Nat.zero_le _, rfl, fun j hj h => absurd h (by omega)⟩
  case round =>
    obtain ⟨k, hk, rfl, HT⟩ := hrel
    by_cases hlt : k < (namesB p).length
    · obtain ⟨ba, oa, rfl, hba, hca⟩ := HA.out (by omega)
      have c1 : w1.cell? ⟨ba, oa + k, none⟩ = some (.string ⟨(namesB p)[k].toArray⟩) := hca k hlt
      clear hca
      have hks := hsz.out _ (List.getElem_mem hlt)
      go_wp2_with fail; refine (refMay_any (namesB p)[k] _ (by omega)).mono ?_; rintro e w2 ⟨rfl, rfl⟩
      cases hmk : mayB (namesB p)[k]
      · have HN := Lib.hid (plainB_bad hlt hmk)
        go_wp2
        go_ret2
        exact PlainPost.none_ HN.out rfl h1
      · have HT2 : Hid (∀ j (hj : j < (namesB p).length), j < k + 1 → mayB (namesB p)[j] = true) := by
          intro j hj h
          rcases Nat.lt_or_ge j k with h' | h'
          · exact HT.out j hj h'
          · obtain rfl : j = k := by omega
            exact hmk
        go_wp2
        go_round
        case rel => exact ⟨k + 1, by omega, by go_num, HT2.out⟩
        case measure => simp [intOf]; omega
    · obtain rfl : k = (namesB p).length := by omega
      have HP := Lib.hid (plainB_ok (l := p) (fun n hn => by
        obtain ⟨j, hj, rfl⟩ := List.getElem_of_mem hn
        exact HT.out j hj hj))
      go_wp2_with fail; refine (refJoin_any (namesB p) _ _ HS.out (by omega) htl).mono ?_; rintro e w2 ⟨rfl, rfl⟩
      cases hj : (joinB (namesB p) == p)
      · have HN : Hid (plainB p = none) := by (show _ = _); rw [HP.out, hj]; rfl
        go_wp2
        go_ret2
        exact PlainPost.none_ HN.out rfl h1
      · have HN : Hid (plainB p = some (namesB p)) := by (show _ = _); rw [HP.out, hj]; rfl
        go_wp2
        go_ret2
        exact ⟨_, by rw [HN.out]; rfl, by rw [HN.out]; exact HS.out, h1⟩

theorem absB_at {p : List UInt8} (h : 0 < p.length) : absB p = ((p[0].toNat : Int) == 47) := by
  cases p with
  | nil => simp at h
  | cons c r =>
    rw [Bool.eq_iff_iff]
    simp [absB]
    constructor
    · rintro rfl; rfl
    · intro e; exact UInt8.toNat_inj.1 (by simp; omega)
theorem endB_at {p : List UInt8} (h : 0 < p.length) : endB p = ((p[p.length - 1].toNat : Int) == 47) := by
  unfold endB
  rw [List.getLast?_eq_getElem?, List.getElem?_eq_getElem (by omega), Bool.eq_iff_iff]
  simp
  constructor
  · intro e; rw [e]; rfl
  · intro e; exact UInt8.toNat_inj.1 (by simp; omega)

theorem read_close {w w1 : World} {t : TypeId} {a s : Bool} {v : Value} {ns : List (List UInt8)} (hb : Blk w1 w.heap.size t (pathR false (.slice none 0 0) false)) (hB : Below w.heap.size w w1) (hs : Strs w1 v ns) :
    ∃ W, W = ((((w1.setCell ⟨w.heap.size, 0, none⟩ (.bool a)).setCell ⟨w.heap.size, 1, none⟩ v).setCell ⟨w.heap.size, 2, none⟩ (.bool s)).alloc (.cells (pathR a v s) t)) ∧
      Blk W w.heap.size t (pathR a v s) ∧ Strs W v ns ∧ Below w.heap.size w W := by
  refine ⟨_, rfl, ?_, ?_, ?_⟩
  · simpa [pathR] using (((hb.set 0 (.bool a)).set 1 v).set 2 (.bool s)).alloc (.cells (pathR a v s) t)
  · obtain ⟨ad, cap, rfl, hm, h1⟩ := hs
    refine ⟨ad, cap, rfl, hm, fun hl => ?_⟩
    obtain ⟨b, off, rfl, hlt, hc⟩ := h1 hl
    have hne : b ≠ w.heap.size := by
      rintro rfl
      have := hc 0 hl
      rw [hb.cell] at this
      rcases Nat.lt_or_ge (off + 0) 3 with h | h
      · have : off + 0 = 0 ∨ off + 0 = 1 ∨ off + 0 = 2 := by omega
        rcases this with e | e | e <;> simp_all [pathR]
      · have hn3 : (pathR false (.slice none 0 0) false)[off + 0]? = none := Array.getElem?_eq_none h
        rw [hn3] at this; cases this
    refine ⟨b, off, rfl, by simp [World.setCell]; omega, fun i hi => ?_⟩
    have hbl : ((((w1.setCell ⟨w.heap.size, 0, none⟩ (.bool a)).setCell ⟨w.heap.size, 1, none⟩ (.slice (some ⟨b, off, none⟩) ns.length cap)).setCell ⟨w.heap.size, 2, none⟩ (.bool s)).alloc (.cells (pathR a (.slice (some ⟨b, off, none⟩) ns.length cap) s) t)).heap[b]? = w1.heap[b]? := by
      rw [Below.heap_alloc _ _ _ (by simp [World.setCell]; omega), Below.heap_setCell _ _ _ b (fun e => hne e), Below.heap_setCell _ _ _ b (fun e => hne e), Below.heap_setCell _ _ _ b (fun e => hne e)]
    rw [World.cell?_of_block (a := ⟨b, off + i, none⟩) hbl]
    exact hc i hi
  · have hn := Nat.le_refl w.heap.size
    have h3 := ((hB.setCell (p := ⟨w.heap.size, 0, none⟩) hn (.bool a)).setCell (p := ⟨w.heap.size, 1, none⟩) hn v).setCell (p := ⟨w.heap.size, 2, none⟩) hn (.bool s)
    exact h3.alloc h3.size _

set_option maxHeartbeats 1000000 in
theorem refRead_any (p : List UInt8) (w : World) (hp : p.length ≤ 1000000) :
    Calls Try.prog 12 #[.string ⟨p.toArray⟩] w fun e w' => ∃ v, e = .returned (.agg (pathR (absB p) v (slashB p))) ∧ Strs w' v (namesB p) ∧ Below w.heap.size w w' := by
  have hct := namesB_count p
  have b0 := Blk.new w 26 (pathR false (.slice none 0 0) false)
  have h0 : Below w.heap.size w (w.alloc (.cells (pathR false (.slice none 0 0) false) 26)) := (Below.refl _ w).alloc (Nat.le_refl _) _
  go_enter Try.func12, Try.ntmps12
  go_wp2_with fail; refine (refNames_any p _ hp).mono ?_; rintro e w1 ⟨v, rfl, hown, h1⟩
  have b1 := b0.next h1
  have hs := own_strs hown
  have hB1 := h0.trans (h1.mono h0.size)
  have d0 := b1.cell 0
  have d1 := b1.cell 1
  have d2 := b1.cell 2
  have e0 := b1.frozen 0
  have e1 := b1.frozen 1
  have e2 := b1.frozen 2
  simp [pathR] at d0 d1 d2
  have hlt := b1.lt
  have HS := Lib.hid hs
  have HB1 := Lib.hid hB1
  obtain ⟨ad, ca, rfl, hm, HA0⟩ := hs
  clear HA0 hm hown h1 h0 b0 hB1
  by_cases hpos : 0 < p.length
  · have HAb := Lib.hid (absB_at hpos)
    have HEb := Lib.hid (endB_at hpos)
    by_cases hn : 0 < (namesB p).length
    · have HSl : Hid (slashB p = ((p[p.length - 1].toNat : Int) == 47)) := by
        have : (namesB p).isEmpty = false := by rw [List.isEmpty_eq_false_iff]; intro e; rw [e] at hn; simp at hn
        (show _ = _); unfold slashB; rw [this, HEb.out]; rfl
      have k1 : (0 : Int) ≤ (p.length : Int) - 1 := by omega
      have k2 : (p.length : Int) - 1 < (p.length : Int) := by omega
      have k3 : ((p.length : Int) - 1).toNat = p.length - 1 := by omega
      go_wp2
      obtain ⟨W, hW, hb, hsW, hBW⟩ := read_close (a := ((p[0].toNat : Int) == 47)) (s := ((p[p.length - 1].toNat : Int) == 47)) b1 HB1.out HS.out
      try simp only [pathR] at hW
      rw [← hW]
      have g0 := hb.cell 0
      have g1 := hb.cell 1
      have g2 := hb.cell 2
      simp [pathR] at g0 g1 g2
      refine bodyPost_ret (v := .agg (pathR ((p[0].toNat : Int) == 47) (.slice ad (namesB p).length ca) ((p[p.length - 1].toNat : Int) == 47))) (by simp [results, Try.f12, go_sem, g0, g1, g2]) rfl ?_
      exact ⟨_, by rw [HAb.out, HSl.out], hsW, hBW⟩
    · have HSl : Hid (slashB p = false) := by
        have : (namesB p).isEmpty = true := by rw [List.isEmpty_iff]; exact List.eq_nil_of_length_eq_zero (by omega)
        (show _ = _); unfold slashB; rw [this]; rfl
      go_wp2
      obtain ⟨W, hW, hb, hsW, hBW⟩ := read_close (a := ((p[0].toNat : Int) == 47)) (s := false) b1 HB1.out HS.out
      try simp only [pathR] at hW
      rw [← hW]
      have g0 := hb.cell 0
      have g1 := hb.cell 1
      have g2 := hb.cell 2
      simp [pathR] at g0 g1 g2
      refine bodyPost_ret (v := .agg (pathR ((p[0].toNat : Int) == 47) (.slice ad (namesB p).length ca) false)) (by simp [results, Try.f12, go_sem, g0, g1, g2]) rfl ?_
      exact ⟨_, by rw [HAb.out, HSl.out], hsW, hBW⟩
  · obtain rfl : p = [] := List.eq_nil_of_length_eq_zero (by omega)
    have hn0 : (namesB []).length = 0 := rfl
    go_wp2
    obtain ⟨W, hW, hb, hsW, hBW⟩ := read_close (a := false) (s := false) b1 HB1.out (show Strs w1 (.slice ad 0 ca) (namesB []) from HS.out)
    try simp only [pathR] at hW
    rw [← hW]
    have g0 := hb.cell 0
    have g1 := hb.cell 1
    have g2 := hb.cell 2
    simp [pathR] at g0 g1 g2
    refine bodyPost_ret (v := .agg (pathR false (.slice ad 0 ca) false)) (by simp [results, Try.f12, go_sem, g0, g1, g2]) rfl ?_
    exact ⟨_, by rw [show absB [] = false from rfl, show slashB [] = false from rfl], hsW, hBW⟩
end Go.Proofs.Ytgonjgbdggpedaa
