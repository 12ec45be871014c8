/- Walks: the document's Under, Plain, Read. -/
import Derived.Test.YtobepdmpacdakaaGreatQB
import Derived.Test.YtobepdmpacdakaaGreatQPlain03
set_option linter.unusedVariables false
set_option linter.unusedSimpArgs false
namespace Go.Proofs.YtobepdmpacdakaaGreat
open Go.RowKit

theorem prefix_at {a b : List (List UInt8)} (h : b.length ≤ a.length) : b.isPrefixOf a = decide (∀ j (hj : j < b.length), a[j]'(by omega) = b[j]) := by
  rw [Bool.eq_iff_iff, List.isPrefixOf_iff_prefix, decide_eq_true_eq, List.prefix_iff_eq_take]
  constructor
  · intro e j hj
    have : (a.take b.length)[j]'(by simp; omega) = b[j] := by congr 1; exact e.symm
    rw [← this, List.getElem_take]
  · intro e
    apply List.ext_getElem
    · simp; omega
    · intro i h1 h2
      rw [List.getElem_take, e i h1]

theorem absB_at {p : List UInt8} (h : 0 < p.length) : absB p = ((p[0].toNat : Int) == 47) := by
  cases p with
  | nil => simp at h
  | cons c r =>
    rw [Bool.eq_iff_iff]
    simp [absB]
    constructor
    · rintro rfl; rfl
    · intro e; exact UInt8.toNat_inj.1 (by simp; omega)
theorem endB_at {p : List UInt8} (h : 0 < p.length) : endB p = ((p[p.length - 1].toNat : Int) == 47) := by
  unfold endB
  rw [List.getLast?_eq_getElem?, List.getElem?_eq_getElem (by omega), Bool.eq_iff_iff]
  simp
  constructor
  · intro e; rw [e]; rfl
  · intro e; exact UInt8.toNat_inj.1 (by simp; omega)

theorem read_close {w w1 : World} {t : TypeId} {a s : Bool} {v : Value} {ns : List (List UInt8)} (hb : Blk w1 w.heap.size t (pathR false (.slice none 0 0) false)) (hB : Below w.heap.size w w1) (hs : Strs w1 v ns) :
    ∃ W, W = ((((w1.setCell ⟨w.heap.size, 0, none⟩ (.bool a)).setCell ⟨w.heap.size, 1, none⟩ v).setCell ⟨w.heap.size, 2, none⟩ (.bool s)).alloc (.cells (pathR a v s) t)) ∧
      Blk W w.heap.size t (pathR a v s) ∧ Strs W v ns ∧ Below w.heap.size w W := by
  refine ⟨_, rfl, ?_, ?_, ?_⟩
  · simpa [pathR] using (((hb.set 0 (.bool a)).set 1 v).set 2 (.bool s)).alloc (.cells (pathR a v s) t)
  · obtain ⟨ad, cap, rfl, hm, h1⟩ := hs
    refine ⟨ad, cap, rfl, hm, fun hl => ?_⟩
    obtain ⟨b, off, rfl, hlt, hc⟩ := h1 hl
    have hne : b ≠ w.heap.size := by
      rintro rfl
      have := hc 0 hl
      rw [hb.cell] at this
      rcases Nat.lt_or_ge (off + 0) 3 with h | h
      · have : off + 0 = 0 ∨ off + 0 = 1 ∨ off + 0 = 2 := by omega
        rcases this with e | e | e <;> simp_all [pathR]
      · have hn3 : (pathR false (.slice none 0 0) false)[off + 0]? = none := Array.getElem?_eq_none h
        rw [hn3] at this; cases this
    refine ⟨b, off, rfl, by simp [World.setCell]; omega, fun i hi => ?_⟩
    have hbl : ((((w1.setCell ⟨w.heap.size, 0, none⟩ (.bool a)).setCell ⟨w.heap.size, 1, none⟩ (.slice (some ⟨b, off, none⟩) ns.length cap)).setCell ⟨w.heap.size, 2, none⟩ (.bool s)).alloc (.cells (pathR a (.slice (some ⟨b, off, none⟩) ns.length cap) s) t)).heap[b]? = w1.heap[b]? := by
      rw [Below.heap_alloc _ _ _ (by simp [World.setCell]; omega), Below.heap_setCell _ _ _ b (fun e => hne e), Below.heap_setCell _ _ _ b (fun e => hne e), Below.heap_setCell _ _ _ b (fun e => hne e)]
    rw [World.cell?_of_block (a := ⟨b, off + i, none⟩) hbl]
    exact hc i hi
  · have hn := Nat.le_refl w.heap.size
    have h3 := ((hB.setCell (p := ⟨w.heap.size, 0, none⟩) hn (.bool a)).setCell (p := ⟨w.heap.size, 1, none⟩) hn v).setCell (p := ⟨w.heap.size, 2, none⟩) hn (.bool s)
    exact h3.alloc h3.size _

set_option maxHeartbeats 1000000 in
theorem refRead_any (p : List UInt8) (w : World) (hp : p.length ≤ 1000000) :
    Calls Tryz.prog 36 #[.string ⟨p.toArray⟩] w fun e w' => ∃ v, e = .returned (.agg (pathR (absB p) v (slashB p))) ∧ Strs w' v (namesB p) ∧ Below w.heap.size w w' := by
  have hct := namesB_count p
  have b0 := Blk.new w 62 (pathR false (.slice none 0 0) false)
  have h0 : Below w.heap.size w (w.alloc (.cells (pathR false (.slice none 0 0) false) 62)) := (Below.refl _ w).alloc (Nat.le_refl _) _
  go_enter Tryz.func36, Tryz.ntmps36
  go_wp2_with fail; refine (refNames_any p _ hp).mono ?_; rintro e w1 ⟨v, rfl, hown, h1⟩
  have b1 := b0.next h1
  have hs := own_strs hown
  have hB1 := h0.trans (h1.mono h0.size)
  have d0 := b1.cell 0
  have d1 := b1.cell 1
  have d2 := b1.cell 2
  have e0 := b1.frozen 0
  have e1 := b1.frozen 1
  have e2 := b1.frozen 2
  simp [pathR] at d0 d1 d2
  have hlt := b1.lt
  have HS := Lib.hid hs
  have HB1 := Lib.hid hB1
  obtain ⟨ad, ca, rfl, hm, HA0⟩ := hs
  clear HA0 hm hown h1 h0 b0 hB1
  by_cases hpos : 0 < p.length
  · have HAb := Lib.hid (absB_at hpos)
    have HEb := Lib.hid (endB_at hpos)
    by_cases hn : 0 < (namesB p).length
    · have HSl : Hid (slashB p = ((p[p.length - 1].toNat : Int) == 47)) := by
        have : (namesB p).isEmpty = false := by rw [List.isEmpty_eq_false_iff]; intro e; rw [e] at hn; simp at hn
        (show _ = _); unfold slashB; rw [this, HEb.out]; rfl
      have k1 : (0 : Int) ≤ (p.length : Int) - 1 := by omega
      have k2 : (p.length : Int) - 1 < (p.length : Int) := by omega
      have k3 : ((p.length : Int) - 1).toNat = p.length - 1 := by omega
      go_wp2
      obtain ⟨W, hW, hb, hsW, hBW⟩ := read_close (a := ((p[0].toNat : Int) == 47)) (s := ((p[p.length - 1].toNat : Int) == 47)) b1 HB1.out HS.out
      try simp only [pathR] at hW
      rw [← hW]
      have g0 := hb.cell 0
      have g1 := hb.cell 1
      have g2 := hb.cell 2
      simp [pathR] at g0 g1 g2
      refine bodyPost_ret (v := .agg (pathR ((p[0].toNat : Int) == 47) (.slice ad (namesB p).length ca) ((p[p.length - 1].toNat : Int) == 47))) (by simp [results, Tryz.f36, go_sem, g0, g1, g2]) rfl ?_
      exact ⟨_, by rw [HAb.out, HSl.out], hsW, hBW⟩
    · have HSl : Hid (slashB p = false) := by
        have : (namesB p).isEmpty = true := by rw [List.isEmpty_iff]; exact List.eq_nil_of_length_eq_zero (by omega)
        (show _ = _); unfold slashB; rw [this]; rfl
      go_wp2
      obtain ⟨W, hW, hb, hsW, hBW⟩ := read_close (a := ((p[0].toNat : Int) == 47)) (s := false) b1 HB1.out HS.out
      try simp only [pathR] at hW
      rw [← hW]
      have g0 := hb.cell 0
      have g1 := hb.cell 1
      have g2 := hb.cell 2
      simp [pathR] at g0 g1 g2
      refine bodyPost_ret (v := .agg (pathR ((p[0].toNat : Int) == 47) (.slice ad (namesB p).length ca) false)) (by simp [results, Tryz.f36, go_sem, g0, g1, g2]) rfl ?_
      exact ⟨_, by rw [HAb.out, HSl.out], hsW, hBW⟩
  · obtain rfl : p = [] := List.eq_nil_of_length_eq_zero (by omega)
    have hn0 : (namesB []).length = 0 := rfl
    go_wp2
    obtain ⟨W, hW, hb, hsW, hBW⟩ := read_close (a := false) (s := false) b1 HB1.out (show Strs w1 (.slice ad 0 ca) (namesB []) from HS.out)
    try simp only [pathR] at hW
    rw [← hW]
    have g0 := hb.cell 0
    have g1 := hb.cell 1
    have g2 := hb.cell 2
    simp [pathR] at g0 g1 g2
    refine bodyPost_ret (v := .agg (pathR false (.slice ad 0 ca) false)) (by simp [results, Tryz.f36, go_sem, g0, g1, g2]) rfl ?_
    exact ⟨_, by rw [show absB [] = false from rfl, show slashB [] = false from rfl], hsW, hBW⟩
end Go.Proofs.YtobepdmpacdakaaGreat
