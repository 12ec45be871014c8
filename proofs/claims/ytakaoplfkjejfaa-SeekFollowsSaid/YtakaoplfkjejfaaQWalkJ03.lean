/- Walks: the document's Under, Plain, Read. -/
import Derived.Test.YtakaoplfkjejfaaQWalkI03
import Derived.Test.YtakaoplfkjejfaaQPlain03
namespace Go.Proofs.Ytakaoplfkjejfaa
open Go.RowKit

theorem prefix_at {a b : List (List UInt8)} (h : b.length ≤ a.length) : b.isPrefixOf a = decide (∀ j (hj : j < b.length), a[j]'(by omega) = b[j]) := by
  rw [Bool.eq_iff_iff, List.isPrefixOf_iff_prefix, decide_eq_true_eq, List.prefix_iff_eq_take]
  constructor
  · intro e j hj
    have : (a.take b.length)[j]'(by simp; omega) = b[j] := by congr 1; exact e.symm
    rw [← this, List.getElem_take]
  · intro e
    apply List.ext_getElem
    · simp; omega
    · intro i h1 h2
      rw [List.getElem_take, e i h1]

theorem absB_at {p : List UInt8} (h : 0 < p.length) : absB p = ((p[0].toNat : Int) == 47) := by
  cases p with
  | nil => simp at h
  | cons c r =>
    rw [Bool.eq_iff_iff]
    simp [absB]
    constructor
    · rintro rfl; rfl
    · intro e; exact UInt8.toNat_inj.1 (by simp; omega)
theorem endB_at {p : List UInt8} (h : 0 < p.length) : endB p = ((p[p.length - 1].toNat : Int) == 47) := by
  unfold endB
  rw [List.getLast?_eq_getElem?, List.getElem?_eq_getElem (by omega), Bool.eq_iff_iff]
  simp
  constructor
  · intro e; rw [e]; rfl
  · intro e; exact UInt8.toNat_inj.1 (by simp; omega)

theorem read_close {w w1 : World} {t : TypeId} {a s : Bool} {v : Value} {ns : List (List UInt8)} (hb : Blk w1 w.heap.size t (pathR false (.slice none 0 0) false)) (hB : Below w.heap.size w w1) (hs : Strs w1 v ns) :
    ∃ W, W = ((((w1.setCell ⟨w.heap.size, 0, none⟩ (.bool a)).setCell ⟨w.heap.size, 1, none⟩ v).setCell ⟨w.heap.size, 2, none⟩ (.bool s)).alloc (.cells (pathR a v s) t)) ∧
      Blk W w.heap.size t (pathR a v s) ∧ Strs W v ns ∧ Below w.heap.size w W := by
  refine ⟨_, rfl, ?_, ?_, ?_⟩
  · simpa [pathR] using (((hb.set 0 (.bool a)).set 1 v).set 2 (.bool s)).alloc (.cells (pathR a v s) t)
  · obtain ⟨ad, cap, rfl, hm, h1⟩ := hs
    refine ⟨ad, cap, rfl, hm, fun hl => ?_⟩
    obtain ⟨b, off, rfl, hlt, hc⟩ := h1 hl
    have hne : b ≠ w.heap.size := by
      rintro rfl
      have := hc 0 hl
      rw [hb.cell] at this
      rcases Nat.lt_or_ge (off + 0) 3 with h | h
      · have : off + 0 = 0 ∨ off + 0 = 1 ∨ off + 0 = 2 := by omega
        rcases this with e | e | e <;> simp_all [pathR]
      · have hn3 : (pathR false (.slice none 0 0) false)[off + 0]? = none := Array.getElem?_eq_none h
        rw [hn3] at this; cases this
    refine ⟨b, off, rfl, by simp [World.setCell]; omega, fun i hi => ?_⟩
    have hbl : ((((w1.setCell ⟨w.heap.size, 0, none⟩ (.bool a)).setCell ⟨w.heap.size, 1, none⟩ (.slice (some ⟨b, off, none⟩) ns.length cap)).setCell ⟨w.heap.size, 2, none⟩ (.bool s)).alloc (.cells (pathR a (.slice (some ⟨b, off, none⟩) ns.length cap) s) t)).heap[b]? = w1.heap[b]? := by
      rw [Below.heap_alloc _ _ _ (by simp [World.setCell]; omega), Below.heap_setCell _ _ _ b (fun e => hne e), Below.heap_setCell _ _ _ b (fun e => hne e), Below.heap_setCell _ _ _ b (fun e => hne e)]
    rw [World.cell?_of_block (a := ⟨b, off + i, none⟩) hbl]
    exact hc i hi
  · have hn := Nat.le_refl w.heap.size
    have h3 := ((hB.setCell (p := ⟨w.heap.size, 0, none⟩) hn (.bool a)).setCell (p := ⟨w.heap.size, 1, none⟩) hn v).setCell (p := ⟨w.heap.size, 2, none⟩) hn (.bool s)
    exact h3.alloc h3.size _

end Go.Proofs.Ytakaoplfkjejfaa
