/- Walks: the document's way on, names with room behind them. -/
import Derived.Test.YtobepdmpacdakaaGreatQWalkA10
import Derived.Test.YtobepdmpacdakaaGreatQWalkJ03
import Derived.Test.YtobepdmpacdakaaGreatQWalkA08
set_option linter.unusedVariables false
set_option linter.unusedSimpArgs false
namespace Go.Proofs.YtobepdmpacdakaaGreat
open Go.RowKit

/-- A slice's room. -/
def CapOk (v : Value) : Prop := ∃ a n c, v = .slice a n c ∧ n ≤ c ∧ c ≤ maxLen ∧ (a = none → c = 0)
def StrsC (w : World) (v : Value) (l : List (List UInt8)) : Prop := Strs w v l ∧ CapOk v
theorem StrsC.below {w w' : World} {v : Value} {l : List (List UInt8)} (h : StrsC w v l) (hb : Below w.heap.size w w') : StrsC w' v l := ⟨h.1.below hb, h.2⟩
theorem own_cap {w : World} {base : Nat} {e : TypeId} {size : Nat} {v : Value} {n : Nat} {xs : List Value} (h : w.ownsRow base e size v n xs) : CapOk v := by
  rcases own_cases h with ⟨rfl, _⟩ | ⟨g, cap, rfl, _, _, h1, h2⟩
  · exact ⟨_, _, _, rfl, Nat.le_refl _, Nat.zero_le _, fun _ => rfl⟩
  · exact ⟨_, _, _, rfl, h1, h2, fun h => by cases h⟩
theorem own_strsC {w : World} {base : Nat} {e : TypeId} {v : Value} {n : Nat} {l : List (List UInt8)} (h : w.ownsRow base e 1 v n (strsV l)) : StrsC w v l := ⟨own_strs h, own_cap h⟩
theorem strs_nil {w : World} {v : Value} (h : StrsC w v []) : ∃ a c, v = .slice a 0 c := by
  obtain ⟨a, c, rfl, _⟩ := h.1
  exact ⟨a, c, rfl⟩
theorem strs_cons {w : World} {v : Value} {n : List UInt8} {r : List (List UInt8)} (h : StrsC w v (n :: r)) : ∃ b o M c, v = .slice (some ⟨b, o, none⟩) M c ∧ M = r.length + 1 ∧ M ≤ c ∧ c ≤ maxLen ∧ b < w.heap.size ∧ w.cell? ⟨b, o, none⟩ = some (.string ⟨n.toArray⟩) ∧
    (∀ i (hi : i < r.length), w.cell? ⟨b, o + 1 + i, none⟩ = some (.string ⟨r[i].toArray⟩)) := by
  obtain ⟨⟨a, c, rfl, hm, h1⟩, a2, n2, c2, e2, h2, h3, h4⟩ := h
  simp only [Value.slice.injEq] at e2
  obtain ⟨rfl, rfl, rfl⟩ := e2
  obtain ⟨b, o, rfl, hb, hc⟩ := h1 (by simp)
  refine ⟨b, o, _, c, rfl, by simp, h2, h3, hb, hc 0 (by simp), fun i hi => ?_⟩
  have := hc (i + 1) (by simp; omega)
  rw [show o + (i + 1) = o + 1 + i from by omega] at this
  simpa using this
theorem strs_rest {w : World} {b o : Nat} {r : List (List UInt8)} (hb : b < w.heap.size) (hc : ∀ i (hi : i < r.length), w.cell? ⟨b, o + 1 + i, none⟩ = some (.string ⟨r[i].toArray⟩)) (a : Option Addr) (n c : Nat) (hn : n = r.length) (hnc : n ≤ c) (hcm : c ≤ maxLen) (h0 : a = none → c = 0) (ha : 0 < r.length → a = some ⟨b, o + 1, none⟩) :
    StrsC w (.slice a n c) r := by
  subst hn
  exact ⟨⟨a, c, rfl, by omega, fun hl => ⟨b, o + 1, ha hl, hb, hc⟩⟩, a, _, c, rfl, hnc, hcm, h0⟩
theorem strs_src {w : World} {a : Option Addr} {n c : Nat} {l : List (List UInt8)} (h : StrsC w (.slice a n c) l) : n = l.length ∧ (a = none → n = 0 ∧ c = 0) ∧ ∀ ad, a = some ad → ∀ j u, (strsV l)[j]? = some u → w.cell? (ad.add j) = some u := by
  obtain ⟨⟨a1, c1, e1, hm, h1⟩, a2, n2, c2, e2, h2, h3, h4⟩ := h
  simp only [Value.slice.injEq] at e1 e2
  obtain ⟨rfl, rfl, rfl⟩ := e1
  obtain ⟨rfl, rfl, rfl⟩ := e2
  refine ⟨rfl, fun h => ⟨by have := h4 h; omega, h4 h⟩, fun ad had j u hu => ?_⟩
  have hj : j < l.length := by
    rcases Nat.lt_or_ge j (strsV l).length with h | h
    · simpa [strsV] using h
    · rw [List.getElem?_eq_none h] at hu; cases hu
  obtain ⟨b, o, e3, hb, hc⟩ := h1 (by omega)
  rw [had] at e3
  obtain rfl := Option.some.inj e3
  rw [Addr.add_lit, hc j hj, ← hu]
  simp [strsV, List.getElem?_eq_getElem hj]
theorem strsV_append (a b : List (List UInt8)) : strsV (a ++ b) = strsV a ++ strsV b := by simp [strsV]
theorem strsV_one (l : List (List UInt8)) : ∀ u ∈ strsV l, u.oneCell' = true := by
  intro u hu; obtain ⟨_, _, rfl⟩ := List.mem_map.1 hu; rfl
theorem strsV_len (l : List (List UInt8)) : (strsV l).length = l.length * 1 := by simp [strsV]

set_option maxHeartbeats 1000000 in
theorem refReadC_any (p : List UInt8) (w : World) (hp : p.length ≤ 1000000) :
    Calls Tryz.prog 36 #[.string ⟨p.toArray⟩] w fun e w' => ∃ v, e = .returned (.agg (pathR (absB p) v (slashB p))) ∧ StrsC w' v (namesB p) ∧ Below w.heap.size w w' := by
  have hct := namesB_count p
  have b0 := Blk.new w 62 (pathR false (.slice none 0 0) false)
  have h0 : Below w.heap.size w (w.alloc (.cells (pathR false (.slice none 0 0) false) 62)) := (Below.refl _ w).alloc (Nat.le_refl _) _
  go_enter Tryz.func36, Tryz.ntmps36
  go_wp2_with fail; refine (refNames_any p _ hp).mono ?_; rintro e w1 ⟨v, rfl, hown, h1⟩
  have b1 := b0.next h1
  have hs := own_strs hown
  have hcap := own_cap hown
  have hB1 := h0.trans (h1.mono h0.size)
  have d0 := b1.cell 0
  have d1 := b1.cell 1
  have d2 := b1.cell 2
  have e0 := b1.frozen 0
  have e1 := b1.frozen 1
  have e2 := b1.frozen 2
  simp [pathR] at d0 d1 d2
  have hlt := b1.lt
  have HS := Lib.hid hs
  have HB1 := Lib.hid hB1
  obtain ⟨ad, ca, rfl, hm, HA0⟩ := hs
  clear HA0 hm hown h1 h0 b0 hB1
  by_cases hpos : 0 < p.length
  · have HAb := Lib.hid (absB_at hpos)
    have HEb := Lib.hid (endB_at hpos)
    by_cases hn : 0 < (namesB p).length
    · have HSl : Hid (slashB p = ((p[p.length - 1].toNat : Int) == 47)) := by
        have : (namesB p).isEmpty = false := by rw [List.isEmpty_eq_false_iff]; intro e; rw [e] at hn; simp at hn
        (show _ = _); unfold slashB; rw [this, HEb.out]; rfl
      have k1 : (0 : Int) ≤ (p.length : Int) - 1 := by omega
      have k2 : (p.length : Int) - 1 < (p.length : Int) := by omega
      have k3 : ((p.length : Int) - 1).toNat = p.length - 1 := by omega
      go_wp2
      obtain ⟨W, hW, hb, hsW, hBW⟩ := read_close (a := ((p[0].toNat : Int) == 47)) (s := ((p[p.length - 1].toNat : Int) == 47)) b1 HB1.out HS.out
      try simp only [pathR] at hW
      rw [← hW]
      have g0 := hb.cell 0
      have g1 := hb.cell 1
      have g2 := hb.cell 2
      simp [pathR] at g0 g1 g2
      refine bodyPost_ret (v := .agg (pathR ((p[0].toNat : Int) == 47) (.slice ad (namesB p).length ca) ((p[p.length - 1].toNat : Int) == 47))) (by simp [results, Tryz.f36, go_sem, g0, g1, g2]) rfl ?_
      exact ⟨_, by rw [HAb.out, HSl.out], ⟨hsW, hcap⟩, hBW⟩
    · have HSl : Hid (slashB p = false) := by
        have : (namesB p).isEmpty = true := by rw [List.isEmpty_iff]; exact List.eq_nil_of_length_eq_zero (by omega)
        (show _ = _); unfold slashB; rw [this]; rfl
      go_wp2
      obtain ⟨W, hW, hb, hsW, hBW⟩ := read_close (a := ((p[0].toNat : Int) == 47)) (s := false) b1 HB1.out HS.out
      try simp only [pathR] at hW
      rw [← hW]
      have g0 := hb.cell 0
      have g1 := hb.cell 1
      have g2 := hb.cell 2
      simp [pathR] at g0 g1 g2
      refine bodyPost_ret (v := .agg (pathR ((p[0].toNat : Int) == 47) (.slice ad (namesB p).length ca) false)) (by simp [results, Tryz.f36, go_sem, g0, g1, g2]) rfl ?_
      exact ⟨_, by rw [HAb.out, HSl.out], ⟨hsW, hcap⟩, hBW⟩
  · obtain rfl : p = [] := List.eq_nil_of_length_eq_zero (by omega)
    have hn0 : (namesB []).length = 0 := rfl
    go_wp2
    obtain ⟨W, hW, hb, hsW, hBW⟩ := read_close (a := false) (s := false) b1 HB1.out (show Strs w1 (.slice ad 0 ca) (namesB []) from HS.out)
    try simp only [pathR] at hW
    rw [← hW]
    have g0 := hb.cell 0
    have g1 := hb.cell 1
    have g2 := hb.cell 2
    simp [pathR] at g0 g1 g2
    refine bodyPost_ret (v := .agg (pathR false (.slice ad 0 ca) false)) (by simp [results, Tryz.f36, go_sem, g0, g1, g2]) rfl ?_
    exact ⟨_, by rw [show absB [] = false from rfl, show slashB [] = false from rfl], ⟨hsW, hcap⟩, hBW⟩
end Go.Proofs.YtobepdmpacdakaaGreat
