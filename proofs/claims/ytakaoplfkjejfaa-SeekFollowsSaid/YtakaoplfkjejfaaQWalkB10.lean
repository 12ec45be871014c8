/- Walks: the document's way on, names with room behind them. -/
import Derived.Test.YtakaoplfkjejfaaQWalkA10
import Derived.Test.YtakaoplfkjejfaaQWalkJ03
import Derived.Test.YtakaoplfkjejfaaQWalkA08
namespace Go.Proofs.Ytakaoplfkjejfaa
open Go.RowKit

/-- A slice's room. -/
def CapOk (v : Value) : Prop := ∃ a n c, v = .slice a n c ∧ n ≤ c ∧ c ≤ maxLen ∧ (a = none → c = 0)
def StrsC (w : World) (v : Value) (l : List (List UInt8)) : Prop := Strs w v l ∧ CapOk v
theorem StrsC.below {w w' : World} {v : Value} {l : List (List UInt8)} (h : StrsC w v l) (hb : Below w.heap.size w w') : StrsC w' v l := ⟨h.1.below hb, h.2⟩
theorem own_cap {w : World} {base : Nat} {e : TypeId} {size : Nat} {v : Value} {n : Nat} {xs : List Value} (h : w.ownsRow base e size v n xs) : CapOk v := by
  rcases own_cases h with ⟨rfl, _⟩ | ⟨g, cap, rfl, _, _, h1, h2⟩
  · exact ⟨_, _, _, rfl, Nat.le_refl _, Nat.zero_le _, fun _ => rfl⟩
  · exact ⟨_, _, _, rfl, h1, h2, fun h => by cases h⟩
theorem own_strsC {w : World} {base : Nat} {e : TypeId} {v : Value} {n : Nat} {l : List (List UInt8)} (h : w.ownsRow base e 1 v n (strsV l)) : StrsC w v l := ⟨own_strs h, own_cap h⟩
theorem strs_nil {w : World} {v : Value} (h : StrsC w v []) : ∃ a c, v = .slice a 0 c := by
  obtain ⟨a, c, rfl, _⟩ := h.1
  exact ⟨a, c, rfl⟩
theorem strs_cons {w : World} {v : Value} {n : List UInt8} {r : List (List UInt8)} (h : StrsC w v (n :: r)) : ∃ b o M c, v = .slice (some ⟨b, o, none⟩) M c ∧ M = r.length + 1 ∧ M ≤ c ∧ c ≤ maxLen ∧ b < w.heap.size ∧ w.cell? ⟨b, o, none⟩ = some (.string ⟨n.toArray⟩) ∧
    (∀ i (hi : i < r.length), w.cell? ⟨b, o + 1 + i, none⟩ = some (.string ⟨r[i].toArray⟩)) := by
  obtain ⟨⟨a, c, rfl, hm, h1⟩, a2, n2, c2, e2, h2, h3, h4⟩ := h
  simp only [Value.slice.injEq] at e2
  obtain ⟨rfl, rfl, rfl⟩ := e2
  obtain ⟨b, o, rfl, hb, hc⟩ := h1 (by simp)
  refine ⟨b, o, _, c, rfl, by simp, h2, h3, hb, hc 0 (by simp), fun i hi => ?_⟩
  have := hc (i + 1) (by simp; omega)
  rw [show o + (i + 1) = o + 1 + i from by omega] at this
  simpa using this
theorem strs_rest {w : World} {b o : Nat} {r : List (List UInt8)} (hb : b < w.heap.size) (hc : ∀ i (hi : i < r.length), w.cell? ⟨b, o + 1 + i, none⟩ = some (.string ⟨r[i].toArray⟩)) (a : Option Addr) (n c : Nat) (hn : n = r.length) (hnc : n ≤ c) (hcm : c ≤ maxLen) (h0 : a = none → c = 0) (ha : 0 < r.length → a = some ⟨b, o + 1, none⟩) :
    StrsC w (.slice a n c) r := by
  subst hn
  exact ⟨⟨a, c, rfl, by omega, fun hl => ⟨b, o + 1, ha hl, hb, hc⟩⟩, a, _, c, rfl, hnc, hcm, h0⟩
theorem strs_src {w : World} {a : Option Addr} {n c : Nat} {l : List (List UInt8)} (h : StrsC w (.slice a n c) l) : n = l.length ∧ (a = none → n = 0 ∧ c = 0) ∧ ∀ ad, a = some ad → ∀ j u, (strsV l)[j]? = some u → w.cell? (ad.add j) = some u := by
  obtain ⟨⟨a1, c1, e1, hm, h1⟩, a2, n2, c2, e2, h2, h3, h4⟩ := h
  simp only [Value.slice.injEq] at e1 e2
  obtain ⟨rfl, rfl, rfl⟩ := e1
  obtain ⟨rfl, rfl, rfl⟩ := e2
  refine ⟨rfl, fun h => ⟨by have := h4 h; omega, h4 h⟩, fun ad had j u hu => ?_⟩
  have hj : j < l.length := by
    rcases Nat.lt_or_ge j (strsV l).length with h | h
    · simpa [strsV] using h
    · rw [List.getElem?_eq_none h] at hu; cases hu
  obtain ⟨b, o, e3, hb, hc⟩ := h1 (by omega)
  rw [had] at e3
  obtain rfl := Option.some.inj e3
  rw [Addr.add_lit, hc j hj, ← hu]
  simp [strsV, List.getElem?_eq_getElem hj]
theorem strsV_append (a b : List (List UInt8)) : strsV (a ++ b) = strsV a ++ strsV b := by simp [strsV]
theorem strsV_one (l : List (List UInt8)) : ∀ u ∈ strsV l, u.oneCell' = true := by
  intro u hu; obtain ⟨_, _, rfl⟩ := List.mem_map.1 hu; rfl
theorem strsV_len (l : List (List UInt8)) : (strsV l).length = l.length * 1 := by simp [strsV]

end Go.Proofs.Ytakaoplfkjejfaa
