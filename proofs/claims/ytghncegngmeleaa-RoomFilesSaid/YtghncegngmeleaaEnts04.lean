/- Slices of entries: one that came in, one of the call's own. -/
import Derived.Test.YtghncegngmeleaaPure04
import Derived.Test.YtghncegngmeleaaStrs
import Derived.Test.YtghncegngmeleaaBlk
import Derived.Laws.CopyOwn
import Derived.Laws.OwnMore
import Derived.Lib.SmallJoins
namespace Go.Proofs.Ytghncegngmeleaa
open Go.RowKit

abbrev entC (e : Ent) : Array Value := #[.string ⟨e.1.toArray⟩, .int .i64 e.2]
def entsV : List Ent → List Value
  | [] => []
  | e :: l => .string ⟨e.1.toArray⟩ :: .int .i64 e.2 :: entsV l
theorem entsV_len (l : List Ent) : (entsV l).length = l.length * 2 := by
  induction l with
  | nil => rfl
  | cons e l ih => simp [entsV, ih]; omega
theorem entsV_append (a b : List Ent) : entsV (a ++ b) = entsV a ++ entsV b := by
  induction a with
  | nil => rfl
  | cons e l ih => simp [entsV, ih]
theorem entsV_one (l : List Ent) : ∀ u ∈ entsV l, u.oneCell' = true := by
  induction l with
  | nil => simp [entsV]
  | cons e l ih =>
    intro u hu
    simp only [entsV, List.mem_cons] at hu
    rcases hu with rfl | rfl | hu
    · rfl
    · rfl
    · exact ih u hu
theorem entsV_at (l : List Ent) : ∀ (i : Nat) (h : i < l.length), (entsV l)[i * 2]? = some (.string ⟨l[i].1.toArray⟩) ∧ (entsV l)[i * 2 + 1]? = some (.int .i64 l[i].2) := by
  induction l with
  | nil => intro i h; simp at h
  | cons e l ih =>
    intro i h
    cases i with
    | zero => exact ⟨rfl, rfl⟩
    | succ i =>
      have := ih i (by simpa using h)
      rw [show (i + 1) * 2 = i * 2 + 2 from by omega, show i * 2 + 2 + 1 = i * 2 + 1 + 2 from by omega]
      simpa [entsV] using this
theorem entsV_take (l : List Ent) : ∀ k, (entsV l).take (k * 2) = entsV (l.take k) := by
  induction l with
  | nil => simp [entsV]
  | cons e l ih =>
    intro k
    cases k with
    | zero => simp [entsV]
    | succ k => rw [show (k + 1) * 2 = k * 2 + 2 from by omega]; simp [entsV, ih]
theorem entsV_drop (l : List Ent) : ∀ k, (entsV l).drop (k * 2) = entsV (l.drop k) := by
  induction l with
  | nil => simp [entsV]
  | cons e l ih =>
    intro k
    cases k with
    | zero => simp [entsV]
    | succ k => rw [show (k + 1) * 2 = k * 2 + 2 from by omega]; simp [entsV, ih]

/-- A slice that reads as these entries. -/
def Ents (w : World) (v : Value) (l : List Ent) : Prop :=
  ∃ a cap, v = .slice a l.length cap ∧ l.length ≤ cap ∧ cap ≤ maxLen ∧ (0 < l.length → ∃ b off, a = some ⟨b, off, none⟩ ∧ b < w.heap.size ∧ ∀ i (h : i < l.length), w.cell? ⟨b, off + i * 2, none⟩ = some (.string ⟨l[i].1.toArray⟩) ∧ w.cell? ⟨b, off + i * 2 + 1, none⟩ = some (.int .i64 l[i].2))

theorem Ents.below {w w' : World} {v : Value} {l : List Ent} (h : Ents w v l) (hb : Below w.heap.size w w') : Ents w' v l := by
  obtain ⟨a, cap, rfl, hc, hm, h1⟩ := h
  refine ⟨a, cap, rfl, hc, hm, fun hl => ?_⟩
  obtain ⟨b, off, rfl, hlt, hx⟩ := h1 hl
  exact ⟨b, off, rfl, Nat.lt_of_lt_of_le hlt hb.size, fun i hi => ⟨(hb.cell (p := ⟨b, off + i * 2, none⟩) hlt).trans (hx i hi).1, (hb.cell (p := ⟨b, off + i * 2 + 1, none⟩) hlt).trans (hx i hi).2⟩⟩

theorem Ents.nil_ (w : World) : Ents w (.slice none 0 0) [] := ⟨none, 0, rfl, Nat.zero_le _, Nat.zero_le _, fun h => absurd h (by simp)⟩

/-- What is owned reads so. -/
theorem own_ents {w : World} {base : Nat} {e : TypeId} {v : Value} {n : Nat} {l : List Ent} (h : w.ownsRow base e 2 v n (entsV l)) : Ents w v l := by
  have hlen := h.1
  rw [entsV_len] at hlen
  obtain rfl : n = l.length := by omega
  rcases h.2 with ⟨rfl, h0⟩ | ⟨g, cap, cur, rfl, hg, hh, hnc, hcm, hsz, htk⟩
  · have : l = [] := List.eq_nil_of_length_eq_zero h0
    subst this
    exact Ents.nil_ w
  · refine ⟨_, cap, rfl, hnc, hcm, fun _ => ⟨g, 0, rfl, (h.lt g rfl).2, fun i hi => ?_⟩⟩
    have c0 := h.cellAt (i * 2) (by omega)
    have c1 := h.cellAt (i * 2 + 1) (by omega)
    rw [(entsV_at l i hi).1] at c0
    rw [(entsV_at l i hi).2] at c1
    rw [Nat.zero_add]
    exact ⟨c0, c1⟩

/-- A piece of a slice of entries. -/
theorem Ents.cut {w : World} {a : Option Addr} {n cap : Nat} {l : List Ent} (h : Ents w (.slice a n cap) l) (k m : Nat) (hk : k ≤ l.length) (hm : k ≤ m) (hml : m ≤ l.length) (a' : Option Addr) (cap' : Nat) (hc : m - k ≤ cap') (hcm : cap' ≤ maxLen)
    (ha : k < m → ∀ b off, a = some ⟨b, off, none⟩ → a' = some ⟨b, off + k * 2, none⟩) : Ents w (.slice a' (m - k) cap') ((l.take m).drop k) := by
  obtain ⟨x, c, hx, hlc, hcx, h1⟩ := h
  simp only [Value.slice.injEq] at hx
  obtain ⟨rfl, rfl, rfl⟩ := hx
  have hlen : ((l.take m).drop k).length = m - k := by rw [List.length_drop, List.length_take, Nat.min_eq_left hml]
  refine ⟨a', cap', by rw [hlen], by rw [hlen]; exact hc, hcm, fun hl => ?_⟩
  rw [hlen] at hl
  obtain ⟨b, off, rfl, hlt, hcell⟩ := h1 (by omega)
  refine ⟨b, off + k * 2, ha (by omega) b off rfl, hlt, fun i hi => ?_⟩
  rw [hlen] at hi
  have := hcell (k + i) (by omega)
  rw [show off + (k + i) * 2 = off + k * 2 + i * 2 from by omega] at this
  simpa using this

theorem Ents.head {w : World} {a : Option Addr} {n cap : Nat} {l : List Ent} (h : Ents w (.slice a n cap) l) (k cap' : Nat) (hk : k ≤ l.length) (hc : k ≤ cap') (hcm : cap' ≤ maxLen) : Ents w (.slice a k cap') (l.take k) := by
  have := h.cut 0 k (Nat.zero_le _) (Nat.zero_le _) hk a cap' (by omega) hcm (fun _ b off e => by rw [e]; simp)
  simpa using this
theorem Ents.tail {w : World} {a : Option Addr} {n cap : Nat} {l : List Ent} (h : Ents w (.slice a n cap) l) (k : Nat) (a' : Option Addr) (m cap' : Nat) (hk : k ≤ l.length) (hm : m = l.length - k) (hc : l.length - k ≤ cap') (hcm : cap' ≤ maxLen)
    (ha : k < l.length → a' = a.map fun x => x.add (k * 2)) : Ents w (.slice a' m cap') (l.drop k) := by
  subst hm
  have := h.cut k l.length hk hk (Nat.le_refl _) a' cap' hc hcm (fun hkl b off e => by rw [ha hkl, e, Option.map_some, Addr.add_lit])
  simpa using this

/-- The cells of a slice of entries, as a source of a copy or an append. -/
theorem Ents.src {w : World} {a : Option Addr} {n cap : Nat} {l : List Ent} (h : Ents w (.slice a n cap) l) (hl : 0 < l.length) : ∃ ad : Addr, a = some ad ∧ ad.block < w.heap.size ∧ ∀ j v, (entsV l)[j]? = some v → w.cell? (ad.add j) = some v := by
  obtain ⟨x, c, hx, _, _, h1⟩ := h
  simp only [Value.slice.injEq] at hx
  obtain ⟨rfl, rfl, rfl⟩ := hx
  obtain ⟨b, off, rfl, hlt, hcell⟩ := h1 hl
  refine ⟨_, rfl, hlt, fun j v hv => ?_⟩
  have hj : j < l.length * 2 := by
    rcases Nat.lt_or_ge j (entsV l).length with h | h
    · rwa [entsV_len] at h
    · rw [List.getElem?_eq_none h] at hv; cases hv
  have hc := hcell (j / 2) (by omega)
  have he := entsV_at l (j / 2) (by omega)
  rw [Addr.add_lit]
  rcases Nat.mod_two_eq_zero_or_one j with h2 | h2
  · have e : j / 2 * 2 = j := by omega
    rw [e] at hc he
    rw [he.1] at hv; rw [← hv]; exact hc.1
  · have e : j / 2 * 2 + 1 = j := by omega
    rw [show off + j / 2 * 2 + 1 = off + (j / 2 * 2 + 1) from by omega, e] at hc
    rw [e] at he
    rw [he.2] at hv; rw [← hv]; exact hc.2
end Go.Proofs.Ytghncegngmeleaa
