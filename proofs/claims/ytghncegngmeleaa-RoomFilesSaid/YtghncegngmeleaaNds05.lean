/- Slices of inodes: one that came in, one of the call's own. -/
import Derived.Test.YtghncegngmeleaaPure05
import Derived.Test.YtghncegngmeleaaEnts04
namespace Go.Proofs.Ytghncegngmeleaa
open Go.RowKit

abbrev ndC (x : Nd) : Array Value := #[.int .i64 x.ino, .int .i64 x.kind, .int .i64 x.links, .string ⟨x.data.toArray⟩, .int .i64 x.parent, x.ev]
def ndsV : List Nd → List Value
  | [] => []
  | x :: l => .int .i64 x.ino :: .int .i64 x.kind :: .int .i64 x.links :: .string ⟨x.data.toArray⟩ :: .int .i64 x.parent :: x.ev :: ndsV l
theorem ndsV_len (l : List Nd) : (ndsV l).length = l.length * 6 := by
  induction l with
  | nil => rfl
  | cons e l ih => simp [ndsV, ih]; omega
theorem ndsV_append (a b : List Nd) : ndsV (a ++ b) = ndsV a ++ ndsV b := by
  induction a with
  | nil => rfl
  | cons e l ih => simp [ndsV, ih]

/-- Each inode's entries. -/
def EntsAll (w : World) (l : List Nd) : Prop := ∀ x ∈ l, Ents w x.ev x.ents
theorem EntsAll.below {w w' : World} {l : List Nd} (h : EntsAll w l) (hb : Below w.heap.size w w') : EntsAll w' l := fun x hx => (h x hx).below hb
theorem EntsAll.sub {w : World} {l l' : List Nd} (h : EntsAll w l) (hs : ∀ x ∈ l', x ∈ l) : EntsAll w l' := fun x hx => h x (hs x hx)
theorem Ents.one {w : World} {v : Value} {l : List Ent} (h : Ents w v l) : v.oneCell' = true := by obtain ⟨a, cap, rfl, _⟩ := h; rfl
theorem ndsV_one {w : World} {l : List Nd} (h : EntsAll w l) : ∀ u ∈ ndsV l, u.oneCell' = true := by
  induction l with
  | nil => simp [ndsV]
  | cons e l ih =>
    intro u hu
    simp only [ndsV, List.mem_cons] at hu
    rcases hu with rfl | rfl | rfl | rfl | rfl | rfl | hu
    · rfl
    · rfl
    · rfl
    · rfl
    · rfl
    · exact (h e (by simp)).one
    · exact ih (h.sub (by simp +contextual)) u hu

/-- An inode's six cells. -/
def NdAt (w : World) (b o : Nat) (x : Nd) : Prop :=
  w.cell? ⟨b, o, none⟩ = some (.int .i64 x.ino) ∧ w.cell? ⟨b, o + 1, none⟩ = some (.int .i64 x.kind) ∧ w.cell? ⟨b, o + 2, none⟩ = some (.int .i64 x.links) ∧
    w.cell? ⟨b, o + 3, none⟩ = some (.string ⟨x.data.toArray⟩) ∧ w.cell? ⟨b, o + 4, none⟩ = some (.int .i64 x.parent) ∧ w.cell? ⟨b, o + 5, none⟩ = some x.ev
theorem NdAt.below {w w' : World} {b o n : Nat} {x : Nd} (h : NdAt w b o x) (hb : Below n w w') (hn : b < n) : NdAt w' b o x :=
  ⟨(hb.cell (p := ⟨b, o, none⟩) hn).trans h.1, (hb.cell (p := ⟨b, o + 1, none⟩) hn).trans h.2.1, (hb.cell (p := ⟨b, o + 2, none⟩) hn).trans h.2.2.1, (hb.cell (p := ⟨b, o + 3, none⟩) hn).trans h.2.2.2.1,
    (hb.cell (p := ⟨b, o + 4, none⟩) hn).trans h.2.2.2.2.1, (hb.cell (p := ⟨b, o + 5, none⟩) hn).trans h.2.2.2.2.2⟩
theorem ndsV_at (l : List Nd) : ∀ (i : Nat) (h : i < l.length), (ndsV l)[i * 6]? = some (.int .i64 l[i].ino) ∧ (ndsV l)[i * 6 + 1]? = some (.int .i64 l[i].kind) ∧ (ndsV l)[i * 6 + 2]? = some (.int .i64 l[i].links) ∧
    (ndsV l)[i * 6 + 3]? = some (.string ⟨l[i].data.toArray⟩) ∧ (ndsV l)[i * 6 + 4]? = some (.int .i64 l[i].parent) ∧ (ndsV l)[i * 6 + 5]? = some l[i].ev := by
  induction l with
  | nil => intro i h; simp at h
  | cons e l ih =>
    intro i h
    cases i with
    | zero => exact ⟨rfl, rfl, rfl, rfl, rfl, rfl⟩
    | succ i =>
      have := ih i (by simpa using h)
      rw [show (i + 1) * 6 = i * 6 + 6 from by omega, show i * 6 + 6 + 1 = i * 6 + 1 + 6 from by omega, show i * 6 + 6 + 2 = i * 6 + 2 + 6 from by omega, show i * 6 + 6 + 3 = i * 6 + 3 + 6 from by omega,
        show i * 6 + 6 + 4 = i * 6 + 4 + 6 from by omega, show i * 6 + 6 + 5 = i * 6 + 5 + 6 from by omega]
      simpa [ndsV] using this

/-- A slice that reads as these inodes. -/
def Nds (w : World) (v : Value) (l : List Nd) : Prop :=
  ∃ a cap, v = .slice a l.length cap ∧ l.length ≤ cap ∧ cap ≤ maxLen ∧ EntsAll w l ∧ (a = none → cap = 0) ∧ (0 < l.length → ∃ b off, a = some ⟨b, off, none⟩ ∧ b < w.heap.size ∧ ∀ i (h : i < l.length), NdAt w b (off + i * 6) l[i])

theorem Nds.all {w : World} {v : Value} {l : List Nd} (h : Nds w v l) : EntsAll w l := by obtain ⟨_, _, _, _, _, h, _⟩ := h; exact h
theorem Nds.below {w w' : World} {v : Value} {l : List Nd} (h : Nds w v l) (hb : Below w.heap.size w w') : Nds w' v l := by
  obtain ⟨a, cap, rfl, hc, hm, he, h0, h1⟩ := h
  refine ⟨a, cap, rfl, hc, hm, he.below hb, h0, fun hl => ?_⟩
  obtain ⟨b, off, rfl, hlt, hx⟩ := h1 hl
  exact ⟨b, off, rfl, Nat.lt_of_lt_of_le hlt hb.size, fun i hi => (hx i hi).below hb hlt⟩
theorem Nds.nil_ (w : World) : Nds w (.slice none 0 0) [] := ⟨none, 0, rfl, Nat.zero_le _, Nat.zero_le _, (fun _ h => nomatch h), (fun _ => rfl), (fun h => absurd h (by simp))⟩

/-- What is owned reads so. -/
theorem own_nds {w : World} {base : Nat} {e : TypeId} {v : Value} {n : Nat} {l : List Nd} (h : w.ownsRow base e 6 v n (ndsV l)) (he : EntsAll w l) : Nds w v l := by
  have hlen := h.1
  rw [ndsV_len] at hlen
  obtain rfl : n = l.length := by omega
  rcases h.2 with ⟨rfl, h0⟩ | ⟨g, cap, cur, rfl, hg, hh, hnc, hcm, hsz, htk⟩
  · have : l = [] := List.eq_nil_of_length_eq_zero h0
    subst this
    exact Nds.nil_ w
  · refine ⟨_, cap, rfl, hnc, hcm, he, fun h => (by cases h), fun _ => ⟨g, 0, rfl, (h.lt g rfl).2, fun i hi => ?_⟩⟩
    have hat := ndsV_at l i hi
    have c := fun j (hj : j < l.length * 6) => h.cellAt j hj
    rw [Nat.zero_add]
    exact ⟨(c _ (by omega)).trans hat.1, (c _ (by omega)).trans hat.2.1, (c _ (by omega)).trans hat.2.2.1, (c _ (by omega)).trans hat.2.2.2.1, (c _ (by omega)).trans hat.2.2.2.2.1, (c _ (by omega)).trans hat.2.2.2.2.2⟩
theorem blk_nds {w : World} {g : Nat} {t : TypeId} {L : List Nd} (h : Blk w g t (ndsV L).toArray) (hl : L.length ≤ maxLen) (he : EntsAll w L) (n : Nat) (hn : n = L.length) : Nds w (.slice (some ⟨g, 0, none⟩) n n) L := by
  subst hn
  refine ⟨_, _, rfl, Nat.le_refl _, hl, he, fun h => (by cases h), fun _ => ⟨g, 0, rfl, h.lt, fun i hi => ?_⟩⟩
  have hat := ndsV_at L i hi
  unfold NdAt
  rw [h.cell, h.cell, h.cell, h.cell, h.cell, h.cell, Nat.zero_add]
  simpa using hat

/-- A piece of a slice of inodes. -/
theorem Nds.cut {w : World} {a : Option Addr} {n cap : Nat} {l : List Nd} (h : Nds w (.slice a n cap) l) (k m : Nat) (hk : k ≤ l.length) (hm : k ≤ m) (hml : m ≤ l.length) (a' : Option Addr) (cap' : Nat) (hc : m - k ≤ cap') (hcm : cap' ≤ maxLen) (hn : a' = none → cap' = 0)
    (ha : k < m → ∀ b off, a = some ⟨b, off, none⟩ → a' = some ⟨b, off + k * 6, none⟩) : Nds w (.slice a' (m - k) cap') ((l.take m).drop k) := by
  obtain ⟨x, c, hx, hlc, hcx, he, h0, h1⟩ := h
  simp only [Value.slice.injEq] at hx
  obtain ⟨rfl, rfl, rfl⟩ := hx
  have hlen : ((l.take m).drop k).length = m - k := by rw [List.length_drop, List.length_take, Nat.min_eq_left hml]
  refine ⟨a', cap', by rw [hlen], by rw [hlen]; exact hc, hcm, he.sub fun x hx => List.mem_of_mem_take (List.mem_of_mem_drop hx), hn, fun hl => ?_⟩
  rw [hlen] at hl
  obtain ⟨b, off, rfl, hlt, hcell⟩ := h1 (by omega)
  refine ⟨b, off + k * 6, ha (by omega) b off rfl, hlt, fun i hi => ?_⟩
  rw [hlen] at hi
  have := hcell (k + i) (by omega)
  rw [show off + (k + i) * 6 = off + k * 6 + i * 6 from by omega] at this
  simpa using this
theorem Nds.head {w : World} {a : Option Addr} {n cap : Nat} {l : List Nd} (h : Nds w (.slice a n cap) l) (k cap' : Nat) (hk : k ≤ l.length) (hc : k ≤ cap') (hcm : cap' ≤ maxLen) (hn : a = none → cap' = 0) : Nds w (.slice a k cap') (l.take k) := by
  have := h.cut 0 k (Nat.zero_le _) (Nat.zero_le _) hk a cap' (by omega) hcm hn (fun _ b off e => by rw [e]; simp)
  simpa using this
theorem Nds.tail {w : World} {a : Option Addr} {n cap : Nat} {l : List Nd} (h : Nds w (.slice a n cap) l) (k : Nat) (a' : Option Addr) (m cap' : Nat) (hk : k ≤ l.length) (hm : m = l.length - k) (hc : l.length - k ≤ cap') (hcm : cap' ≤ maxLen) (hn : a' = none → cap' = 0)
    (ha : k < l.length → a' = a.map fun x => x.add (k * 6)) : Nds w (.slice a' m cap') (l.drop k) := by
  subst hm
  have := h.cut k l.length hk hk (Nat.le_refl _) a' cap' hc hcm hn (fun hkl b off e => by rw [ha hkl, e, Option.map_some, Addr.add_lit])
  simpa using this

/-- The cells of a slice of inodes, as a source of an append. -/
theorem Nds.src {w : World} {a : Option Addr} {n cap : Nat} {l : List Nd} (h : Nds w (.slice a n cap) l) : ∀ ad, a = some ad → ∀ j v, (ndsV l)[j]? = some v → w.cell? (ad.add j) = some v := by
  intro ad had j v hv
  have hj : j < l.length * 6 := by
    rcases Nat.lt_or_ge j (ndsV l).length with h | h
    · rwa [ndsV_len] at h
    · rw [List.getElem?_eq_none h] at hv; cases hv
  obtain ⟨x, c, hx, _, _, _, _, h1⟩ := h
  simp only [Value.slice.injEq] at hx
  obtain ⟨rfl, rfl, rfl⟩ := hx
  obtain ⟨b, off, e, hlt, hcell⟩ := h1 (by omega)
  obtain rfl : ad = ⟨b, off, none⟩ := by rw [had] at e; exact Option.some.inj e
  obtain ⟨q, r, hr, rfl⟩ : ∃ q r, r < 6 ∧ j = q * 6 + r := ⟨j / 6, j % 6, by omega, by omega⟩
  have hc := hcell q (by omega)
  have he := ndsV_at l q (by omega)
  rw [Addr.add_lit]
  have hm : r = 0 ∨ r = 1 ∨ r = 2 ∨ r = 3 ∨ r = 4 ∨ r = 5 := by omega
  unfold NdAt at hc
  rw [← Nat.add_assoc]
  rcases hm with rfl | rfl | rfl | rfl | rfl | rfl
  · rw [Nat.add_zero] at hv ⊢; rw [← hv, he.1]; exact hc.1
  · rw [← hv, he.2.1]; exact hc.2.1
  · rw [← hv, he.2.2.1]; exact hc.2.2.1
  · rw [← hv, he.2.2.2.1]; exact hc.2.2.2.1
  · rw [← hv, he.2.2.2.2.1]; exact hc.2.2.2.2.1
  · rw [← hv, he.2.2.2.2.2]; exact hc.2.2.2.2.2
end Go.Proofs.Ytghncegngmeleaa
