/- Walks: All. What a file system of the call's own has in common with the one that was handed in. -/
import Derived.Test.YtneklkjlcpgdgaaQWalkK08
namespace Go.Proofs.Ytneklkjlcpgdgaa
open Go.RowKit Go.Shelf

/-! ### Alike but for the entries' memory -/
section
variable {l L : List Nd}
theorem bare_has : ∀ {l L : List Nd}, L.map bare = l.map bare → ∀ n, hasN L n = hasN l n := by
  intro l L h n
  have e : ∀ l : List Nd, hasN l n = (l.map bare).any (fun e => e.ino == n) := fun l => by unfold hasN; rw [List.any_map]; rfl
  rw [e, e, h]
theorem bare_get (h : L.map bare = l.map bare) (n : Int) : bare (getN L n) = bare (getN l n) := by
  have e : ∀ l : List Nd, bare (getN l n) = getN (l.map bare) n := fun l => by
    unfold getN
    rw [List.find?_map]
    show bare _ = _
    cases hf : l.find? (fun e => e.ino == n) with
    | none => rw [show l.find? ((fun e => e.ino == n) ∘ bare) = none from hf]; rfl
    | some x => rw [show l.find? ((fun e => e.ino == n) ∘ bare) = some x from hf]; rfl
  rw [e, e, h]
theorem bare_ents (h : L.map bare = l.map bare) (n : Int) : (getN L n).ents = (getN l n).ents := (congrArg Nd.ents (bare_get h n) :)
theorem bare_kind (h : L.map bare = l.map bare) (n : Int) : (getN L n).kind = (getN l n).kind := (congrArg Nd.kind (bare_get h n) :)
theorem bare_mem (h : L.map bare = l.map bare) {x : Nd} (hx : x ∈ L) : ∃ y ∈ l, y.ino = x.ino ∧ y.kind = x.kind ∧ y.parent = x.parent ∧ y.ents = x.ents ∧ y.data = x.data ∧ y.links = x.links := by
  have : bare x ∈ l.map bare := by rw [← h]; exact List.mem_map.2 ⟨x, hx, rfl⟩
  obtain ⟨y, hy, e⟩ := List.mem_map.1 this
  exact ⟨y, hy, (congrArg Nd.ino e :), (congrArg Nd.kind e :), (congrArg Nd.parent e :), (congrArg Nd.ents e :), (congrArg Nd.data e :), (congrArg Nd.links e :)⟩
theorem bare_len (h : L.map bare = l.map bare) : L.length = l.length := by simpa using congrArg List.length h
theorem bare_pairs (h : L.map bare = l.map bare) : pairsN L = pairsN l := by
  have e : ∀ l : List Nd, pairsN l = pairsN (l.map bare) := fun l => by
    unfold pairsN
    rw [List.flatMap_map]
    rfl
  rw [e, e l, h]
theorem bare_bfs (h : L.map bare = l.map bare) (k : Nat) : bfsN L k = bfsN l k := by
  induction k with
  | zero => rfl
  | succ k ih =>
    show (match (bfsN L k)[k]? with | some i => _ | none => _) = (match (bfsN l k)[k]? with | some i => _ | none => _)
    rw [ih]
    split
    · rw [bare_ents h]
    · rfl
theorem bare_rise (h : L.map bare = l.map bare) (hr : riseP l) : riseP L := by
  have e : ∀ l : List Nd, riseP l ↔ ((l.map bare).map Nd.ino).Pairwise (· < ·) := fun l => by
    rw [List.map_map, List.pairwise_map]
    rfl
  rw [e, h]
  exact (e l).1 hr
theorem bare_tree (h : L.map bare = l.map bare) (t : Tree l) : Tree L where
  rise := bare_rise h t.rise
  root := (bare_has h 1).trans t.root
  rootDir := (bare_kind h 1).trans t.rootDir
  files := fun x hx hk => by
    obtain ⟨y, hy, e1, e2, e3, e4, _⟩ := bare_mem h hx
    rw [← e4]
    exact t.files y hy (by rw [e2]; exact hk)
  rights := fun x hx hk => by
    obtain ⟨y, hy, e1, e2, e3, e4, _⟩ := bare_mem h hx
    rw [← e4]
    exact t.rights y hy (by rw [e2]; exact hk)
  there := fun x hx e he => by
    obtain ⟨y, hy, e1, e2, e3, e4, _⟩ := bare_mem h hx
    rw [bare_has h]
    exact t.there y hy e (by rw [e4]; exact he)
  noRoot := by unfold namesN; rw [bare_pairs h]; exact t.noRoot
  once := fun x hx hk hi => by
    obtain ⟨y, hy, e1, e2, e3, e4, _⟩ := bare_mem h hx
    unfold namesN
    rw [bare_pairs h, ← e1]
    exact t.once y hy (by rw [e2]; exact hk) (by rw [e1]; exact hi)
  parent := fun x hx hk hi => by
    obtain ⟨y, hy, e1, e2, e3, e4, _⟩ := bare_mem h hx
    unfold inN
    rw [bare_pairs h, ← e1, ← e3]
    exact t.parent y hy (by rw [e2]; exact hk) (by rw [e1]; exact hi)
  seen := by rw [bare_bfs h, bare_len h]; exact t.seen
theorem bare_below (h : L.map bare = l.map bare) (d : Nat) : ∀ i p, belowN L d i p = belowN l d i p := by
  induction d with
  | zero => intro i p; rfl
  | succ d ih =>
    intro i p
    unfold belowN
    rw [bare_has h, bare_ents h]
    have : (fun e : Ent => belowN L d e.2 (underB p e.1)) = (fun e : Ent => belowN l d e.2 (underB p e.1)) := funext fun e => ih _ _
    rw [this]
theorem bare_list (h : L.map bare = l.map bare) : listN L = listN l := by unfold listN; rw [bare_len h]; exact bare_below h _ _ _
end

set_option maxRecDepth 100000 in
set_option maxHeartbeats 4000000 in
theorem AllW_any (mi mb nx : Int) (l : List Nd) (v : Value) (w : World) (hv : Nds w v l) (hl : l.length ≤ 100) (hle : ∀ x ∈ l, x.ents.length ≤ 1000000) (hsh : ∀ x ∈ l, shortP 300 x.ents) (hda : ∀ x ∈ l, x.data.length ≤ 100000000)
    (n₀ : Nat) (hn₀ : n₀ ≤ w.heap.size) (hv0 : ∀ x ∈ l, 0 < x.ents.length → ∀ b, x.ev.ownBlock = some b → b < n₀) :
    Calls Try.prog 20 #[.agg (fsC mi mb nx v)] w fun e w' => ∃ L y, e = .returned (.func (.func 36) #[] #[.pointer (some ⟨w.heap.size, 0, none⟩)]) ∧ Blk w' w.heap.size 24 (fsC mi mb nx y) ∧ L.map bare = l.map bare ∧
      (∀ X, Bel n₀ (fun k => w.heap.size ≤ k ∧ k < w'.heap.size) w' X → Nds X y L) ∧ Below w.heap.size w w' := by
  obtain ⟨af, cf, rfl⟩ := nds_slice hv
  have bF := Blk.new w 24 (fsC mi mb nx (.slice af l.length cf))
  have hB0 := alloc_below w (.cells (fsC mi mb nx (.slice af l.length cf)) 24)
  obtain ⟨⟨p0, p1, p2, p3⟩, _⟩ := bF.four
  go_enter Try.func20, Try.ntmps20
  go_wp2_with fail
  refine (ownTable_any mi mb nx l _ _ (hv.below hB0) (by omega) hle hsh hda n₀ (Nat.le_trans hn₀ hB0.size) hv0).mono ?_
  rintro e w1 ⟨y, L, rfl, hown, hE, hmap, hlo, b1⟩
  clear p0 p1 p2 p3
  obtain ⟨ay, cy, rfl⟩ := own_slice hown
  have bF1 := bF.next b1
  have hB1 := hB0.trans (b1.mono hB0.size)
  have hs1 : w.heap.size + 1 ≤ (w.alloc (.cells (fsC mi mb nx (.slice af l.length cf)) 24)).heap.size := by simp
  obtain ⟨⟨p0, p1, p2, p3⟩, e0, e1, e2, e3⟩ := bF1.four
  obtain ⟨W', hW', hb4, hg4⟩ := bF1.put4 (.int .i64 mi) (.int .i64 mb) (.int .i64 nx) (.slice ay l.length cy)
  have hbl := below_grown hB1 hg4 (Nat.le_refl _) (by omega)
  have hown4 := hown.kept hg4 (own_not hown (by omega))
  have H := Lib.hid (show _ ∧ _ ∧ _ ∧ _ from ⟨hE, hmap, hlo, hg4⟩)
  clear hB1 hE hmap hlo hg4 bF bF1 hB0 hv
  go_wp2
  go_ret
  obtain ⟨hE, hmap, hlo, hg4⟩ := H.out
  refine ⟨L, _, rfl, hb4, hmap, fun X hX => ?_, hbl⟩
  have hrow := row_same hown4 (B := X) (fun g hg => hX.block g (hown4.lt g hg).2 (.inr ⟨by have := (hown4.lt g hg).1; omega, (hown4.lt g hg).2⟩))
  refine own_nds hrow (fun x hx => ?_)
  have hE4 : Ents W' x.ev x.ents := ents_same (hE x hx) (fun h0 b hb => hg4.block b (ents_lt (hE x hx) h0 hb) (fun e => by cases e; have := hlo x hx h0 _ hb; omega)) hg4.size
  refine ents_same hE4 (fun h0 b hb => hX.block b (ents_lt hE4 h0 hb) ?_) hX.size
  have hlt := ents_lt hE4 h0 hb
  exact (hlo x hx h0 b hb).imp id (fun h => ⟨by omega, hlt⟩)
end Go.Proofs.Ytneklkjlcpgdgaa
