/- Texts put together: WalkD05, WalkA04, HeldAid, Here, Tree08, Tree08b, Pure03, Order08, Order08b, Pure09, WalkC08, Step08, RangeAid, Seq08. -/
import Derived.Test.YtpeghnhaekebdaaQMWalkC05
import Derived.Test.YtpeghnhaekebdaaChecked
import Derived.BigQuiet
import Derived.Deep.LoopGhost
import Derived.Deep.RegionHeld3
import Derived.Laws.AppendOwn
import Derived.RangeFuncNested
import Derived.RangeFuncBox
import Derived.RangeFuncBound
import Derived.RangeFuncCalls
import Derived.RangeFuncLeaves
import Derived.Shelf.Abstract
import Derived.Shelf.RegionOpen
import Derived.WalkKit
import Derived.OwnWalkIn
import Derived.TacticsInMore
import Derived.LoopNIn
import Derived.LoopIn
import Derived.Maps.AppendAt
import Derived.Scope
set_option linter.unusedVariables false
set_option linter.unusedSimpArgs false
/- Walks: New, Get. -/
set_option linter.unusedVariables false
set_option linter.unusedSimpArgs false
namespace Go.Proofs.Ytpeghnhaekebdaa
open Go.RowKit

/-- A struct of six cells stored whole. -/
theorem new_nds {w w' : World} {L : List Nd} {v : Value} (h : NewNds w L v w') (he : EntsAll w' L) : Nds w' v L := own_nds h.1 he
theorem nds_slice {w : World} {v : Value} {l : List Nd} (h : Nds w v l) : ∃ a c, v = .slice a l.length c := by obtain ⟨a, c, h, _⟩ := h; exact ⟨a, c, h⟩
theorem alloc_below (w : World) (o : Obj) : Below w.heap.size w (w.alloc o) := (Below.refl _ w).alloc (Nat.le_refl _) _
theorem Blk.put6 {W : World} {B : Nat} {t : TypeId} {x : Nd} (h : Blk W B t (ndC x)) (y : Nd) :
    ∃ W', (((((W.setCell ⟨B, 0, none⟩ (.int .i64 y.ino)).setCell ⟨B, 1, none⟩ (.int .i64 y.kind)).setCell ⟨B, 2, none⟩ (.int .i64 y.links)).setCell ⟨B, 3, none⟩ (.string ⟨y.data.toArray⟩)).setCell ⟨B, 4, none⟩ (.int .i64 y.parent)).setCell ⟨B, 5, none⟩ y.ev = W' ∧
      Blk W' B t (ndC y) ∧ W.grownBy W' (some B) := by
  refine ⟨_, rfl, ?_, ?_⟩
  · exact (((((h.set 0 _).set 1 _).set 2 _).set 3 _).set 4 _).set 5 _
  · exact (((((grownBy_set W B 0 _).trans (grownBy_set _ B 1 _)).trans (grownBy_set _ B 2 _)).trans (grownBy_set _ B 3 _)).trans (grownBy_set _ B 4 _)).trans (grownBy_set _ B 5 _)

def rootN : Nd := ⟨1, 2, 0, [], 1, .slice none 0 0, []⟩
theorem root_all (w : World) : EntsAll w [rootN] := fun x hx => by rw [List.mem_singleton.1 hx]; exact Ents.nil_ w
theorem root_nds (w : World) (t : TypeId) (g : Nat) (hg : g = w.heap.size) : Nds (w.alloc (.cells #[.int .i64 1, .int .i64 2, .int .i64 0, .string ⟨#[]⟩, .int .i64 1, .slice none 0 0] t)) (.slice (some ⟨g, 0, none⟩) 1 1) [rootN] := by
  subst hg
  exact blk_nds (L := [rootN]) (Blk.new w t _) (by simp [maxLen]) (root_all _) 1 rfl

set_option maxHeartbeats 2000000 in
theorem GetN_any (mi mb nx n : Int) (l : List Nd) (v : Value) (w : World) (hv : Nds w v l) (hs : riseP l) (hl : l.length ≤ 1000000) (hd : ∀ x ∈ l, x.data.length ≤ 281474976710656) :
    Calls Try.prog 19 #[.agg (fsC mi mb nx v), .int .i64 n] w fun e w' => e = .returned (.tuple #[.agg (ndC (getN l n)), .bool (hasN l n)]) ∧ Below w.heap.size w w' := by
  obtain ⟨a, ca, rfl, hc, hm, hea, hna, HA0⟩ := id hv
  unfold maxLen at hm
  clear HA0
  have b0 := Blk.new w 24 (fsC mi mb nx (.slice a l.length ca))
  have b1 := Blk.new (w.alloc (.cells (fsC mi mb nx (.slice a l.length ca)) 24)) 33 (ndC zeroN)
  have b0' := b0.alloc (.cells (ndC zeroN) 33)
  have hB0 : Below w.heap.size w ((w.alloc (.cells (fsC mi mb nx (.slice a l.length ca)) 24)).alloc (.cells (ndC zeroN) 33)) := ((Below.refl _ w).alloc (Nat.le_refl _) _).alloc (by simp) _
  have hv2 := hv.below hB0
  clear b0
  go_enter Try.func19, Try.ntmps19
  go_wp2_with fail
  refine (searchN_any l n _ _ hv2 hs hl).mono ?_
  rintro e w1 ⟨lo, rfl, hS, hb⟩
  simp only [World.size_alloc] at b1
  have hv3 := hv2.below hb
  replace b0' := b0'.next hb
  replace b1 := b1.next hb
  have hB1 := hB0.trans (hb.mono hB0.size)
  have hlt1 : w.heap.size + 2 ≤ w1.heap.size := by have := hb.size; simp at this; omega
  clear hB0 hv2 hb hv
  obtain ⟨⟨p0, p1, p2, p3⟩, _⟩ := b0'.four
  cases hh : hasN l n
  · have HG := Lib.hid (getN_none hh)
    obtain ⟨⟨q0, q1, q2, q3, q4, q5⟩, e0, e1, e2, e3, e4, e5⟩ := b1.six
    obtain ⟨W', hW', hb4, hg4⟩ := b1.put6 zeroN
    have hbl := below_grown hB1 hg4 (Nat.le_refl _) (by omega)
    simp only [zeroN] at q0 q1 q2 q3 q4 q5 hW'
    go_wp2
    obtain ⟨⟨r0, r1, r2, r3, r4, r5⟩, _⟩ := hb4.six
    refine bodyPost_ret (v := .tuple #[.agg (ndC zeroN), .bool false]) (by simp [results, Try.f19, go_sem, r0, r1, r2, r3, r4, r5, zeroN]) rfl ?_
    exact ⟨by rw [HG.out, hh], hbl⟩
  · obtain ⟨hk, hg⟩ := getN_srch hS hh
    have HG := Lib.hid hg
    clear hg hS
    obtain ⟨_, _, hu, _, _, hea3, _, HA0⟩ := id hv3
    simp only [Value.slice.injEq] at hu
    obtain ⟨rfl, _, rfl⟩ := hu
    obtain ⟨b, o, rfl, hbl, hcl⟩ := HA0 (by omega)
    obtain ⟨c0, c1, c2, c3, c4, c5⟩ := hcl _ hk
    obtain ⟨ae, ne, hye, _⟩ := hea3 _ (List.getElem_mem hk)
    have hyd := hd _ (List.getElem_mem hk)
    clear hcl HA0 hea3
    generalize hy : l[lo] = y at *
    obtain ⟨yi, yk, yl, yd, yp, ye, yn⟩ := y
    dsimp only at hye c0 c1 c2 c3 c4 c5 hyd
    subst hye
    have x8 := Blk.new w1 33 (ndC ⟨yi, yk, yl, yd, yp, .slice ae yn.length ne, yn⟩)
    have b1a := b1.alloc (.cells (ndC ⟨yi, yk, yl, yd, yp, .slice ae yn.length ne, yn⟩) 33)
    have hB2 := hB1.alloc hB1.size (.cells (ndC ⟨yi, yk, yl, yd, yp, .slice ae yn.length ne, yn⟩) 33)
    go_wp2_with fail
    refine (CloneN_any yd _ hyd).mono ?_
    rintro e w2 ⟨rfl, b2⟩
    have x9 := x8.next b2
    have b1b := b1a.next b2
    have hB3 := hB2.trans (b2.mono hB2.size)
    have k3 := x9.cell 3
    have f3 := x9.frozen 3
    replace k3 := k3.trans (rfl : _ = some (Value.string ⟨yd.toArray⟩))
    have x10 := x9.set 3 (.string ⟨yd.toArray⟩)
    rw [show (ndC ⟨yi, yk, yl, yd, yp, .slice ae yn.length ne, yn⟩).setIfInBounds 3 (.string ⟨yd.toArray⟩) = ndC ⟨yi, yk, yl, yd, yp, .slice ae yn.length ne, yn⟩ from rfl] at x10
    have b1c := b1b.other (B2 := w1.heap.size) (i := 3) (by omega) (.string ⟨yd.toArray⟩)
    have hB4 := hB3.setCell (p := ⟨w1.heap.size, 3, none⟩) hB1.size (.string ⟨yd.toArray⟩)
    generalize hw3 : w2.setCell ⟨w1.heap.size, 3, none⟩ (.string ⟨yd.toArray⟩) = w3 at *
    obtain ⟨⟨q0, q1, q2, q3, q4, q5⟩, e0, e1, e2, e3, e4, e5⟩ := b1c.six
    obtain ⟨⟨s0, s1, s2, s3, s4, s5⟩, _⟩ := x10.six
    obtain ⟨W', hW', hb4, hg4⟩ := b1c.put6 ⟨yi, yk, yl, yd, yp, .slice ae yn.length ne, yn⟩
    have hbl := below_grown hB4 hg4 (Nat.le_refl _) (by omega)
    simp only [zeroN] at q0 q1 q2 q3 q4 q5
    dsimp only at hW' s0 s1 s2 s3 s4 s5
    clear x8 b1a x9 b1b b1c x10 c0 c1 c2 c3 c4 c5 p3
    go_wp2
    obtain ⟨⟨r0, r1, r2, r3, r4, r5⟩, _⟩ := hb4.six
    refine bodyPost_ret (v := .tuple #[.agg (ndC ⟨yi, yk, yl, yd, yp, .slice ae yn.length ne, yn⟩), .bool true]) (by simp [results, Try.f19, go_sem, r0, r1, r2, r3, r4, r5]) rfl ?_
    exact ⟨by rw [HG.out, hh], hbl⟩
end Go.Proofs.Ytpeghnhaekebdaa

/- Walks: the statements' few, the document's Find. -/
set_option linter.unusedVariables false
set_option linter.unusedSimpArgs false
namespace Go.Proofs.Ytpeghnhaekebdaa
open Go.RowKit

end Go.Proofs.Ytpeghnhaekebdaa

/- A drawn region's operations, taken one by one: its destination given outright; one that no guard wants is passed over. -/
set_option linter.unusedVariables false
set_option linter.unusedSimpArgs false
namespace Go.Proofs.Ytpeghnhaekebdaa

section
variable {P : Program} {ops : Array Oper} {Q : Exit → Act → World → Prop} {md : Region.Mode} {S : World → Prop}
theorem heldTake (i : Nat) (d : Option Tmp) {oi : Oper} {v : Value} {fuel : Nat} {listed : Array Bool} {a : Act} {w : World} (hi : ops[i]? = some oi) (hd : oi.dst = d)
    (hs : Region.noSelect ops = true) (hf : Region.free md ops listed i = true) (hr : (Region.ready md ops listed).contains i = true)
    (hQ : ∀ c a w, Q (.panic c) (a.put d v) w → Q (.panic c) a w) (hw : Region.wanted oi (yielded ops a.tmps) = true) (hv : ∀ w, S w → (execOp a.eval oi).run P w = .ok (.value v) w) (hS : S w)
    (h : wpAnyH P md ops Q S fuel (listed.setIfInBounds i true) (a.put d v) w) : wpAnyH P md ops Q S (fuel + 1) listed a w := by
  subst hd
  exact wpAnyH_take hi hs hf hr hQ (.inl ⟨hw, hv⟩) hS h
theorem heldSkip (i : Nat) (d : Option Tmp) {oi : Oper} {fuel : Nat} {listed : Array Bool} {a : Act} {w : World} (hi : ops[i]? = some oi) (hd : oi.dst = d)
    (hs : Region.noSelect ops = true) (hf : Region.free md ops listed i = true) (hr : (Region.ready md ops listed).contains i = true)
    (hQ : ∀ c a w, Q (.panic c) (a.put d undef) w → Q (.panic c) a w) (hw : Region.wanted oi (yielded ops a.tmps) = false) (hS : S w)
    (h : wpAnyH P md ops Q S fuel (listed.setIfInBounds i true) (a.put d undef) w) : wpAnyH P md ops Q S (fuel + 1) listed a w := by
  subst hd
  exact wpAnyH_take hi hs hf hr hQ (.inr ⟨hw, rfl⟩) hS h
end
end Go.Proofs.Ytpeghnhaekebdaa

/- append onto an own row: the answer's block is the row's own, or new. A shorter part of an own row is an own row. -/
set_option linter.unusedVariables false
set_option linter.unusedSimpArgs false
namespace Go.Proofs.Ytpeghnhaekebdaa
open Go.RowKit

theorem own_take {w : World} {base : Nat} {e : TypeId} {size g cap n : Nat} {xs : List Value} (h : w.ownsRow base e size (.slice (some ⟨g, 0, none⟩) n cap) n xs) (k : Nat) (hk : k ≤ n) :
    w.ownsRow base e size (.slice (some ⟨g, 0, none⟩) k cap) k (xs.take (k * size)) := by
  obtain ⟨h1, h2⟩ := h
  have hkn : k * size ≤ n * size := Nat.mul_le_mul_right _ hk
  rcases h2 with ⟨h0, _⟩ | ⟨g', cap', cur, hv, hg, hh, hn, hcap, hsz, htake⟩
  · cases h0
  · cases hv
    refine ⟨by rw [List.length_take, h1]; omega, .inr ⟨g, cap, cur, rfl, hg, hh, by omega, hcap, hsz, ?_⟩⟩
    rw [← htake, List.take_take, Nat.min_eq_left hkn]

section
variable {P : Program} {w : World}
theorem run_append_here (base : Nat) (t ty e : TypeId) (i : TypeInfo) (z : Value) (size bytes : Nat) (ht : P.underlying t = some (.slice e)) (hi : P.info? e = some i) (hz : i.zero = some z)
    (hsize : i.size = size) (hby : i.bytes = bytes) (hzs : z.cells.size = size) (hsz : 0 < size)
    (v : Value) (n : Nat) (xs : List Value) (hown : w.ownsRow base e size v n xs)
    (a : Addr) (m c : Nat) (news : List Value) (hl : news.length = m * size) (hnews : ∀ j u, news[j]? = some u → w.cell? (a.add j) = some u) (h1 : ∀ u ∈ news, u.oneCell' = true)
    (h63 : n + m ≤ maxLen) (hbytes : (n + m) * bytes ≤ 140737488355328) (hbase : base ≤ w.heap.size) :
    ∃ v' w', (Builtin.append_ #[t, t] ty #[v, .slice (some a) m c]).run P w = .ok v' w' ∧ w'.ownsRow base e size v' (n + m) (xs ++ news) ∧ w.grownBy w' v.ownBlock ∧ ∀ g, v'.ownBlock = some g → v.ownBlock = some g ∨ w.heap.size ≤ g := by
  obtain ⟨v', w', hr, h2, h3, _⟩ := run_append_own (P := P) w base t ty e i z size bytes ht hi hz hsize hby hzs hsz v n xs hown a m c news hl hnews h1 h63 hbytes hbase
  refine ⟨v', w', hr, h2, h3, ?_⟩
  rcases hown.2 with ⟨rfl, rfl⟩ | ⟨g, cap, cur, rfl, hbg, hg, hnc, hcm, hcs, htake⟩
  · have hx : xs = [] := List.eq_nil_of_length_eq_zero (by simpa using hown.1)
    subst hx
    obtain ⟨v2, w2, hr2, k2, _⟩ := run_append_own (P := P) w w.heap.size t ty e i z size bytes ht hi hz hsize hby hzs hsz _ 0 [] (World.ownsRow_nil _ _ _ _) a m c news hl hnews h1 h63 hbytes (Nat.le_refl _)
    rw [hr] at hr2
    cases hr2
    exact fun g hg => .inr (k2.lt g hg).1
  · subst hsize hby
    by_cases hroom : n + m ≤ cap
    · have hfit : n * i.size + news.length ≤ cur.size := by rw [hl, hcs, ← Nat.add_mul]; exact Nat.mul_le_mul_right _ hroom
      have hr2 := run_append_room (P := P) w t ty e i ht hi g n cap cur hg a m c news hl hnews h1 hroom hfit
      rw [hr] at hr2
      cases hr2
      exact fun g' hg' => .inl hg'
    · have hsmall : n + m ≤ 9223372036854775807 := by simp only [maxLen] at h63; omega
      have hr2 := run_append_grow (P := P) w t ty e i z ht hi hz ⟨g, 0, none⟩ n cap xs hown.1 (hown.cells (g := g) rfl) a m c news hl hnews (by omega) (by omega) (growslice_fits (by omega) hbytes)
      rw [hr] at hr2
      cases hr2
      exact fun g' hg' => by simp [Value.ownBlock] at hg'; right; omega

theorem wp_append_here {o : Oper} {a : Act} {K : Act → World → Prop} {Q : Exit → Act → World → Prop} (s x : Operand) (t : TypeId)
    (ho : o.op = .call { callee := .builtin .append, args := #[s, x], argTypes := #[t, t] })
    (base : Nat) (e : TypeId) (i : TypeInfo) (z : Value) (size bytes : Nat) (ht : P.underlying t = some (.slice e)) (hi : P.info? e = some i) (hz : i.zero = some z)
    (hsize : i.size = size) (hby : i.bytes = bytes) (hzs : z.cells.size = size) (hsz : 0 < size)
    (v : Value) (n : Nat) (xs : List Value) (hs : a.eval s = v) (hown : w.ownsRow base e size v n xs)
    (ad : Addr) (m c : Nat) (news : List Value) (hx : a.eval x = .slice (some ad) m c) (hl : news.length = m * size) (hnews : ∀ j u, news[j]? = some u → w.cell? (ad.add j) = some u) (h1 : ∀ u ∈ news, u.oneCell' = true)
    (h63 : n + m ≤ maxLen) (hbytes : (n + m) * bytes ≤ 140737488355328) (hbase : base ≤ w.heap.size)
    (h : ∀ v' w', w'.ownsRow base e size v' (n + m) (xs ++ news) → w.grownBy w' v.ownBlock → (∀ g, v'.ownBlock = some g → v.ownBlock = some g ∨ w.heap.size ≤ g) → K (a.put o.dst v') w') : o.wp P a w K Q := by
  obtain ⟨v', w', hr, h2, h3, h4⟩ := run_append_here (P := P) (w := w) base t o.type e i z size bytes ht hi hz hsize hby hzs hsz v n xs hown ad m c news hl hnews h1 h63 hbytes hbase
  unfold Oper.wp execOp
  simp only [ho, resolve, invoke, builtin, Sem.run_bind, Sem.run_pure, Result.andThen_ok, List.map_toArray, List.map_cons, List.map_nil, hs, hx, hr]
  exact h v' w' h2 h3 h4

/-- As one step of a region that draws its order. -/
theorem step_append_here {ops : Array Oper} {o : Oper} {a : Act} {K : Act → World → Prop} {Q : Exit → Act → World → Prop} {E : Prop} (hgd : o.guard = none) (s x : Operand) (t e : TypeId)
    (ho : o.op = .call { callee := .builtin .append, args := #[s, x], argTypes := #[t, t] })
    {i : TypeInfo} {z : Value} {size bytes : Nat} (ht : P.underlying t = some (.slice e)) (hi : P.info? e = some i) (hz : i.zero = some z)
    (hsize : i.size = size) (hby : i.bytes = bytes) (hzs : z.cells.size = size) (hsz : 0 < size) (hbs : bytes ≤ 128)
    (base : Nat) {v : Value} {n : Nat} {xs : List Value} (ad : Addr) (m : Nat) (news : List Value) (hs : a.eval s = v) (hx : a.eval x = .slice (some ad) m m) (hown : w.ownsRow base e size v n xs)
    (hm : news.length = m * size) (hnews : ∀ j u, news[j]? = some u → w.cell? (ad.add j) = some u) (h1 : ∀ u ∈ news, u.oneCell' = true) (hb : n + m ≤ 1099511627776) (hbase : base ≤ w.heap.size)
    (hK : ∀ v' w', w'.ownsRow base e size v' (n + m) (xs ++ news) → w.grownBy w' v.ownBlock → (∀ g, v'.ownBlock = some g → v.ownBlock = some g ∨ w.heap.size ≤ g) → K (a.put o.dst v') w') :
    if Region.wanted o (yielded ops a.tmps) = true then Oper.wp P o a w K Q else E := by
  rw [if_pos (by simp [Region.wanted, hgd])]
  refine wp_append_here s x t ho base e i z size bytes ht hi hz hsize hby hzs hsz v n xs hs hown ad m m news hx hm hnews h1 (by unfold maxLen; omega) ?_ hbase hK
  calc (n + m) * bytes ≤ 1099511627776 * 128 := Nat.mul_le_mul hb hbs
    _ ≤ 140737488355328 := by decide

/-- As one operation of a list, behind a block just made for what is appended. -/
theorem wpList_append_here {ops : Array Oper} {rest : List Oper} {o : Oper} {a : Act} {Q : Exit → Act → World → Prop} (hgd : o.guard = none) (s x : Operand) (t e : TypeId)
    (ho : o.op = .call { callee := .builtin .append, args := #[s, x], argTypes := #[t, t] })
    {i : TypeInfo} {z : Value} {size bytes : Nat} (ht : P.underlying t = some (.slice e)) (hi : P.info? e = some i) (hz : i.zero = some z)
    (hsize : i.size = size) (hby : i.bytes = bytes) (hzs : z.cells.size = size) (hsz : 0 < size) (hbs : bytes ≤ 128)
    (base : Nat) {v : Value} {n : Nat} {xs : List Value} (C : Array Value) (m : Nat) (hs : a.eval s = v) (hx : a.eval x = .slice (some ⟨w.heap.size, 0, none⟩) m m) (hown : w.ownsRow base e size v n xs)
    (hm : C.size = m * size) (h1 : ∀ u ∈ C.toList, u.oneCell' = true) (hb : n + m ≤ 1099511627776) (hbase : base ≤ w.heap.size)
    (hK : ∀ v' w', w'.ownsRow base e size v' (n + m) (xs ++ C.toList) → (w.alloc (.cells C e)).grownBy w' v.ownBlock → (∀ g, v'.ownBlock = some g → v.ownBlock = some g ∨ w.heap.size < g) → wpList P ops Q rest (a.put o.dst v') w') :
    wpList P ops Q (o :: rest) a (w.alloc (.cells C e)) := by
  refine wpList_plain hgd fun _ hKK => wp_append_here s x t ho base e i z size bytes ht hi hz hsize hby hzs hsz v n xs hs (hown.alloc _) ⟨w.heap.size, 0, none⟩ m m C.toList hx (by simpa using hm) (cells_block w C e) h1 (by unfold maxLen; omega) ?_ (by simp; omega) ?_
  · calc (n + m) * bytes ≤ 1099511627776 * 128 := Nat.mul_le_mul hb hbs
      _ ≤ 140737488355328 := by decide
  · intro v' w' h2 h3 h4
    exact hKK _ _ (hK v' w' h2 h3 (fun g hg => (h4 g hg).imp id (fun h => by simp at h; omega)))
end
end Go.Proofs.Ytpeghnhaekebdaa

/- A sound file system is a tree: the levels below Root, each directory on one of them, once. No program's function. -/
set_option linter.unusedVariables false
set_option linter.unusedSimpArgs false
namespace Go.Proofs.Ytpeghnhaekebdaa

/-! ### What soundness gives -/
theorem check_parts {mi mb nx : Int} {l : List Nd} (h : checkN mi mb nx l = 0) : firstB mi mb nx l = true ∧ secondB l = true ∧ thirdB l = true ∧ fourthB l = true ∧ fifthB l = true ∧ fitsB mi mb l 0 0 = true := by
  have h2 := h
  clear h
  unfold checkN at h2
  split at h2
  · omega
  split at h2
  · omega
  split at h2
  · omega
  split at h2
  · omega
  split at h2
  · omega
  split at h2
  · omega
  simp_all
theorem ok_check {mi mb nx : Int} {l : List Nd} (h : okB mi mb nx l = true) : checkN mi mb nx l = 0 := by
  unfold okB at h
  rw [Bool.and_eq_true, decide_eq_true_eq] at h
  exact h.2
theorem ok_parts {mi mb nx : Int} {l : List Nd} (h : okB mi mb nx l = true) : fewN l = true ∧ firstB mi mb nx l = true ∧ secondB l = true ∧ thirdB l = true ∧ fourthB l = true ∧ fifthB l = true ∧ fitsB mi mb l 0 0 = true := by
  refine ⟨?_, check_parts (ok_check h)⟩
  unfold okB at h
  rw [Bool.and_eq_true] at h
  exact h.1

def isDir (l : List Nd) (i : Int) : Bool := hasN l i && decide ((getN l i).kind = 2)
def kidsN (l : List Nd) (i : Int) : List Int := (getN l i).ents.map (·.2)
structure Tree (l : List Nd) : Prop where
  rise : riseP l
  root : hasN l 1 = true
  rootDir : (getN l 1).kind = 2
  files : ∀ x ∈ l, x.kind ≠ 2 → x.ents = []
  rights : ∀ x ∈ l, x.kind = 2 → rightB x.ents = true
  there : ∀ x ∈ l, ∀ e ∈ x.ents, hasN l e.2 = true
  noRoot : namesN l 1 = 0
  once : ∀ x ∈ l, x.kind = 2 → x.ino ≠ 1 → namesN l x.ino = 1
  parent : ∀ x ∈ l, x.kind = 2 → x.ino ≠ 1 → x.parent = inN l x.ino
  seen : (bfsN l (l.length + 1)).length = l.length
theorem getN_of {l : List Nd} (hr : riseP l) {x : Nd} (hx : x ∈ l) : getN l x.ino = x ∧ hasN l x.ino = true := by
  obtain ⟨i, hi, e⟩ := List.getElem_of_mem hx
  have := getN_at (n := x.ino) hi (by
    rw [List.any_eq_false]
    intro y hy
    obtain ⟨j, hj, rfl⟩ := List.getElem_of_mem hy
    have hji : j < i := by simp at hj; omega
    have := List.pairwise_iff_getElem.1 hr j i (by omega) hi hji
    rw [List.getElem_take, ← e]; simp; omega) (by rw [e])
  exact ⟨this.1.trans e, this.2⟩
theorem tree_c {mi mb nx : Int} {l : List Nd} (h : checkN mi mb nx l = 0) : Tree l := by
  obtain ⟨h1, h2, h3, h4, h5, _⟩ := check_parts h
  have hf := h1
  simp only [firstB, rootB, Bool.and_eq_true, beq_iff_eq] at hf
  have hr := (riseN_iff l).1 hf.2.1.1
  have h2' := fun x hx => List.all_eq_true.1 h2 x hx
  have h4' := fun x hx => List.all_eq_true.1 h4 x hx
  have hroot := get_mem hf.2.1.2
  refine ⟨hr, hf.2.1.2, hf.2.2, ?_, ?_, ?_, ?_, ?_, ?_, by simpa [fifthB] using h5⟩
  · intro x hx hk
    have := h2' x hx
    unfold secondX at this
    rw [if_neg hk] at this
    split at this
    · simp only [Bool.and_eq_true, List.isEmpty_iff] at this; exact this.1
    · split at this
      · simp only [Bool.and_eq_true, List.isEmpty_iff] at this; exact this.1.1.1.1
      · cases this
  · intro x hx hk
    have := h2' x hx
    unfold secondX at this
    rw [if_pos hk, Bool.and_eq_true] at this
    exact this.2
  · intro x hx e he
    exact List.all_eq_true.1 (List.all_eq_true.1 h3 x hx) e he
  · have := h4' _ hroot.1
    unfold fourthX at this
    rw [hroot.2, if_pos rfl] at this
    simp only [Bool.and_eq_true, decide_eq_true_eq] at this
    exact this.2.1
  · intro x hx hk hi
    have := h4' _ hx
    unfold fourthX at this
    rw [if_neg hi, if_pos hk] at this
    simp only [Bool.and_eq_true, decide_eq_true_eq] at this
    exact this.2.2.1
  · intro x hx hk hi
    have := h4' _ hx
    unfold fourthX at this
    rw [if_neg hi, if_pos hk] at this
    simp only [Bool.and_eq_true, decide_eq_true_eq] at this
    exact this.2.2.2

theorem tree_of {mi mb nx : Int} {l : List Nd} (h : okB mi mb nx l = true) : Tree l := tree_c (ok_check h)
/-! ### Levels -/
def lvN (l : List Nd) : Nat → List Int → List Int
  | 0, L => L
  | d + 1, L => (lvN l d L).flatMap (kidsN l)
/-- All that is come to in so many levels. -/
def visN (l : List Nd) : Nat → List Int → List Int
  | 0, _ => []
  | d + 1, L => L ++ visN l d (L.flatMap (kidsN l))
theorem lv_in (l : List Nd) (d : Nat) (L : List Int) : lvN l (d + 1) L = lvN l d (L.flatMap (kidsN l)) := by
  induction d with
  | zero => rfl
  | succ d ih => show (lvN l (d + 1) L).flatMap _ = _; rw [ih]; rfl
theorem vis_out (l : List Nd) (d : Nat) : ∀ L, visN l (d + 1) L = L ++ (visN l d L).flatMap (kidsN l) := by
  induction d with
  | zero => intro L; simp [visN]
  | succ d ih =>
    intro L
    show L ++ visN l (d + 1) (L.flatMap (kidsN l)) = _
    rw [ih]
    show _ = L ++ (L ++ visN l d (L.flatMap (kidsN l))).flatMap (kidsN l)
    rw [List.flatMap_append]
theorem vis_lv (l : List Nd) (d : Nat) (L : List Int) : visN l (d + 1) L = visN l d L ++ lvN l d L := by
  induction d generalizing L with
  | zero => simp [visN, lvN]
  | succ d ih =>
    show L ++ visN l (d + 1) (L.flatMap (kidsN l)) = (L ++ visN l d (L.flatMap (kidsN l))) ++ _
    rw [ih, lv_in, List.append_assoc]
theorem kids_dir {l : List Nd} (t : Tree l) {i : Int} (h : kidsN l i ≠ []) : isDir l i = true := by
  unfold kidsN at h
  cases hh : hasN l i
  · rw [getN_none hh] at h; exact absurd rfl h
  · have hm := get_mem hh
    unfold isDir
    rw [hh, Bool.true_and, decide_eq_true_eq]
    refine Decidable.byContradiction fun hk => ?_
    rw [t.files _ hm.1 hk] at h
    exact h rfl
theorem sum_sub (f : Int → Nat) (s : List Int) : ∀ (t : List Int), s.Nodup → (∀ x ∈ s, x ∈ t) → (s.map f).sum ≤ (t.map f).sum := by
  induction s with
  | nil => intro t _ _; simp
  | cons a r ih =>
    intro t hs h
    obtain ⟨h1, h2⟩ := List.nodup_cons.1 hs
    have ha := h a (by simp)
    have h3 := ih (t.erase a) h2 (fun x hx => (List.mem_erase_of_ne (fun e : x = a => h1 (by rw [← e]; exact hx))).2 (h x (by simp [hx])))
    have h4 := ((List.perm_cons_erase ha).map f).sum_nat
    simp only [List.map_cons, List.sum_cons] at h4 ⊢
    omega
theorem sum_filter (f : Int → Nat) (s : List Int) (p : Int → Bool) (h : ∀ i ∈ s, p i = false → f i = 0) : (s.map f).sum = ((s.filter p).map f).sum := by
  induction s with
  | nil => rfl
  | cons a r ih =>
    have := ih fun i hi => h i (by simp [hi])
    rw [List.filter_cons]
    split
    · simp only [List.map_cons, List.sum_cons, this]
    · rename_i hp
      simp only [List.map_cons, List.sum_cons, this, h a (by simp) (by simpa using hp), Nat.zero_add]
theorem nodup_count {s : List Int} (p : Int → Bool) (h : ∀ j, p j = true → s.count j ≤ 1) : (s.filter p).Nodup := by
  rw [List.nodup_iff_count]
  intro a
  cases hp : p a
  · rw [List.count_eq_zero_of_not_mem (by simp [hp])]; omega
  · rw [List.count_filter hp]; exact h a hp
theorem dir_ino {l : List Nd} {i : Int} (h : isDir l i = true) : i ∈ l.map (·.ino) := by
  unfold isDir at h
  rw [Bool.and_eq_true] at h
  exact has_inos h.1
theorem kids_sum {l : List Nd} (t : Tree l) (f : List Ent → Nat) : ((l.map (·.ino)).map (fun i => f (getN l i).ents)).sum = (l.map (fun x => f x.ents)).sum := by
  rw [List.map_map]
  congr 1
  refine List.map_congr_left fun x hx => ?_
  show f (getN l x.ino).ents = _
  rw [(getN_of t.rise hx).1]
theorem names_sum (l : List Nd) (j : Int) : namesN l j = (l.map (fun x => (x.ents.map (·.2)).count j)).sum := by
  unfold namesN pairsN cntP
  induction l with
  | nil => rfl
  | cons x r ih =>
    rw [List.flatMap_cons, List.countP_append, ih, List.map_cons, List.sum_cons]
    congr 1
    rw [List.countP_map, List.count, List.countP_map]
    rfl
theorem count_flat (L : List Int) (g : Int → List Int) (j : Int) : (L.flatMap g).count j = (L.map (fun i => (g i).count j)).sum := by
  induction L with
  | nil => rfl
  | cons a r ih => rw [List.flatMap_cons, List.count_append, ih]; simp
theorem len_flat (L : List Int) (g : Int → List Int) : (L.flatMap g).length = (L.map (fun i => (g i).length)).sum := by
  induction L with
  | nil => rfl
  | cons a r ih => rw [List.flatMap_cons, List.length_append, ih]; simp
/-- Each directory is come to once at most. -/
theorem vis_once {l : List Nd} (t : Tree l) (d : Nat) : ∀ j, isDir l j = true → (visN l d [1]).count j ≤ 1 := by
  induction d with
  | zero => intro j _; simp [visN]
  | succ d ih =>
    intro j hj
    rw [vis_out, List.count_append, count_flat]
    have h1 : ((visN l d [1]).map (fun i => (kidsN l i).count j)).sum ≤ namesN l j := by
      rw [sum_filter _ _ (isDir l) (fun i _ hi => by
        have : kidsN l i = [] := Decidable.byContradiction fun h => by rw [kids_dir t h] at hi; cases hi
        rw [this]; rfl), names_sum, ← kids_sum t (fun es => (es.map (·.2)).count j)]
      refine sum_sub _ _ _ (nodup_count _ ih) (fun x hx => dir_ino (List.mem_filter.1 hx).2)
    by_cases e : j = 1
    · subst e
      rw [t.noRoot] at h1
      simp; omega
    · have hm : hasN l j = true := by unfold isDir at hj; rw [Bool.and_eq_true] at hj; exact hj.1
      have hg := get_mem hm
      have hk : (getN l j).kind = 2 := by unfold isDir at hj; rw [Bool.and_eq_true, decide_eq_true_eq] at hj; exact hj.2
      have h2 := t.once _ hg.1 hk (by rw [hg.2]; exact e)
      rw [hg.2] at h2
      rw [h2] at h1
      have : ([1] : List Int).count j = 0 := List.count_eq_zero_of_not_mem (by simpa using e)
      omega
def entsN (l : List Nd) : Nat := (l.map (fun x => x.ents.length)).sum
theorem vis_len {l : List Nd} (t : Tree l) (d : Nat) : (visN l d [1]).length ≤ 1 + entsN l := by
  cases d with
  | zero => simp [visN]
  | succ d =>
    rw [vis_out, List.length_append, len_flat]
    have h1 : ((visN l d [1]).map (fun i => (kidsN l i).length)).sum ≤ entsN l := by
      rw [sum_filter _ _ (isDir l) (fun i _ hi => by
        have : kidsN l i = [] := Decidable.byContradiction fun h => by rw [kids_dir t h] at hi; cases hi
        rw [this]; rfl)]
      unfold entsN
      rw [← kids_sum t (fun es => es.length)]
      have := sum_sub (fun i => (kidsN l i).length) _ _ (nodup_count _ (vis_once t d)) (fun x hx => dir_ino (List.mem_filter.1 hx).2)
      simpa [kidsN] using this
    simpa using h1
end Go.Proofs.Ytpeghnhaekebdaa

/- The walk of a sound file system: what it comes to, how often, how deep. No program's function. -/
set_option linter.unusedVariables false
set_option linter.unusedSimpArgs false
namespace Go.Proofs.Ytpeghnhaekebdaa

theorem vis_nil (l : List Nd) (d : Nat) : visN l d [] = [] := by
  induction d with
  | zero => rfl
  | succ d ih => show [] ++ visN l d ([].flatMap (kidsN l)) = []; simpa using ih
theorem vis_append (l : List Nd) (d : Nat) : ∀ A B, (visN l d (A ++ B)).Perm (visN l d A ++ visN l d B) := by
  induction d with
  | zero => intro A B; exact List.Perm.refl _
  | succ d ih =>
    intro A B
    show ((A ++ B) ++ visN l d ((A ++ B).flatMap (kidsN l))).Perm ((A ++ visN l d (A.flatMap (kidsN l))) ++ (B ++ visN l d (B.flatMap (kidsN l))))
    rw [List.flatMap_append]
    refine (List.Perm.append_left _ (ih _ _)).trans ?_
    rw [List.append_assoc, List.append_assoc]
    refine List.Perm.append_left _ ?_
    rw [← List.append_assoc, ← List.append_assoc]
    exact List.Perm.append_right _ List.perm_append_comm
theorem vis_flat (l : List Nd) (d : Nat) (A : List Int) : (visN l d A).Perm (A.flatMap (fun i => visN l d [i])) := by
  induction A with
  | nil => rw [vis_nil]; exact List.Perm.refl _
  | cons a r ih =>
    have := vis_append l d [a] r
    rw [List.flatMap_cons]
    exact this.trans (List.Perm.append_left _ ih)
/-- What the walk comes to are the levels, taken together. -/
theorem below_perm {l : List Nd} (h3 : ∀ x ∈ l, ∀ e ∈ x.ents, hasN l e.2 = true) (d : Nat) : ∀ i p, hasN l i = true → ((belowN l d i p).map (·.2)).Perm (visN l d [i]) := by
  induction d with
  | zero => intro i p _; exact List.Perm.refl _
  | succ d ih =>
    intro i p hi
    have e1 : belowN l (d + 1) i p = (p, i) :: (getN l i).ents.flatMap (fun e => belowN l d e.2 (underB p e.1)) := by
      show (if hasN l i = true then _ else _) = _
      rw [if_pos hi]
    rw [e1]
    show (i :: ((getN l i).ents.flatMap (fun e => belowN l d e.2 (underB p e.1))).map (·.2)).Perm ([i] ++ visN l d ([i].flatMap (kidsN l)))
    refine List.Perm.cons _ ?_
    have e2 : [i].flatMap (kidsN l) = (getN l i).ents.map (·.2) := by simp [kidsN]
    rw [e2]
    refine List.Perm.trans ?_ (vis_flat l d _).symm
    rw [List.map_flatMap, List.flatMap_map]
    have hm := h3 _ (get_mem hi).1
    revert hm
    induction (getN l i).ents with
    | nil => intro _; exact List.Perm.refl _
    | cons e r ih2 =>
      intro hm
      rw [List.flatMap_cons, List.flatMap_cons]
      exact List.Perm.append (ih e.2 _ (hm e (by simp))) (ih2 fun x hx => hm x (by simp [hx]))
theorem list_len {l : List Nd} (t : Tree l) (d : Nat) (p : List UInt8) : (belowN l d 1 p).length ≤ 1 + entsN l := by
  have := (below_perm t.there d 1 p t.root).length_eq
  rw [List.length_map] at this
  rw [this]
  exact vis_len t d

/-! ### How deep -/
theorem lv_has {l : List Nd} (t : Tree l) (d : Nat) : ∀ i ∈ lvN l d [1], hasN l i = true := by
  induction d with
  | zero => intro i hi; rw [List.mem_singleton.1 hi]; exact t.root
  | succ d ih =>
    intro i hi
    obtain ⟨a, ha, hb⟩ := List.mem_flatMap.1 hi
    obtain ⟨e, he, rfl⟩ := List.mem_map.1 hb
    exact t.there _ (get_mem (ih a ha)).1 e he
theorem lv_down {l : List Nd} {L : List Int} {d : Nat} (h : lvN l (d + 1) L ≠ []) : ∃ i ∈ lvN l d L, kidsN l i ≠ [] := by
  refine Decidable.byContradiction fun hn => h ?_
  show (lvN l d L).flatMap (kidsN l) = []
  rw [List.flatMap_eq_nil_iff]
  intro i hi
  exact Decidable.byContradiction fun hk => hn ⟨i, hi, hk⟩
theorem lv_shorter {l : List Nd} {L : List Int} {d : Nat} (h : lvN l (d + 1) L ≠ []) : lvN l d L ≠ [] := by
  obtain ⟨i, hi, _⟩ := lv_down h
  exact List.ne_nil_of_mem hi
theorem vis_dirs {l : List Nd} (t : Tree l) (L : List Int) (d : Nat) : lvN l d L ≠ [] → d ≤ ((visN l d L).filter (isDir l)).length := by
  induction d with
  | zero => intro _; exact Nat.zero_le _
  | succ d ih =>
    intro h
    obtain ⟨i, hi, hk⟩ := lv_down h
    have h1 := ih (lv_shorter h)
    rw [vis_lv, List.filter_append, List.length_append]
    have h2 : 0 < ((lvN l d L).filter (isDir l)).length := List.length_pos_of_mem (List.mem_filter.2 ⟨hi, kids_dir t hk⟩)
    omega
theorem lv_end {l : List Nd} (t : Tree l) (d : Nat) (h : l.length < d) : lvN l d [1] = [] := by
  refine Decidable.byContradiction fun hn => ?_
  have h1 := vis_dirs t [1] d hn
  have h2 := len_sub _ _ (nodup_count _ (vis_once t d)) (fun x hx => dir_ino (List.mem_filter.1 hx).2)
  rw [List.length_map] at h2
  omega
theorem vis_end {l : List Nd} (t : Tree l) (j : Nat) : visN l (l.length + 1 + j) [1] = visN l (l.length + 1) [1] := by
  induction j with
  | zero => rfl
  | succ j ih => rw [← Nat.add_assoc, vis_lv, ih, lv_end t _ (by omega), List.append_nil]

/-! ### Each inode is on a level -/
theorem lv_add (l : List Nd) (a b : Nat) (L : List Int) : lvN l (a + b) L = lvN l b (lvN l a L) := by
  induction b with
  | zero => rfl
  | succ b ih => show (lvN l (a + b) L).flatMap _ = _; rw [ih]; rfl
theorem see_lv {l : List Nd} (P : Int → Prop) (s : List Int) (es : List Ent) (hs : ∀ i ∈ s, P i) (he : ∀ e ∈ es, P e.2) : ∀ i ∈ seeB s es, P i := see_has s es P hs he
theorem bfs_lv {l : List Nd} (k : Nat) : ∀ i ∈ bfsN l k, ∃ m, i ∈ lvN l m [1] := by
  induction k with
  | zero => intro i hi; exact ⟨0, hi⟩
  | succ k ih =>
    rcases Nat.lt_or_ge k (bfsN l k).length with h | h
    · rw [bfs_next h]
      refine see_has _ _ (fun i => ∃ m, i ∈ lvN l m [1]) ih ?_
      intro e he
      obtain ⟨m, hm⟩ := ih _ (List.getElem_mem h)
      exact ⟨m + 1, List.mem_flatMap.2 ⟨_, hm, List.mem_map.2 ⟨e, he, rfl⟩⟩⟩
    · rw [show bfsN l (k + 1) = bfsN l k from bfs_stop h 1]; exact ih
theorem sub_eq {s t : List Int} (hs : s.Nodup) (h : ∀ x ∈ s, x ∈ t) (hl : t.length ≤ s.length) : ∀ x ∈ t, x ∈ s := by
  intro x hx
  refine Decidable.byContradiction fun hn => ?_
  have := len_sub s (t.erase x) hs (fun y hy => (List.mem_erase_of_ne (fun e : y = x => hn (by rw [← e]; exact hy))).2 (h y hy))
  rw [List.length_erase_of_mem hx] at this
  have := List.length_pos_of_mem hx
  omega
theorem on_level {l : List Nd} (t : Tree l) {i : Int} (h : hasN l i = true) : ∃ m, m ≤ l.length ∧ i ∈ lvN l m [1] := by
  have h3 : thirdB l = true := List.all_eq_true.2 fun x hx => List.all_eq_true.2 fun e he => t.there x hx e he
  have hin : i ∈ bfsN l (l.length + 1) := by
    refine sub_eq (bfs_nodup _ _) (fun z hz => has_inos (bfs_has h3 t.root _ z hz)) (by rw [t.seen]; simp) i (has_inos h)
  obtain ⟨m, hm⟩ := bfs_lv _ i hin
  rcases Nat.lt_or_ge l.length m with h | h
  · rw [lv_end t m h] at hm; cases hm
  · exact ⟨m, h, hm⟩

/-! ### From whatever inode -/
theorem lv_append (l : List Nd) (d : Nat) (A B : List Int) : lvN l d (A ++ B) = lvN l d A ++ lvN l d B := by
  induction d with
  | zero => rfl
  | succ d ih => show (lvN l d (A ++ B)).flatMap _ = _; rw [ih, List.flatMap_append]; rfl
theorem lv_perm {l : List Nd} {A B : List Int} (d : Nat) (h : A.Perm B) : (lvN l d A).Perm (lvN l d B) := by
  induction d with
  | zero => exact h
  | succ d ih => exact ih.flatMap_right _
theorem vis_perm {l : List Nd} (d : Nat) : ∀ {A B : List Int}, A.Perm B → (visN l d A).Perm (visN l d B) := by
  induction d with
  | zero => intro A B _; exact List.Perm.refl _
  | succ d ih => intro A B h; exact h.append (ih (h.flatMap_right _))
theorem vis_add (l : List Nd) (a b : Nat) : ∀ L, visN l (a + b) L = visN l a L ++ visN l b (lvN l a L) := by
  induction a with
  | zero => intro L; rw [Nat.zero_add]; rfl
  | succ a ih =>
    intro L
    rw [show a + 1 + b = (a + b) + 1 from by omega]
    show L ++ visN l (a + b) (L.flatMap (kidsN l)) = (L ++ visN l a (L.flatMap (kidsN l))) ++ _
    rw [ih, List.append_assoc, lv_in]
theorem lv_end_any {l : List Nd} (t : Tree l) {i : Int} (h : hasN l i = true) (d : Nat) (hd : l.length < d) : lvN l d [i] = [] := by
  obtain ⟨m, _, hm⟩ := on_level t h
  have h1 := lv_perm (l := l) d (List.perm_cons_erase hm)
  rw [← lv_add, lv_end t _ (by omega)] at h1
  have h2 := h1.nil_eq
  rw [show i :: (lvN l m [1]).erase i = [i] ++ (lvN l m [1]).erase i from rfl, lv_append] at h2
  exact (List.append_eq_nil_iff.1 h2.symm).1
/-- What is come to from an inode is come to from Root. -/
theorem vis_from {l : List Nd} (t : Tree l) {i : Int} (h : hasN l i = true) (d : Nat) : ∃ C m, (visN l (m + d) [1]).Perm (visN l d [i] ++ C) := by
  obtain ⟨m, _, hm⟩ := on_level t h
  refine ⟨visN l m [1] ++ visN l d ((lvN l m [1]).erase i), m, ?_⟩
  rw [vis_add]
  have h1 := (vis_perm (l := l) d (List.perm_cons_erase hm)).trans (vis_append l d [i] ((lvN l m [1]).erase i))
  refine (List.Perm.append_left _ h1).trans ?_
  rw [← List.append_assoc, ← List.append_assoc]
  exact List.Perm.append_right _ List.perm_append_comm
theorem vis_once_any {l : List Nd} (t : Tree l) {i : Int} (h : hasN l i = true) (d : Nat) (j : Int) (hj : isDir l j = true) : (visN l d [i]).count j ≤ 1 := by
  obtain ⟨C, m, hp⟩ := vis_from t h d
  have h1 := vis_once t (m + d) j hj
  rw [hp.count_eq, List.count_append] at h1
  omega
theorem below_len {l : List Nd} (t : Tree l) (d : Nat) (i : Int) (p : List UInt8) : (belowN l d i p).length ≤ 1 + entsN l := by
  cases h : hasN l i
  · rw [below_no h]; simp
  · have h1 := (below_perm t.there d i p h).length_eq
    obtain ⟨C, m, hp⟩ := vis_from t h d
    have h2 := hp.length_eq
    have h3 := vis_len t (m + d)
    rw [List.length_map] at h1
    rw [List.length_append] at h2
    omega
/-- Deeper than there are inodes it doesn't go. -/
theorem below_stop {l : List Nd} (d : Nat) : ∀ i p, lvN l d [i] = [] → belowN l (d + 1) i p = belowN l d i p := by
  induction d with
  | zero => intro i p h; cases h
  | succ d ih =>
    intro i p h
    rw [lv_in] at h
    have e2 : [i].flatMap (kidsN l) = kidsN l i := by simp
    rw [e2] at h
    have hk : ∀ e ∈ (getN l i).ents, lvN l d [e.2] = [] := by
      intro e he
      have hm : e.2 ∈ kidsN l i := List.mem_map.2 ⟨e, he, rfl⟩
      have h1 := lv_perm (l := l) d (List.perm_cons_erase hm)
      rw [h] at h1
      have h2 := h1.nil_eq
      rw [show e.2 :: (kidsN l i).erase e.2 = [e.2] ++ (kidsN l i).erase e.2 from rfl, lv_append] at h2
      exact (List.append_eq_nil_iff.1 h2.symm).1
    show (if hasN l i = true then _ else _) = (if hasN l i = true then _ else _)
    split
    · congr 1
      have hcongr : ∀ es : List Ent, (∀ e ∈ es, lvN l d [e.2] = []) → es.flatMap (fun e => belowN l (d + 1) e.2 (underB p e.1)) = es.flatMap (fun e => belowN l d e.2 (underB p e.1)) := by
        intro es
        induction es with
        | nil => intro _; rfl
        | cons e r ih2 =>
          intro he
          rw [List.flatMap_cons, List.flatMap_cons, ih e.2 _ (he e (by simp)), ih2 fun x hx => he x (by simp [hx])]
      exact hcongr _ hk
    · rfl
theorem below_more {l : List Nd} (t : Tree l) (i : Int) (p : List UInt8) (j : Nat) : belowN l (l.length + 1 + j) i p = belowN l (l.length + 1) i p := by
  cases h : hasN l i
  · rw [below_no h, below_no h]
  · induction j with
    | zero => rfl
    | succ j ih => rw [← Nat.add_assoc, below_stop _ _ _ (lv_end_any t h _ (by omega)), ih]

/-! ### A directory has one path -/
theorem lv_vis {l : List Nd} {m d : Nat} {L : List Int} (h : m < d) : ∀ i ∈ lvN l m L, i ∈ visN l d L := by
  intro i hi
  obtain ⟨j, rfl⟩ : ∃ j, d = m + (j + 1) := ⟨d - m - 1, by omega⟩
  rw [vis_add]
  exact List.mem_append.2 (.inr (List.mem_append.2 (.inl hi)))
theorem dir_once {l : List Nd} (t : Tree l) {i : Int} (h : isDir l i = true) : ((listN l).map (·.2)).count i = 1 := by
  unfold listN
  rw [(below_perm t.there _ 1 [47] t.root).count_eq]
  have h1 := vis_once t (l.length + 1) i h
  have hh : hasN l i = true := by unfold isDir at h; rw [Bool.and_eq_true] at h; exact h.1
  obtain ⟨m, hm, hi⟩ := on_level t hh
  have h2 := List.count_pos_iff.2 (lv_vis (d := l.length + 1) (by omega) i hi)
  omega
theorem paths_len (l : List Nd) (i : Int) : (pathsN l i).length = ((listN l).map (·.2)).count i := by
  unfold pathsN
  rw [List.length_map, List.count, List.countP_map, List.countP_eq_length_filter]
  rfl
theorem dir_path {l : List Nd} (t : Tree l) {i : Int} (h : isDir l i = true) : (pathsN l i).length = 1 := by rw [paths_len, dir_once t h]
theorem no_path {l : List Nd} (t : Tree l) {i : Int} (h : hasN l i = false) : pathsN l i = [] := by
  have : (pathsN l i).length = 0 := by
    rw [paths_len]
    refine List.count_eq_zero_of_not_mem fun hm => ?_
    unfold listN at hm
    have := (below_perm t.there _ 1 [47] t.root).mem_iff.1 hm
    have hv : ∀ d, ∀ j ∈ visN l d [1], hasN l j = true := by
      intro d
      induction d with
      | zero => intro j hj; cases hj
      | succ d ih =>
        intro j hj
        rw [vis_lv] at hj
        rcases List.mem_append.1 hj with hj | hj
        · exact ih j hj
        · exact lv_has t d j hj
    rw [hv _ i this] at h
    cases h
  exact List.eq_nil_of_length_eq_zero this
end Go.Proofs.Ytpeghnhaekebdaa

/- Paths as lists of bytes: their names, the text that parts make, plain paths. No program's function. -/
set_option linter.unusedVariables false
set_option linter.unusedSimpArgs false
namespace Go.Proofs.Ytpeghnhaekebdaa

def atomB (a : List UInt8) : List (List UInt8) := if a = [] then [] else [a]
/-- The names that are left to come, 'a' being what has come of the one at hand. -/
def namesA (a : List UInt8) : List UInt8 → List (List UInt8)
  | [] => atomB a
  | c :: r => if c = 47 then atomB a ++ namesA [] r else namesA (a ++ [c]) r
def namesB (l : List UInt8) : List (List UInt8) := namesA [] l

theorem atomB_nil : atomB [] = [] := rfl
theorem atomB_cons {a : List UInt8} (h : a ≠ []) : atomB a = [a] := if_neg h
theorem namesA_nil (a : List UInt8) : namesA a [] = atomB a := rfl
theorem namesA_slash (a r : List UInt8) : namesA a (47 :: r) = atomB a ++ namesA [] r := by simp [namesA]
theorem namesA_byte (a r : List UInt8) {c : UInt8} (h : c ≠ 47) : namesA a (c :: r) = namesA (a ++ [c]) r := by simp [namesA, h]
theorem namesA_run (x : List UInt8) : ∀ (a r : List UInt8), 47 ∉ x → namesA a (x ++ r) = namesA (a ++ x) r := by
  induction x with
  | nil => intro a r _; simp
  | cons c x ih =>
    intro a r h
    rw [List.cons_append, namesA_byte _ _ (fun e => h (by simp [e])), ih _ _ (fun e => h (by simp [e]))]
    simp
theorem namesB_found (x r : List UInt8) (h : 47 ∉ x) : namesB (x ++ 47 :: r) = atomB x ++ namesB r := by
  unfold namesB; rw [namesA_run _ _ _ h, List.nil_append, namesA_slash]
theorem namesB_none (x : List UInt8) (h : 47 ∉ x) : namesB x = atomB x := by
  have := namesA_run x [] [] h
  simpa [namesB, namesA_nil] using this
theorem namesB_nil : namesB [] = [] := rfl
theorem mem_atomB {a n : List UInt8} (h : n ∈ atomB a) : n = a ∧ a ≠ [] := by
  unfold atomB at h; split at h <;> simp_all
theorem namesA_good (l : List UInt8) : ∀ (a : List UInt8), 47 ∉ a → ∀ n ∈ namesA a l, 47 ∉ n ∧ n ≠ [] := by
  induction l with
  | nil => intro a ha n hn; obtain ⟨rfl, h⟩ := mem_atomB hn; exact ⟨ha, h⟩
  | cons c l ih =>
    intro a ha n hn
    by_cases hc : c = 47
    · subst hc
      rw [namesA_slash] at hn
      rcases List.mem_append.1 hn with h | h
      · obtain ⟨rfl, h⟩ := mem_atomB h; exact ⟨ha, h⟩
      · exact ih [] (by simp) n h
    · rw [namesA_byte _ _ hc] at hn
      exact ih _ (by simp [ha]; exact fun e => hc e.symm) n hn
def goodB (ns : List (List UInt8)) : Prop := ∀ n ∈ ns, 47 ∉ n ∧ n ≠ []
theorem namesB_good (l : List UInt8) : goodB (namesB l) := namesA_good l [] (by simp)
theorem atomB_len (a : List UInt8) : (atomB a).length ≤ a.length := by
  unfold atomB; split
  · simp
  · rename_i h; cases a with | nil => exact absurd rfl h | cons _ _ => simp
theorem namesA_count (l : List UInt8) : ∀ a, (namesA a l).length ≤ a.length + l.length := by
  induction l with
  | nil => intro a; exact atomB_len a
  | cons c l ih =>
    intro a
    by_cases hc : c = 47
    · subst hc
      rw [namesA_slash]
      have := ih []; have := atomB_len a
      simp at *; omega
    · rw [namesA_byte _ _ hc]
      have := ih (a ++ [c]); simp at *; omega
theorem namesB_count (l : List UInt8) : (namesB l).length ≤ l.length := by simpa [namesB] using namesA_count l []
theorem namesA_size (l : List UInt8) : ∀ a, ∀ n ∈ namesA a l, n.length ≤ a.length + l.length := by
  induction l with
  | nil => intro a n hn; obtain ⟨rfl, _⟩ := mem_atomB hn; simp
  | cons c l ih =>
    intro a n hn
    by_cases hc : c = 47
    · subst hc
      rw [namesA_slash] at hn
      rcases List.mem_append.1 hn with h | h
      · obtain ⟨rfl, _⟩ := mem_atomB h; simp
      · have := ih [] n h; simp at *; omega
    · rw [namesA_byte _ _ hc] at hn
      have := ih _ n hn; simp at *; omega
theorem namesB_size (l : List UInt8) : ∀ n ∈ namesB l, n.length ≤ l.length := by
  intro n hn; simpa using namesA_size l [] n hn
theorem namesA_some (l : List UInt8) : ∀ a, a ≠ [] → namesA a l ≠ [] := by
  induction l with
  | nil => intro a ha; rw [namesA_nil, atomB_cons ha]; simp
  | cons c l ih =>
    intro a ha
    by_cases hc : c = 47
    · subst hc; rw [namesA_slash, atomB_cons ha]; simp
    · rw [namesA_byte _ _ hc]; exact ih _ (by simp)

def absB (l : List UInt8) : Bool := l.head? == some 47
def endB (l : List UInt8) : Bool := l.getLast? == some 47
def slashB (l : List UInt8) : Bool := !(namesB l).isEmpty && endB l
theorem namesB_none_abs {l : List UInt8} (h : namesB l = []) : absB l = !l.isEmpty := by
  cases l with
  | nil => rfl
  | cons c r =>
    by_cases hc : c = 47
    · subst hc; rfl
    · unfold namesB at h; rw [namesA_byte _ _ hc] at h; exact absurd h (namesA_some _ _ (by simp))
def baseB (l : List UInt8) : List UInt8 := ((namesB l).getLast?).getD (if absB l then [47] else [])
theorem baseB_some {l : List UInt8} {ns : List (List UInt8)} {n : List UInt8} (h : namesB l = ns ++ [n]) : baseB l = n := by simp [baseB, h]
theorem baseB_none {l : List UInt8} (h : namesB l = []) : baseB l = if absB l then [47] else [] := by simp [baseB, h]

/-- The text of names, a slash ahead of each. -/
def tailB : List (List UInt8) → List UInt8
  | [] => []
  | n :: r => 47 :: (n ++ tailB r)
def interB : List (List UInt8) → List UInt8
  | [] => []
  | n :: r => n ++ tailB r
def putB (a : Bool) (ns : List (List UInt8)) (s : Bool) : List UInt8 := (if a then [47] else []) ++ interB ns ++ (if s && !ns.isEmpty then [47] else [])
def joinB (ns : List (List UInt8)) : List UInt8 := 47 :: interB ns
theorem joinB_put (ns : List (List UInt8)) : putB true ns false = joinB ns := by simp [putB, joinB]
theorem tailB_append (a b : List (List UInt8)) : tailB (a ++ b) = tailB a ++ tailB b := by
  induction a with
  | nil => rfl
  | cons n a ih => simp [tailB, ih]
theorem joinB_tail {ns : List (List UInt8)} (h : ns ≠ []) : joinB ns = tailB ns := by
  cases ns with
  | nil => exact absurd rfl h
  | cons n r => rfl
theorem interB_snoc (ns : List (List UInt8)) (n : List UInt8) : interB (ns ++ [n]) = if ns.isEmpty then n else interB ns ++ 47 :: n := by
  cases ns with
  | nil => simp [interB, tailB]
  | cons m r => simp [interB, tailB_append, tailB]
theorem tailB_snoc (ns : List (List UInt8)) (n : List UInt8) : tailB (ns ++ [n]) = tailB ns ++ 47 :: n := by simp [tailB_append, tailB]
theorem tailB_len (ns : List (List UInt8)) (b : Nat) (h : ∀ n ∈ ns, n.length ≤ b) : (tailB ns).length ≤ ns.length * (b + 1) := by
  induction ns with
  | nil => simp [tailB]
  | cons n r ih =>
    have h1 := ih (fun n hn => h n (by simp [hn])); have h2 := h n (by simp)
    simp only [tailB, List.length_cons, List.length_append, Nat.succ_mul, Nat.add_mul, Nat.one_mul] at *
    omega
theorem interB_len_tail (ns : List (List UInt8)) : (interB ns).length ≤ (tailB ns).length := by
  cases ns <;> simp [interB, tailB]
theorem interB_take (ns : List (List UInt8)) (k : Nat) : (interB (ns.take k)).length ≤ (interB ns).length := by
  cases ns with
  | nil => simp
  | cons n r =>
    cases k with
    | zero => simp [interB]
    | succ k =>
      have : tailB r = tailB (r.take k) ++ tailB (r.drop k) := by rw [← tailB_append, List.take_append_drop]
      simp [interB, this]
theorem tailB_take (ns : List (List UInt8)) (k : Nat) : (tailB (ns.take k)).length ≤ (tailB ns).length := by
  have : tailB ns = tailB (ns.take k) ++ tailB (ns.drop k) := by rw [← tailB_append, List.take_append_drop]
  rw [this]; simp

theorem namesA_total (l : List UInt8) : ∀ a, (tailB (namesA a l)).length ≤ a.length + l.length + 1 := by
  have one : ∀ a : List UInt8, (tailB (atomB a)).length ≤ a.length + 1 := by
    intro a; unfold atomB; split
    · simp [tailB]
    · simp [tailB]
  induction l with
  | nil => intro a; simpa [namesA_nil] using one a
  | cons c l ih =>
    intro a
    by_cases hc : c = 47
    · subst hc
      rw [namesA_slash, tailB_append, List.length_append]
      have := ih []; have := one a
      simp at *; omega
    · rw [namesA_byte _ _ hc]
      have := ih (a ++ [c]); simp at *; omega
theorem namesB_total (l : List UInt8) : (interB (namesB l)).length ≤ l.length + 1 := by
  have h1 := interB_len_tail (namesB l); have h2 := namesA_total l []
  simp [namesB] at *; omega
theorem namesA_tail_more (ns : List (List UInt8)) (r : List UInt8) : ∀ a, goodB ns → namesA a (tailB ns ++ 47 :: r) = atomB a ++ ns ++ namesB r := by
  induction ns with
  | nil => intro a _; simp [tailB, namesA_slash, namesB]
  | cons n ns ih =>
    intro a h
    obtain ⟨h1, h2⟩ := h n (by simp)
    have := ih n (fun m hm => h m (by simp [hm]))
    rw [show tailB (n :: ns) ++ 47 :: r = 47 :: (n ++ (tailB ns ++ 47 :: r)) from by simp [tailB], namesA_slash, namesA_run _ _ _ h1, List.nil_append, this, atomB_cons h2]
    simp
theorem namesA_tail (ns : List (List UInt8)) : ∀ a, goodB ns → namesA a (tailB ns) = atomB a ++ ns := by
  induction ns with
  | nil => intro a _; simp [tailB, namesA_nil]
  | cons n ns ih =>
    intro a h
    obtain ⟨h1, h2⟩ := h n (by simp)
    have := ih n (fun m hm => h m (by simp [hm]))
    rw [tailB, namesA_slash, namesA_run _ _ _ h1, List.nil_append, this, atomB_cons h2]
    simp
theorem namesB_inter (ns : List (List UInt8)) (h : goodB ns) : namesB (interB ns) = ns := by
  cases ns with
  | nil => rfl
  | cons n r =>
    obtain ⟨h1, h2⟩ := h n (by simp)
    unfold namesB interB
    rw [namesA_run _ _ _ h1, List.nil_append, namesA_tail _ _ (fun m hm => h m (by simp [hm])), atomB_cons h2]; rfl
theorem namesB_inter_more (ns : List (List UInt8)) (r : List UInt8) (h : goodB ns) : namesB (interB ns ++ 47 :: r) = ns ++ namesB r := by
  cases ns with
  | nil => simp [interB, namesB, namesA_slash, atomB]
  | cons n ns =>
    obtain ⟨h1, h2⟩ := h n (by simp)
    unfold namesB interB
    rw [List.append_assoc, namesA_run _ _ _ h1, List.nil_append, namesA_tail_more _ _ _ (fun m hm => h m (by simp [hm])), atomB_cons h2]; rfl
theorem namesB_slash (l : List UInt8) : namesB (47 :: l) = namesB l := by simp [namesB, namesA_slash, atomB]
theorem namesB_join (ns : List (List UInt8)) (h : goodB ns) : namesB (joinB ns) = ns := by rw [joinB, namesB_slash, namesB_inter _ h]
theorem namesB_put (a s : Bool) (ns : List (List UInt8)) (h : goodB ns) : namesB (putB a ns s) = ns := by
  have key : ∀ post : List UInt8, (post = [] ∨ post = [47]) → namesB (interB ns ++ post) = ns := by
    rintro post (rfl | rfl)
    · rw [List.append_nil, namesB_inter _ h]
    · rw [namesB_inter_more _ _ h, namesB_nil, List.append_nil]
  unfold putB
  have hp : (if (s && !ns.isEmpty) = true then [47] else ([] : List UInt8)) = [] ∨ (if (s && !ns.isEmpty) = true then [47] else ([] : List UInt8)) = [47] := by split <;> simp
  cases a
  · simpa using key _ hp
  · rw [if_pos rfl, List.append_assoc, List.singleton_append, namesB_slash]; exact key _ hp
theorem absB_put (a s : Bool) (ns : List (List UInt8)) (h : goodB ns) : absB (putB a ns s) = a := by
  cases a
  · cases ns with
    | nil => simp [putB, interB, absB]
    | cons n r =>
      obtain ⟨h1, h2⟩ := h n (by simp)
      cases n with
      | nil => exact absurd rfl h2
      | cons c n =>
        have : c ≠ 47 := fun e => h1 (by simp [e])
        simp [putB, interB, absB, this]
  · simp [putB, absB]
theorem last_app (a b : List UInt8) (h : b ≠ []) : (a ++ b).getLast? = b.getLast? := by
  rw [List.getLast?_append]; cases hb : b.getLast? <;> simp_all
theorem tailB_last (ns : List (List UInt8)) : goodB ns → ∀ a : List UInt8, a ≠ [] → 47 ∉ a → ∃ c, (a ++ tailB ns).getLast? = some c ∧ c ≠ 47 := by
  induction ns with
  | nil =>
    intro _ a h1 h2
    refine ⟨a.getLast h1, by rw [tailB, List.append_nil, List.getLast?_eq_some_getLast h1], fun e => h2 ?_⟩
    rw [← e]; exact List.getLast_mem h1
  | cons n ns ih =>
    intro h a _ _
    obtain ⟨h1, h2⟩ := h n (by simp)
    obtain ⟨c, hc, hn⟩ := ih (fun m hm => h m (by simp [hm])) n h2 h1
    refine ⟨c, ?_, hn⟩
    have hne : n ++ tailB ns ≠ [] := by simp [h2]
    rw [tailB, show a ++ 47 :: (n ++ tailB ns) = (a ++ [47]) ++ (n ++ tailB ns) from by simp, last_app _ _ hne]
    exact hc
theorem endB_put (a s : Bool) (ns : List (List UInt8)) (h : goodB ns) (hn : ns ≠ []) : endB (putB a ns s) = s := by
  cases ns with
  | nil => exact absurd rfl hn
  | cons n r =>
    obtain ⟨h1, h2⟩ := h n (by simp)
    cases s
    · obtain ⟨c, hc, hne⟩ := tailB_last r (fun m hm => h m (by simp [hm])) n h2 h1
      have hne' : n ++ tailB r ≠ [] := by simp [h2]
      simp only [endB, putB, interB, Bool.false_and, Bool.false_eq_true, if_false, List.append_nil]
      rw [last_app _ _ hne', hc]
      simp [hne]
    · simp [endB, putB]
theorem slashB_put (a s : Bool) (ns : List (List UInt8)) (h : goodB ns) : slashB (putB a ns s) = (s && !ns.isEmpty) := by
  unfold slashB
  rw [namesB_put _ _ _ h]
  cases ns with
  | nil => simp
  | cons n r => rw [endB_put _ _ _ h (by simp)]; simp
theorem slashB_eq (l : List UInt8) : (slashB l && !(namesB l).isEmpty) = slashB l := by
  unfold slashB; cases (namesB l).isEmpty <;> simp

theorem mayB_good {n : List UInt8} (h : mayB n = true) : 47 ∉ n ∧ n ≠ [] := by
  simp [mayB] at h; exact ⟨h.1.2, h.1.1.1.1.1⟩
theorem mayB_all {ns : List (List UInt8)} (h : ns.all mayB = true) : goodB ns := fun n hn => mayB_good (List.all_eq_true.1 h n hn)
def longB (l : List UInt8) : Bool := decide (4095 < l.length) || (namesB l).any fun n => decide (255 < n.length)
def plainB (l : List UInt8) : Option (List (List UInt8)) := if (namesB l).all mayB && joinB (namesB l) == l then some (namesB l) else none
theorem plainB_bad {l : List UInt8} {k : Nat} (h : k < (namesB l).length) (hm : mayB (namesB l)[k] = false) : plainB l = none := by
  unfold plainB
  rw [if_neg]
  intro e
  simp only [Bool.and_eq_true, List.all_eq_true] at e
  rw [e.1 _ (List.getElem_mem h)] at hm
  exact absurd hm (by simp)
theorem plainB_ok {l : List UInt8} (h : ∀ n ∈ namesB l, mayB n = true) : plainB l = if joinB (namesB l) == l then some (namesB l) else none := by
  unfold plainB
  rw [List.all_eq_true.2 h, Bool.true_and]
theorem plainB_yes {l : List UInt8} {ns : List (List UInt8)} (h : plainB l = some ns) : joinB ns = l ∧ goodB ns ∧ namesB l = ns := by
  unfold plainB at h
  split at h
  · rename_i hc
    simp only [Bool.and_eq_true, beq_iff_eq] at hc
    cases h
    exact ⟨hc.2, namesB_good _, rfl⟩
  · cases h
theorem plainB_join {ns : List (List UInt8)} (h : ns.all mayB = true) : plainB (joinB ns) = some ns := by
  unfold plainB
  rw [namesB_join _ (mayB_all h), h]; simp

/-- As the program asks it. -/
def liesB (p q : List UInt8) : Bool := (p == q) || (q == [47]) || (q ++ [47]).isPrefixOf p
theorem joinB_inj {a b : List (List UInt8)} (ha : goodB a) (hb : goodB b) (h : joinB a = joinB b) : a = b := by
  rw [← namesB_join a ha, h, namesB_join b hb]
theorem under_more (a c : List (List UInt8)) : liesB (joinB (a ++ c)) (joinB a) = true := by
  unfold liesB
  by_cases hc : c = []
  · subst hc; simp
  · by_cases ha : a = []
    · subst ha; simp [joinB, interB]
    · have : (joinB a ++ [47]).isPrefixOf (joinB (a ++ c)) = true := by
        rw [List.isPrefixOf_iff_prefix, joinB_tail ha, joinB_tail (by simp [ha]), tailB_append]
        cases c with
        | nil => exact absurd rfl hc
        | cons n r => exact ⟨n ++ tailB r, by simp [tailB]⟩
      rw [this]; simp
theorem under_prefix {a b : List (List UInt8)} (ha : goodB a) (hb : goodB b) : liesB (joinB a) (joinB b) = b.isPrefixOf a := by
  rw [Bool.eq_iff_iff]
  constructor
  · intro h
    simp only [liesB, Bool.or_eq_true, beq_iff_eq] at h
    rw [List.isPrefixOf_iff_prefix]
    rcases h with (h | h) | h
    · rw [joinB_inj ha hb h]; exact List.prefix_refl _
    · have := namesB_join b hb
      rw [h] at this
      rw [← this]; simp [namesB, namesA, atomB]
    · rw [List.isPrefixOf_iff_prefix] at h
      obtain ⟨r, hr⟩ := h
      have h1 := namesB_join a ha
      rw [← hr, List.append_assoc, List.singleton_append, joinB, List.cons_append, namesB_slash, namesB_inter_more _ _ hb] at h1
      exact ⟨_, h1⟩
  · intro h
    rw [List.isPrefixOf_iff_prefix] at h
    obtain ⟨c, rfl⟩ := h
    exact under_more b c
theorem under_back (a c : List (List UInt8)) (ha : goodB a) (hc : goodB c) : liesB (joinB a) (joinB (a ++ c)) = decide (a.length = (a ++ c).length) := by
  rw [under_prefix ha (fun n hn => (List.mem_append.1 hn).elim (ha n) (hc n)), Bool.eq_iff_iff, List.isPrefixOf_iff_prefix, decide_eq_true_eq]
  constructor
  · intro h; have := h.length_le; rw [List.length_append] at this ⊢; omega
  · intro h
    have : c = [] := List.eq_nil_of_length_eq_zero (by rw [List.length_append] at h; omega)
    subst this; simp
theorem under_root (p : List UInt8) : liesB p [47] = true := by simp [liesB]
end Go.Proofs.Ytpeghnhaekebdaa

/- The walk's paths: plain, no two alike, each behind that of its directory. No program's function. -/
set_option linter.unusedVariables false
set_option linter.unusedSimpArgs false
namespace Go.Proofs.Ytpeghnhaekebdaa

theorem under_join {ns : List (List UInt8)} (h : goodB ns) (n : List UInt8) : underB (joinB ns) n = joinB (ns ++ [n]) := by
  cases hn : ns with
  | nil =>
    unfold underB
    rw [if_pos (show joinB [] = [47] from rfl)]; simp [joinB, interB, tailB]
  | cons a r =>
    rw [← hn]
    have hne : ns ≠ [] := by rw [hn]; simp
    have h1 : joinB ns ≠ [47] := by
      have ha := (h a (by rw [hn]; simp)).2
      intro e
      rw [joinB_tail hne, hn] at e
      simp [tailB] at e
      exact ha e.1
    unfold underB
    rw [if_neg h1, joinB_tail hne, joinB_tail (by simp), tailB_snoc]
    simp
/-- The walk, by names. -/
def treeN (l : List Nd) : Nat → Int → List (List UInt8) → List (List (List UInt8) × Int)
  | 0, _, _ => []
  | d + 1, i, ns => if hasN l i = true then (ns, i) :: (getN l i).ents.flatMap (fun e => treeN l d e.2 (ns ++ [e.1])) else []
theorem may_ents {l : List Nd} (t : Tree l) {i : Int} : ∀ e ∈ (getN l i).ents, mayB e.1 = true := by
  intro e he
  cases hh : hasN l i
  · rw [getN_none hh] at he; cases he
  · have hm := (get_mem hh).1
    have hk : (getN l i).kind = 2 := Decidable.byContradiction fun hk => by rw [t.files _ hm hk] at he; cases he
    have := ((rightB_iff _).1 (t.rights _ hm hk)).1 e he
    unfold goodE at this
    rw [Bool.and_eq_true] at this
    exact this.1
theorem good_snoc {ns : List (List UInt8)} {n : List UInt8} (h : goodB ns) (hn : mayB n = true) : goodB (ns ++ [n]) := by
  intro m hm
  rcases List.mem_append.1 hm with hm | hm
  · exact h m hm
  · rw [List.mem_singleton.1 hm]; exact mayB_good hn
theorem below_tree {l : List Nd} (t : Tree l) (d : Nat) : ∀ i ns, goodB ns → belowN l d i (joinB ns) = (treeN l d i ns).map (fun q => (joinB q.1, q.2)) := by
  induction d with
  | zero => intro i ns _; rfl
  | succ d ih =>
    intro i ns h
    show (if hasN l i = true then _ else _) = (if hasN l i = true then _ else _ : List _).map _
    split
    · rw [List.map_cons, List.map_flatMap]
      congr 1
      have hm := may_ents t (i := i)
      revert hm
      induction (getN l i).ents with
      | nil => intro _; rfl
      | cons e r ih2 =>
        intro hm
        rw [List.flatMap_cons, List.flatMap_cons, ih2 fun x hx => hm x (by simp [hx]), under_join h, ih _ _ (good_snoc h (hm e (by simp)))]
    · rfl
theorem tree_may {l : List Nd} (t : Tree l) (d : Nat) : ∀ i ns, ns.all mayB = true → ∀ q ∈ treeN l d i ns, q.1.all mayB = true := by
  induction d with
  | zero => intro i ns _ q hq; cases hq
  | succ d ih =>
    intro i ns h q hq
    unfold treeN at hq
    split at hq
    · rcases List.mem_cons.1 hq with rfl | hq
      · exact h
      · obtain ⟨e, he, hq⟩ := List.mem_flatMap.1 hq
        exact ih _ _ (by rw [List.all_append, h]; simp [may_ents t e he]) q hq
    · cases hq
theorem tree_prefix (l : List Nd) (d : Nat) : ∀ i ns, ∀ q ∈ treeN l d i ns, ns <+: q.1 := by
  induction d with
  | zero => intro i ns q hq; cases hq
  | succ d ih =>
    intro i ns q hq
    unfold treeN at hq
    split at hq
    · rcases List.mem_cons.1 hq with rfl | hq
      · exact List.prefix_rfl
      · obtain ⟨e, he, hq⟩ := List.mem_flatMap.1 hq
        exact (List.prefix_append _ _).trans (ih _ _ q hq)
    · cases hq
theorem right_pair {es : List Ent} (h : rightP es) : es.Pairwise (fun a b => a.1 ≠ b.1) := h.2.imp fun h => lt_ne h
theorem ents_pair {l : List Nd} (t : Tree l) (i : Int) : (getN l i).ents.Pairwise (fun a b => a.1 ≠ b.1) := by
  cases hh : hasN l i
  · rw [getN_none hh]; exact List.Pairwise.nil
  · have hm := (get_mem hh).1
    by_cases hk : (getN l i).kind = 2
    · exact right_pair ((rightB_iff _).1 (t.rights _ hm hk))
    · rw [t.files _ hm hk]; exact List.Pairwise.nil
/-- No two paths are alike. -/
theorem tree_nodup {l : List Nd} (t : Tree l) (d : Nat) : ∀ i ns, ((treeN l d i ns).map (·.1)).Nodup := by
  induction d with
  | zero => intro i ns; exact List.Pairwise.nil
  | succ d ih =>
    intro i ns
    unfold treeN
    split
    · rw [List.map_cons, List.map_flatMap, List.nodup_cons]
      constructor
      · intro hm
        obtain ⟨e, he, hq⟩ := List.mem_flatMap.1 hm
        obtain ⟨q, hq, hq2⟩ := List.mem_map.1 hq
        have h1 := (tree_prefix l d _ _ q hq).length_le
        have h2 : q.1 = ns := hq2
        rw [h2, List.length_append, List.length_singleton] at h1
        omega
      · have hp := ents_pair t i
        revert hp
        induction (getN l i).ents with
        | nil => intro _; exact List.Pairwise.nil
        | cons e r ih2 =>
          intro hp
          obtain ⟨h1, h2⟩ := List.pairwise_cons.1 hp
          rw [List.flatMap_cons]
          refine List.nodup_append.2 ⟨ih _ _, ih2 h2, ?_⟩
          intro a ha b hb hab
          subst hab
          obtain ⟨q, hq, rfl⟩ := List.mem_map.1 ha
          obtain ⟨e2, he2, hb⟩ := List.mem_flatMap.1 hb
          obtain ⟨q2, hq2, hqq⟩ := List.mem_map.1 hb
          obtain ⟨s1, hs1⟩ := tree_prefix l d _ _ q hq
          obtain ⟨s2, hs2⟩ := tree_prefix l d _ _ q2 hq2
          have : ns ++ [e.1] ++ s1 = ns ++ [e2.1] ++ s2 := by rw [hs1, hs2, hqq]
          simp at this
          exact h1 e2 he2 this.1
    · exact List.Pairwise.nil
/-- Behind its directory, whose entry it is. -/
def Parent (l : List Nd) (A : List (List (List UInt8) × Int)) (q : List (List UInt8) × Int) : Prop := ∃ pn nm dir, q.1 = pn ++ [nm] ∧ (pn, dir) ∈ A ∧ (nm, q.2) ∈ (getN l dir).ents
theorem Parent.mono {l : List Nd} {A B : List (List (List UInt8) × Int)} {q : List (List UInt8) × Int} (h : Parent l A q) (hs : ∀ x ∈ A, x ∈ B) : Parent l B q := by
  obtain ⟨pn, nm, dir, h1, h2, h3⟩ := h
  exact ⟨pn, nm, dir, h1, hs _ h2, h3⟩
theorem tree_head {l : List Nd} {d : Nat} {i : Int} {ns : List (List UInt8)} {q : List (List UInt8) × Int} {B : List (List (List UInt8) × Int)} (h : treeN l d i ns = q :: B) : q = (ns, i) := by
  cases d with
  | zero => cases h
  | succ d =>
    unfold treeN at h
    split at h
    · exact (List.cons.inj h).1.symm
    · cases h
theorem tree_parent (l : List Nd) (d : Nat) : ∀ i ns A q B, treeN l d i ns = A ++ q :: B → A ≠ [] → Parent l A q := by
  induction d with
  | zero => intro i ns A q B h; cases A <;> cases h
  | succ d ih =>
    intro i ns A q B h hA
    unfold treeN at h
    split at h
    · cases A with
      | nil => exact absurd rfl hA
      | cons x A =>
        obtain ⟨h1, h2⟩ := List.cons.inj h
        subst h1
        have key : ∀ (es : List Ent), (∀ e ∈ es, e ∈ (getN l i).ents) → ∀ A B, es.flatMap (fun e => treeN l d e.2 (ns ++ [e.1])) = A ++ q :: B → Parent l ((ns, i) :: A) q := by
          intro es
          induction es with
          | nil => intro _ A B h; cases A <;> cases h
          | cons e r ih2 =>
            intro hm A B h
            rw [List.flatMap_cons] at h
            rcases List.append_eq_append_iff.1 h with ⟨C, hC1, hC2⟩ | ⟨C, hC1, hC2⟩
            · subst hC1
              refine (ih2 (fun x hx => hm x (by simp [hx])) C B hC2).mono ?_
              intro x hx
              rcases List.mem_cons.1 hx with rfl | hx
              · simp
              · simp [hx]
            · cases C with
              | nil =>
                rw [List.append_nil] at hC1
                rw [List.nil_append] at hC2
                refine (ih2 (fun x hx => hm x (by simp [hx])) [] B (by rw [List.nil_append]; exact hC2.symm)).mono ?_
                intro x hx
                simp at hx
                simp [hx]
              | cons y C =>
                obtain ⟨h3, h4⟩ := List.cons.inj hC2
                subst h3
                cases A with
                | nil =>
                  have := tree_head (l := l) (d := d) (i := e.2) (ns := ns ++ [e.1]) hC1
                  subst this
                  exact ⟨ns, e.1, i, rfl, by simp, hm e (by simp)⟩
                | cons z A =>
                  refine (ih _ _ (z :: A) q C hC1 (by simp)).mono ?_
                  intro x hx
                  exact List.mem_cons_of_mem _ hx
        exact key _ (fun _ h => h) A B h2
    · cases A <;> cases h
end Go.Proofs.Ytpeghnhaekebdaa

/- The walk of a sound file system: how many, in which order; its paths' lengths. No program's function. -/
set_option linter.unusedVariables false
set_option linter.unusedSimpArgs false
namespace Go.Proofs.Ytpeghnhaekebdaa

theorem inos_nodup {l : List Nd} (t : Tree l) : (l.map (·.ino)).Nodup := by
  rw [List.nodup_iff_pairwise_ne, List.pairwise_map]
  exact t.rise.imp fun h => by omega
theorem kids_len0 {l : List Nd} (t : Tree l) {i : Int} (h : isDir l i = false) : (kidsN l i).length = 0 := by
  have : kidsN l i = [] := Decidable.byContradiction fun hk => by rw [kids_dir t hk] at h; cases h
  rw [this]; rfl
theorem list_exact {l : List Nd} (t : Tree l) : (listN l).length = 1 + entsN l := by
  refine Nat.le_antisymm (list_len t _ _) ?_
  have h0 := (below_perm t.there (l.length + 1) 1 [47] t.root).length_eq
  rw [List.length_map] at h0
  unfold listN
  rw [h0, ← vis_end t 1, show l.length + 1 + 1 = (l.length + 1) + 1 from rfl, vis_out, List.length_append, len_flat]
  have h1 : entsN l ≤ ((visN l (l.length + 1) [1]).map (fun i => (kidsN l i).length)).sum := by
    unfold entsN
    rw [← kids_sum t (fun es => es.length), sum_filter _ (visN l (l.length + 1) [1]) (isDir l) (fun i _ hi => kids_len0 t hi)]
    have e : ((l.map (·.ino)).map (fun i => (getN l i).ents.length)).sum = (((l.map (·.ino)).filter (isDir l)).map (fun i => (kidsN l i).length)).sum := by
      rw [← sum_filter (fun i => (kidsN l i).length) (l.map (·.ino)) (isDir l) (fun i _ hi => kids_len0 t hi)]
      simp [kidsN]
    rw [e]
    refine sum_sub _ _ _ ((inos_nodup t).filter _) ?_
    intro i hi
    have hd := (List.mem_filter.1 hi).2
    have hh : hasN l i = true := by unfold isDir at hd; rw [Bool.and_eq_true] at hd; exact hd.1
    obtain ⟨m, hm, hl⟩ := on_level t hh
    exact List.mem_filter.2 ⟨lv_vis (by omega) i hl, hd⟩
  simp only [List.length_singleton]; omega
theorem list_tree {l : List Nd} (t : Tree l) : listN l = (treeN l (l.length + 1) 1 []).map (fun q => (joinB q.1, q.2)) := below_tree t _ 1 [] (fun n hn => nomatch hn)
theorem list_head {l : List Nd} (t : Tree l) : ∃ r, listN l = ([47], 1) :: r := by
  unfold listN
  refine ⟨_, show (if hasN l 1 = true then _ else _) = _ from by rw [if_pos t.root]⟩
theorem list_may {l : List Nd} (t : Tree l) {i : Nat} (h : i < (listN l).length) : ∃ ns, ns.all mayB = true ∧ (listN l)[i].1 = joinB ns := by
  have hm := List.getElem_mem h
  have e := list_tree t
  generalize (listN l)[i] = q at *
  rw [e] at hm
  obtain ⟨z, hz, rfl⟩ := List.mem_map.1 hm
  exact ⟨z.1, tree_may t _ _ _ rfl z hz, rfl⟩
theorem split_at {α : Type} {L : List α} {i : Nat} (h : i < L.length) : L = L.take i ++ L[i] :: L.drop (i + 1) := by rw [← List.drop_eq_getElem_cons h, List.take_append_drop]
theorem order_at {l : List Nd} (t : Tree l) {i : Nat} (h0 : 0 < i) (h : i < (listN l).length) : ∃ pn nm dir k, ∃ hk : k < i, (pn ++ [nm]).all mayB = true ∧ (listN l)[i].1 = joinB (pn ++ [nm]) ∧ (listN l)[k]'(by omega) = (joinB pn, dir) ∧ (nm, (listN l)[i].2) ∈ (getN l dir).ents := by
  have e := list_tree t
  have hT : i < (treeN l (l.length + 1) 1 []).length := by rw [e, List.length_map] at h; exact h
  have hL : ∀ k (hk : k < (listN l).length) (hk2 : k < (treeN l (l.length + 1) 1 []).length), (listN l)[k] = (joinB (treeN l (l.length + 1) 1 [])[k].1, (treeN l (l.length + 1) 1 [])[k].2) := by
    intro k hk hk2
    simp only [e, List.getElem_map]
  have hmay := tree_may t (l.length + 1) 1 [] rfl _ (List.getElem_mem hT)
  obtain ⟨pn, nm, dir, h1, h2, h3⟩ := tree_parent l (l.length + 1) 1 [] _ _ _ (split_at hT) (by
    intro hn
    have := congrArg List.length hn
    rw [List.length_take, List.length_nil] at this
    omega)
  obtain ⟨k, hk, hk2⟩ := List.getElem_of_mem h2
  have hki : k < i := by simp at hk; omega
  rw [List.getElem_take] at hk2
  refine ⟨pn, nm, dir, k, hki, by rw [← h1]; exact hmay, ?_, ?_, ?_⟩
  · rw [hL i h hT, h1]
  · rw [hL k (by omega) (by omega), hk2]
  · rw [hL i h hT]; exact h3
theorem order_ne {l : List Nd} (t : Tree l) {i k : Nat} (hk : k < i) (h : i < (listN l).length) : ((listN l)[k]'(by omega)).1 ≠ (listN l)[i].1 := by
  have e := list_tree t
  have hT : i < (treeN l (l.length + 1) 1 []).length := by rw [e, List.length_map] at h; exact h
  have hn := tree_nodup t (l.length + 1) 1 []
  have hg : ∀ k (hk : k < (treeN l (l.length + 1) 1 []).length), goodB (treeN l (l.length + 1) 1 [])[k].1 := fun k hk => mayB_all (tree_may t _ _ _ rfl _ (List.getElem_mem hk))
  simp only [e, List.getElem_map]
  intro he
  have := joinB_inj (hg k (by omega)) (hg i hT) he
  have h2 := (List.pairwise_iff_getElem.1 (List.nodup_iff_pairwise_ne.1 hn)) k i (by simp; omega) (by simp; omega) hk
  simp only [List.getElem_map] at h2
  exact h2 this
theorem below_paths {l : List Nd} (hs : ∀ x ∈ l, shortP 300 x.ents) (d : Nat) : ∀ i p, ∀ q ∈ belowN l d i p, q.1.length ≤ p.length + d * 301 := by
  induction d with
  | zero => intro i p q hq; cases hq
  | succ d ih =>
    intro i p q hq
    unfold belowN at hq
    split at hq
    · rename_i hh
      rcases List.mem_cons.1 hq with rfl | hq
      · simp
      · obtain ⟨e, he, hq⟩ := List.mem_flatMap.1 hq
        have h1 := ih _ _ q hq
        have h2 := under_len p e.1
        have h3 := hs _ (get_mem hh).1 e he
        omega
    · cases hq
theorem ents_next {l : List Nd} {k : Nat} (h : k < l.length) : entsN (l.take (k + 1)) = entsN (l.take k) + l[k].ents.length := by
  unfold entsN
  rw [List.take_succ_eq_append_getElem h, List.map_append, List.sum_append]
  simp
theorem ents_take (l : List Nd) (k : Nat) : entsN (l.take k) ≤ entsN l := by
  have e : entsN l = entsN (l.take k) + entsN (l.drop k) := by
    unfold entsN
    rw [← List.sum_append, ← List.map_append, List.take_append_drop]
  omega
theorem few_ents {l : List Nd} (h : fewN l = true) : entsN l ≤ 1600 ∧ l.length ≤ 40 ∧ ∀ x ∈ l, shortP 300 x.ents := by
  have hsm := fewN_small h
  unfold fewN at h
  rw [Bool.and_eq_true, List.all_eq_true] at h
  have hx : ∀ x ∈ l, x.ents.length ≤ 40 ∧ shortP 300 x.ents := by
    intro x hx
    have := h.2 x hx
    unfold fewX at this
    simp only [Bool.and_eq_true, decide_eq_true_eq, List.all_eq_true] at this
    exact ⟨this.1.2, this.2⟩
  refine ⟨?_, hsm.1, fun x hm => (hx x hm).2⟩
  have key : ∀ r : List Nd, (∀ x ∈ r, x.ents.length ≤ 40) → entsN r ≤ r.length * 40 := by
    intro r
    induction r with
    | nil => intro _; simp [entsN]
    | cons x r ih =>
      intro hr
      have h1 := ih fun y hy => hr y (by simp [hy])
      have h2 := hr x (by simp)
      simp only [entsN, List.map_cons, List.sum_cons, List.length_cons] at h1 ⊢
      omega
  have h1 := key l fun x hm => (hx x hm).1
  have h2 := hsm.1
  omega
end Go.Proofs.Ytpeghnhaekebdaa

/- Where plain paths lead, as lists. No program's function. -/
set_option linter.unusedVariables false
set_option linter.unusedSimpArgs false
namespace Go.Proofs.Ytpeghnhaekebdaa

/-- A place: the directory, the name, the inode. -/
structure Sp where
  dir : Int
  name : List UInt8
  ino : Int
deriving DecidableEq
abbrev zeroS : Sp := ⟨0, [], 0⟩
abbrev rootS : Sp := ⟨0, [], 1⟩
def stepS (l : List Nd) (i : Int) (n : List UInt8) : Sp := ⟨(getN l i).ino, n, numB (getN l i).ents n⟩
def atN (l : List Nd) : Sp → List (List UInt8) → Sp × Int
  | s, [] => (s, 0)
  | s, n :: r => if s.ino = 0 then (zeroS, 1) else if (getN l s.ino).kind = 2 then atN l (stepS l s.ino n) r else (zeroS, 3)
def atP (l : List Nd) (p : List UInt8) : Sp × Int := match plainB p with
  | none => (zeroS, 9)
  | some ns => atN l rootS ns
def getP (l : List Nd) (p : List UInt8) : Nd × Int := if (atP l p).2 ≠ 0 then (zeroN, (atP l p).2) else if (atP l p).1.ino = 0 then (zeroN, 1) else (getN l (atP l p).1.ino, 0)
theorem at_gone {l : List Nd} {s : Sp} {n : List UInt8} {r : List (List UInt8)} (h : s.ino = 0) : atN l s (n :: r) = (zeroS, 1) := by rw [atN, if_pos h]
theorem at_file {l : List Nd} {s : Sp} {n : List UInt8} {r : List (List UInt8)} (h : s.ino ≠ 0) (hk : (getN l s.ino).kind ≠ 2) : atN l s (n :: r) = (zeroS, 3) := by rw [atN, if_neg h, if_neg hk]
theorem at_on {l : List Nd} {s : Sp} {n : List UInt8} {r : List (List UInt8)} (h : s.ino ≠ 0) (hk : (getN l s.ino).kind = 2) : atN l s (n :: r) = atN l (stepS l s.ino n) r := by rw [atN, if_neg h, if_pos hk]
theorem at_append {l : List Nd} (a : List (List UInt8)) : ∀ {s t : Sp} (b : List (List UInt8)), atN l s a = (t, 0) → atN l s (a ++ b) = atN l t b := by
  induction a with
  | nil => intro s t b h; rw [show t = s from (Prod.mk.inj h).1.symm]; rfl
  | cons n r ih =>
    intro s t b h
    by_cases h0 : s.ino = 0
    · rw [at_gone h0] at h; cases h
    · by_cases hk : (getN l s.ino).kind = 2
      · rw [at_on h0 hk] at h
        rw [List.cons_append, at_on h0 hk]; exact ih b h
      · rw [at_file h0 hk] at h; cases h
theorem num_mem {es : List Ent} (h : es.Pairwise (fun a b => a.1 ≠ b.1)) {e : Ent} (he : e ∈ es) : numB es e.1 = e.2 ∧ hasB es e.1 = true := by
  obtain ⟨k, hk, rfl⟩ := List.getElem_of_mem he
  refine find_at hk ?_ rfl
  rw [List.any_eq_false]
  intro x hx
  obtain ⟨j, hj, rfl⟩ := List.getElem_of_mem hx
  have hjk : j < k := by simp at hj; omega
  rw [List.getElem_take]
  simpa using List.pairwise_iff_getElem.1 h j k (by omega) hk hjk
theorem ent_pos {l : List Nd} (t : Tree l) {i : Int} : ∀ e ∈ (getN l i).ents, 0 < e.2 := by
  intro e he
  cases hh : hasN l i
  · rw [getN_none hh] at he; cases he
  · have hm := (get_mem hh).1
    have hk : (getN l i).kind = 2 := Decidable.byContradiction fun hk => by rw [t.files _ hm hk] at he; cases he
    have := ((rightB_iff _).1 (t.rights _ hm hk)).1 e he
    unfold goodE at this
    rw [Bool.and_eq_true, decide_eq_true_eq] at this
    exact this.2
theorem ent_dir {l : List Nd} (t : Tree l) {i : Int} {e : Ent} (he : e ∈ (getN l i).ents) : (getN l i).kind = 2 ∧ hasN l i = true := by
  have : isDir l i = true := kids_dir t (by
    unfold kidsN
    intro h
    have h2 := List.map_eq_nil_iff.1 h
    rw [h2] at he; cases he)
  unfold isDir at this
  rw [Bool.and_eq_true, decide_eq_true_eq] at this
  exact ⟨this.2, this.1⟩
/-- What a walk's way ends in. -/
structure Ends (l : List Nd) (s0 s : Sp) (r : List (List UInt8)) (j : Int) : Prop where
  leads : atN l s0 r = (s, 0)
  ino : s.ino = j
  has : hasN l j = true
  pos : 0 < j
  none : r = [] → s = s0
  some : r ≠ [] → isDir l s.dir = true ∧ (s.name, j) ∈ (getN l s.dir).ents ∧ r.getLast? = some s.name
theorem tree_at {l : List Nd} (t : Tree l) (d : Nat) : ∀ i ns, ∀ q ∈ treeN l d i ns, ∀ s0 : Sp, s0.ino = i → 0 < i → ∃ r s, q.1 = ns ++ r ∧ Ends l s0 s r q.2 := by
  induction d with
  | zero => intro i ns q hq; cases hq
  | succ d ih =>
    intro i ns q hq s0 hs hi
    unfold treeN at hq
    split at hq
    · rename_i hh
      rcases List.mem_cons.1 hq with rfl | hq
      · exact ⟨[], s0, by simp, rfl, hs, hh, hi, fun _ => rfl, fun h => absurd rfl h⟩
      · obtain ⟨e, he, hq⟩ := List.mem_flatMap.1 hq
        have hp := ent_pos t e he
        have hk := (ent_dir t he).1
        have hnum := (num_mem (ents_pair t i) he).1
        have hino := (get_mem hh).2
        obtain ⟨r, s, h1, h2⟩ := ih e.2 _ q hq (stepS l i e.1) hnum hp
        refine ⟨e.1 :: r, s, by rw [h1]; simp, ?_, h2.ino, h2.has, h2.pos, fun h => (by cases h), fun _ => ?_⟩
        · rw [at_on (by omega) (by rw [hs]; exact hk), hs]; exact h2.leads
        · by_cases hr : r = []
          · have e1 := h2.none hr
            subst hr
            have e2 := h2.ino
            rw [e1] at e2
            rw [e1]
            have e3 : (stepS l i e.1).dir = i := hino
            refine ⟨?_, ?_, rfl⟩
            · rw [e3]; unfold isDir; rw [hh, hk]; rfl
            · rw [e3]
              have e4 : (stepS l i e.1).ino = e.2 := hnum
              rw [e4] at e2
              rw [← e2]; exact he
          · obtain ⟨h3, h4, h5⟩ := h2.some hr
            refine ⟨h3, h4, ?_⟩
            cases r with
            | nil => exact absurd rfl hr
            | cons a r => rw [List.getLast?_cons_cons]; exact h5
    · cases hq
/-- Each path of the walk leads to what it was told with. -/
theorem list_at {l : List Nd} (t : Tree l) {k : Nat} (h : k < (listN l).length) : ∃ ns s, ns.all mayB = true ∧ (listN l)[k].1 = joinB ns ∧ Ends l rootS s ns (listN l)[k].2 ∧ (0 < k → ns ≠ []) ∧ (k = 0 → ns = []) := by
  have hm := List.getElem_mem h
  have hne : 0 < k → (listN l)[k].1 ≠ [47] := by
    intro h0 e
    obtain ⟨r, hr⟩ := list_head t
    have h1 := order_ne t h0 h
    have h2 : (listN l)[0]'(by omega) = ([47], 1) := by simp [hr]
    rw [h2] at h1
    exact h1 e.symm
  have hz : k = 0 → (listN l)[k].1 = [47] := by
    intro h0
    obtain ⟨r, hr⟩ := list_head t
    subst h0
    simp [hr]
  have e := list_tree t
  generalize (listN l)[k] = q at *
  rw [e] at hm
  obtain ⟨z, hz2, rfl⟩ := List.mem_map.1 hm
  obtain ⟨r, s, h1, h2⟩ := tree_at t _ _ _ z hz2 rootS rfl (by decide)
  rw [List.nil_append] at h1
  have hmay := tree_may t _ _ _ rfl z hz2
  refine ⟨z.1, s, hmay, rfl, by rw [h1]; exact h2, ?_, ?_⟩
  · intro h0 hn
    exact hne h0 (by show joinB z.1 = _; rw [hn]; rfl)
  · intro h0
    have := hz h0
    exact joinB_inj (mayB_all hmay) (fun n hn => nomatch hn) (show joinB z.1 = joinB [] from this)
theorem list_atP {l : List Nd} {ns : List (List UInt8)} {s : Sp} {j : Int} (hm : ns.all mayB = true) (h : Ends l rootS s ns j) : atP l (joinB ns) = (s, 0) ∧ getP l (joinB ns) = (getN l j, 0) := by
  have h1 : atP l (joinB ns) = (s, 0) := by
    unfold atP
    rw [plainB_join hm]; exact h.leads
  refine ⟨h1, ?_⟩
  unfold getP
  rw [h1, if_neg (by simp), if_neg (by rw [h.ino]; have := h.pos; omega), h.ino]
/-- Behind what is no directory nothing leads on. -/
theorem more_bad {l : List Nd} {ns : List (List UInt8)} {s : Sp} {j : Int} (hm : ns.all mayB = true) (h : Ends l rootS s ns j) (hk : (getN l j).kind ≠ 2) (name : List UInt8) : (atP l (joinB ns ++ 47 :: name)).2 ≠ 0 := by
  have hg := mayB_all hm
  unfold atP
  cases hp : plainB (joinB ns ++ 47 :: name) with
  | none => exact (by decide : (9 : Int) ≠ 0)
  | some ms =>
    obtain ⟨h1, h2, h3⟩ := plainB_yes hp
    have h4 : namesB (joinB ns ++ 47 :: name) = ns ++ namesB name := by rw [joinB, List.cons_append, namesB_slash, namesB_inter_more _ _ hg]
    rw [h3] at h4
    cases hn : namesB name with
    | nil =>
      rw [hn, List.append_nil] at h4
      rw [h4] at h1
      have := congrArg List.length h1
      simp at this
    | cons c r =>
      show (atN l rootS ms).2 ≠ 0
      rw [h4, hn, at_append _ _ h.leads, at_file (by rw [h.ino]; have := h.pos; omega) (by rw [h.ino]; exact hk)]
      decide

/-! ### An entry put, an entry taken -/
def putN (l : List Nd) (s : Sp) (i : Int) (ev : Go.Value) : List Nd := setN l { getN l s.dir with ents := withB (getN l s.dir).ents s.name i, ev := ev }
def takeN (l : List Nd) (s : Sp) (ev : Go.Value) : List Nd := setN l { getN l s.dir with ents := withoutB (getN l s.dir).ents s.name, ev := ev }
theorem setN_key (l : List Nd) {x y : Nd} (h : x.key = y.key) : (setN l x).map Nd.key = (setN l y).map Nd.key := by
  have hi : x.ino = y.ino := (Prod.mk.inj h).1
  unfold setN
  rw [hi, List.map_append, List.map_append, List.map_cons, List.map_cons, h]
theorem put_same (l : List Nd) (s : Sp) (i : Int) (a b : Go.Value) : onesB (putN l s i a) (putN l s i b) = true := decide_eq_true (setN_key l rfl)
theorem take_same (l : List Nd) (s : Sp) (a b : Go.Value) : onesB (takeN l s a) (takeN l s b) = true := decide_eq_true (setN_key l rfl)

/-! ### What the calls ask of a table -/
structure Calm (l : List Nd) : Prop where
  rise : riseP l
  right : ∀ x ∈ l, rightB x.ents = true
  size : ∀ x ∈ l, x.ents.length ≤ 1000 ∧ x.data.length ≤ 5000 ∧ shortP 300 x.ents
  len : l.length ≤ 1000
theorem calm_of {mi mb nx : Int} {l : List Nd} (h : okB mi mb nx l = true) : Calm l := by
  have t := tree_of h
  have hf := (ok_parts h).1
  have hl := (few_ents hf).2.1
  refine ⟨t.rise, fun x hx => ?_, fun x hx => ?_, by omega⟩
  · by_cases hk : x.kind = 2
    · exact t.rights x hx hk
    · rw [t.files x hx hk]; rfl
  · unfold fewN at hf
    rw [Bool.and_eq_true, List.all_eq_true] at hf
    have := hf.2 x hx
    unfold fewX at this
    simp only [Bool.and_eq_true, decide_eq_true_eq, List.all_eq_true] at this
    exact ⟨by omega, this.1.1, this.2⟩
/-- A sound table of calm sizes: what the walks ask. -/
structure OkS (mi mb nx : Int) (l : List Nd) : Prop where
  check : checkN mi mb nx l = 0
  calm : Calm l
theorem ok_s {mi mb nx : Int} {l : List Nd} (h : okB mi mb nx l = true) : OkS mi mb nx l := ⟨ok_check h, calm_of h⟩
theorem calm_get {l : List Nd} (h : Calm l) (i : Int) : rightB (getN l i).ents = true ∧ (getN l i).ents.length ≤ 1000 ∧ (getN l i).data.length ≤ 5000 ∧ shortP 300 (getN l i).ents := by
  cases hh : hasN l i
  · rw [getN_none hh]; exact ⟨rfl, Nat.zero_le _, Nat.zero_le _, fun _ h => (nomatch h)⟩
  · have hm := (get_mem hh).1
    exact ⟨h.right _ hm, h.size _ hm⟩
theorem calm_ents {l : List Nd} (h : Calm l) (i : Int) : sortP (getN l i).ents ∧ (getN l i).ents.length ≤ 1000 ∧ shortP 100000000 (getN l i).ents :=
  ⟨((rightB_iff _).1 (calm_get h i).1).2, (calm_get h i).2.1, fun e he => Nat.le_trans ((calm_get h i).2.2.2 e he) (by decide)⟩
end Go.Proofs.Ytpeghnhaekebdaa

/- Walks: walk.find, walk.closed, slices.Clone of texts. -/
set_option linter.unusedVariables false
set_option linter.unusedSimpArgs false
namespace Go.Proofs.Ytpeghnhaekebdaa
open Go.RowKit

theorem holdF_any (x : Nd) (n : Int) (w : World) :
    Calls Try.prog 63 #[.agg (ndC x), .int .i64 n] w fun e w' => e = .returned (.int .i64 (Lib.compareInt x.ino n)) ∧ Below w.heap.size w w' := by
  go_enter Try.func63, Try.ntmps63
  have hb : Below w.heap.size w (w.alloc (.cells (ndC x) 33)) := (Below.refl _ w).alloc (Nat.le_refl _) _
  go_wp2_with fail; refine (Try.cmp_Compare_int _ _ _).mono ?_; rintro e w' ⟨rfl, rfl⟩
  go_wp2
  go_ret
  exact ⟨rfl, hb⟩

set_option maxHeartbeats 2000000 in
theorem halvesF_any (l : List Nd) (n : Int) (v : Value) (w : World) (hv : Nds w v l) (hs : riseP l) (hl : l.length ≤ 1000000) :
    Calls Try.prog 47 #[v, .int .i64 n, .func (.func 63) #[] #[]] w fun e w' =>
      ∃ lo : Nat, e = .returned (.tuple #[.int .i64 lo, .bool (hasN l n)]) ∧ SrchN l n lo ∧ Below w.heap.size w w' := by
  obtain ⟨a, ca, rfl, hc, hm, _, _, HA0⟩ := hv
  unfold maxLen at hm
  have HA := Lib.hid HA0
  have HS := Lib.hid hs
  clear HA0 hs
  go_enter Try.func47, Try.ntmps47
  go_wp2
  go_loopg [9, 10] l.length (fun g s9 s10 wr => ∃ lo hi : Nat, s9 = .int .i64 lo ∧ s10 = .int .i64 hi ∧ lo ≤ hi ∧ hi ≤ l.length ∧ hi - lo ≤ g ∧ Below w.heap.size w wr ∧
    Aside ((∀ t (ht : t < l.length), t < lo → l[t].ino < n) ∧ (∀ t (ht : t < l.length), hi ≤ t → n ≤ l[t].ino)))
  case atStart => exact ⟨0, l.length, rfl, rfl, Nat.zero_le _, Nat.le_refl _, by omega, Below.refl _ _, ⟨fun t ht h => by omega, fun t ht h => by omega⟩⟩
  case round =>
    obtain ⟨lo, hi, rfl, rfl, hlh, hin, hg, hbw, I⟩ := hrel
    by_cases hlt : lo < hi
    · obtain ⟨b, o, rfl, hb, hcl⟩ := HA.out (by omega)
      have hmid : (lo + hi) / 2 < l.length := by omega
      obtain ⟨c1, c2, c3, c4, c5, c6⟩ := (hcl _ hmid).below hbw hb
      clear hcl
      generalize hy : l[(lo + hi) / 2] = y at c1 c2 c3 c4 c5 c6
      have Y := Lib.hid hy
      clear hy
      have CM := Lib.hid (cmpI_lt y.ino n)
      go_wp2_with fail
      refine (holdF_any y n _).mono ?_
      rintro e w2 ⟨rfl, b2⟩
      replace hbw := hbw.trans (b2.mono hbw.size)
      by_cases hl1 : y.ino < n
      · have hcm : decide (Lib.compareInt y.ino n < 0) = true := CM.out.trans (decide_eq_true hl1)
        have I2 := Lib.hid (show (∀ t (ht : t < l.length), t < (lo + hi) / 2 + 1 → l[t].ino < n) ∧ (∀ t (ht : t < l.length), hi ≤ t → n ≤ l[t].ino) from ⟨fun t ht h => by
          have := rise_upto HS.out hmid (a := t) (by omega); rw [Y.out] at this; omega, I.out.2⟩)
        clear hl1
        go_wp2
        go_roundg (hi - ((lo + hi) / 2 + 1))
        case measure => omega
        case rel => exact ⟨(lo + hi) / 2 + 1, hi, by rw [show ((lo : Int) + (hi : Int)) / 2 + 1 = (((lo + hi) / 2 + 1 : Nat) : Int) by omega], rfl, by omega, hin, Nat.le_refl _, hbw, I2.out⟩
      · have hcm : decide (Lib.compareInt y.ino n < 0) = false := CM.out.trans (decide_eq_false hl1)
        have I2 := Lib.hid (show (∀ t (ht : t < l.length), t < lo → l[t].ino < n) ∧ (∀ t (ht : t < l.length), (lo + hi) / 2 ≤ t → n ≤ l[t].ino) from ⟨I.out.1, fun t ht h => by
          have := rise_upto HS.out ht (a := (lo + hi) / 2) h; rw [Y.out] at this; omega⟩)
        clear hl1
        go_wp2
        go_roundg ((lo + hi) / 2 - lo)
        case measure => omega
        case rel => exact ⟨lo, (lo + hi) / 2, rfl, by rw [show ((lo : Int) + (hi : Int)) / 2 = (((lo + hi) / 2 : Nat) : Int) by omega], by omega, by omega, Nat.le_refl _, hbw, I2.out⟩
    · obtain rfl : hi = lo := by omega
      have SE := Lib.hid (srchN_end HS.out hin I.out.1 I.out.2)
      by_cases hn : hi < l.length
      · obtain ⟨b, o, rfl, hb, hcl⟩ := HA.out (by omega)
        obtain ⟨c1, c2, c3, c4, c5, c6⟩ := (hcl _ hn).below hbw hb
        clear hcl
        have SH : Hid (hasN l n = (l[hi].ino == n)) := by (show _ = _); rw [SE.out.2, dif_pos hn]
        generalize hy : l[hi] = y at c1 c2 c3 c4 c5 c6 SH
        clear hy
        have CM := Lib.hid (cmpI_eq y.ino n)
        go_wp2_with fail
        refine (holdF_any y n _).mono ?_
        rintro e w2 ⟨rfl, b2⟩
        replace hbw := hbw.trans (b2.mono hbw.size)
        go_wp2
        go_ret2
        exact ⟨hi, by rw [SH.out, ← CM.out]; rfl, SE.out.1, hbw⟩
      · have SH : Hid (hasN l n = false) := by (show _ = _); rw [SE.out.2, dif_neg hn]
        go_wp2
        go_ret2
        exact ⟨hi, by rw [SH.out]; rfl, SE.out.1, hbw⟩


set_option maxHeartbeats 2000000 in
theorem findF_any (mi mb nx n : Int) (l : List Nd) (v : Value) (w : World) (hv : Nds w v l) (hs : riseP l) (hl : l.length ≤ 1000000) :
    Calls Try.prog 54 #[.agg (fsC mi mb nx v), .int .i64 n] w fun e w' => e = .returned (.tuple #[.agg (ndC (getN l n)), .bool (hasN l n)]) ∧ Below w.heap.size w w' := by
  obtain ⟨a, ca, rfl, hc, hm, hea, hna, HA0⟩ := id hv
  unfold maxLen at hm
  clear HA0
  have b0 := Blk.new w 24 (fsC mi mb nx (.slice a l.length ca))
  have b1 := Blk.new (w.alloc (.cells (fsC mi mb nx (.slice a l.length ca)) 24)) 33 (ndC zeroN)
  have b0' := b0.alloc (.cells (ndC zeroN) 33)
  have hB0 : Below w.heap.size w ((w.alloc (.cells (fsC mi mb nx (.slice a l.length ca)) 24)).alloc (.cells (ndC zeroN) 33)) := ((Below.refl _ w).alloc (Nat.le_refl _) _).alloc (by simp) _
  have hv2 := hv.below hB0
  have p3' := b0'.four.1.2.2.2
  clear b0
  go_enter Try.func54, Try.ntmps54
  go_wp2_with fail
  refine (halvesF_any l n _ _ hv2 hs hl).mono ?_
  rintro e w1 ⟨lo, rfl, hS, hb⟩
  simp only [World.size_alloc] at b1
  have hv3 := hv2.below hb
  replace b0' := b0'.next hb
  replace b1 := b1.next hb
  have hB1 := hB0.trans (hb.mono hB0.size)
  have hlt1 : w.heap.size + 2 ≤ w1.heap.size := by have := hb.size; simp at this; omega
  clear hB0 hv2 hb hv p3'
  obtain ⟨⟨p0, p1, p2, p3⟩, _⟩ := b0'.four
  cases hh : hasN l n
  · have HG := Lib.hid (getN_none hh)
    obtain ⟨⟨q0, q1, q2, q3, q4, q5⟩, e0, e1, e2, e3, e4, e5⟩ := b1.six
    obtain ⟨W', hW', hb4, hg4⟩ := b1.put6 zeroN
    have hbl := below_grown hB1 hg4 (Nat.le_refl _) (by omega)
    simp only [zeroN] at q0 q1 q2 q3 q4 q5 hW'
    go_wp2
    obtain ⟨⟨r0, r1, r2, r3, r4, r5⟩, _⟩ := hb4.six
    refine bodyPost_ret (v := .tuple #[.agg (ndC zeroN), .bool false]) (by simp [results, Try.f54, go_sem, r0, r1, r2, r3, r4, r5, zeroN]) rfl ?_
    exact ⟨by rw [HG.out, hh], hbl⟩
  · obtain ⟨hk, hg⟩ := getN_srch hS hh
    have HG := Lib.hid hg
    clear hg hS
    obtain ⟨_, _, hu, _, _, hea3, _, HA0⟩ := id hv3
    simp only [Value.slice.injEq] at hu
    obtain ⟨rfl, _, rfl⟩ := hu
    obtain ⟨b, o, rfl, hbl, hcl⟩ := HA0 (by omega)
    obtain ⟨c0, c1, c2, c3, c4, c5⟩ := hcl _ hk
    obtain ⟨ae, ne, hye, _⟩ := hea3 _ (List.getElem_mem hk)
    clear hcl HA0 hea3
    generalize hy : l[lo] = y at *
    obtain ⟨yi, yk, yl, yd, yp, ye, yn⟩ := y
    dsimp only at hye c0 c1 c2 c3 c4 c5
    subst hye
    obtain ⟨⟨q0, q1, q2, q3, q4, q5⟩, e0, e1, e2, e3, e4, e5⟩ := b1.six
    obtain ⟨W', hW', hb4, hg4⟩ := b1.put6 ⟨yi, yk, yl, yd, yp, .slice ae yn.length ne, yn⟩
    have hbl := below_grown hB1 hg4 (Nat.le_refl _) (by omega)
    simp only [zeroN] at q0 q1 q2 q3 q4 q5
    dsimp only at hW'
    go_wp2
    obtain ⟨⟨r0, r1, r2, r3, r4, r5⟩, _⟩ := hb4.six
    refine bodyPost_ret (v := .tuple #[.agg (ndC ⟨yi, yk, yl, yd, yp, .slice ae yn.length ne, yn⟩), .bool true]) (by simp [results, Try.f54, go_sem, r0, r1, r2, r3, r4, r5]) rfl ?_
    exact ⟨by rw [HG.out, hh], hbl⟩

theorem closed_any (a : Option Addr) (n cap : Nat) (w : World) (hn : n ≤ cap) (hc : cap ≤ maxLen) (h0 : a = none → n = 0 ∧ cap = 0) :
    Calls Try.prog 55 #[.slice a n cap] w fun e w' => e = .returned (.slice a n n) ∧ w' = w := by
  unfold maxLen at hc
  have k0 : (0 : Int) ≤ (n : Int) := by omega
  have k1 : (n : Int) ≤ (cap : Int) := by omega
  go_enter Try.func55, Try.ntmps55
  go_wp2
  all_goals (go_ret; exact ⟨by simp, rfl⟩)

theorem cloneS_any (ns : List (List UInt8)) (v : Value) (w : World) (hv : Strs w v ns) (hl : ns.length ≤ 1000000) :
    Calls Try.prog 56 #[v] w fun e w' => ∃ y, e = .returned y ∧ w'.ownsRow w.heap.size 9 1 y ns.length (strsV ns) ∧ Below w.heap.size w w' := by
  obtain ⟨a, cap, rfl, hm, h1⟩ := hv
  cases a with
  | none =>
    have : ns = [] := by
      cases ns with
      | nil => rfl
      | cons x r => obtain ⟨b, off, e, _⟩ := h1 (by simp); cases e
    subst this
    refine (Try.slices_Clone_string_nil _ _ _).mono ?_
    rintro e w' ⟨rfl, rfl⟩
    exact ⟨_, rfl, World.ownsRow_nil _ _ _ _, Below.refl _ _⟩
  | some ad =>
    by_cases h : 0 < ns.length
    · obtain ⟨b, off, e, hb, hc⟩ := h1 h
      obtain rfl := Option.some.inj e
      refine (Try.slices_Clone_string b off ns.length cap (ns.map fun x => ⟨x.toArray⟩) _ (by simp) (by omega) (fun j hj => ?_)).mono ?_
      · have hj' : j < ns.length := by simpa using hj
        rw [hc j hj']
        simp [List.getD, List.getElem?_eq_getElem hj']
      · rintro e w' ⟨y, rfl, h1, _, h2⟩
        refine ⟨y, rfl, ?_, h2⟩
        rw [List.take_of_length_le (by simp), List.map_map] at h1
        exact h1
    · have : ns = [] := List.eq_nil_of_length_eq_zero (by omega)
      subst this
      refine (Try.slices_Clone_string_zero ad cap _).mono ?_
      rintro e w' ⟨y, rfl, h1, _, h2⟩
      exact ⟨y, rfl, h1, h2⟩
end Go.Proofs.Ytpeghnhaekebdaa

/- The walk as a list of directories that it is in, each with the entries to which it hasn't come yet. No program's function. -/
set_option linter.unusedVariables false
set_option linter.unusedSimpArgs false
namespace Go.Proofs.Ytpeghnhaekebdaa
open Go.RowKit

theorem kids_stop {l : List Nd} {d : Nat} {i : Int} (h : lvN l (d + 1) [i] = []) : ∀ e ∈ (getN l i).ents, lvN l d [e.2] = [] := by
  intro e he
  rw [lv_in] at h
  have e2 : [i].flatMap (kidsN l) = kidsN l i := by simp
  rw [e2] at h
  have hm : e.2 ∈ kidsN l i := List.mem_map.2 ⟨e, he, rfl⟩
  have h1 := lv_perm (l := l) d (List.perm_cons_erase hm)
  rw [h] at h1
  have h2 := h1.nil_eq
  rw [show e.2 :: (kidsN l i).erase e.2 = [e.2] ++ (kidsN l i).erase e.2 from rfl, lv_append] at h2
  exact (List.append_eq_nil_iff.1 h2.symm).1
theorem tree_congr {l : List Nd} {a b : Nat} (es : List Ent) (ns : List (List UInt8)) (h : ∀ e ∈ es, ∀ ns, treeN l a e.2 ns = treeN l b e.2 ns) : es.flatMap (fun e => treeN l a e.2 (ns ++ [e.1])) = es.flatMap (fun e => treeN l b e.2 (ns ++ [e.1])) := by
  induction es with
  | nil => rfl
  | cons e r ih => rw [List.flatMap_cons, List.flatMap_cons, h e (by simp), ih fun x hx => h x (by simp [hx])]
theorem tree_stop {l : List Nd} (d : Nat) : ∀ i ns, lvN l d [i] = [] → treeN l (d + 1) i ns = treeN l d i ns := by
  induction d with
  | zero => intro i ns h; cases h
  | succ d ih =>
    intro i ns h
    have hk := kids_stop h
    show (if hasN l i = true then _ else _) = (if hasN l i = true then _ else _)
    split
    · congr 1
      exact tree_congr _ _ fun e he ns => ih e.2 ns (hk e he)
    · rfl
/-- The walk from an inode, by names. -/
def walkS (l : List Nd) (i : Int) (ns : List (List UInt8)) : List (List (List UInt8) × Int) := treeN l (l.length + 1) i ns
def kidsS (l : List Nd) (ns : List (List UInt8)) (es : List Ent) : List (List (List UInt8) × Int) := es.flatMap (fun e => walkS l e.2 (ns ++ [e.1]))
theorem walkS_eq {l : List Nd} (t : Tree l) {i : Int} (h : hasN l i = true) (ns : List (List UInt8)) : walkS l i ns = (ns, i) :: kidsS l ns (getN l i).ents := by
  unfold walkS kidsS
  show (if hasN l i = true then _ else _) = _
  rw [if_pos h]
  congr 1
  refine tree_congr _ _ fun e he ns => ?_
  exact (tree_stop _ _ _ (kids_stop (lv_end_any t h _ (Nat.lt_succ_self _)) e he)).symm
theorem walkS_no {l : List Nd} {i : Int} (h : hasN l i = false) (ns : List (List UInt8)) : walkS l i ns = [] := by
  unfold walkS
  show (if hasN l i = true then _ else _) = _
  rw [if_neg (by rw [h]; simp)]
theorem kidsS_cons (l : List Nd) (ns : List (List UInt8)) (e : Ent) (r : List Ent) : kidsS l ns (e :: r) = walkS l e.2 (ns ++ [e.1]) ++ kidsS l ns r := by unfold kidsS; rw [List.flatMap_cons]
theorem tree_deep (l : List Nd) (d : Nat) : ∀ i ns, ∀ q ∈ treeN l d i ns, q.1.length < ns.length + d := by
  induction d with
  | zero => intro i ns q hq; cases hq
  | succ d ih =>
    intro i ns q hq
    unfold treeN at hq
    split at hq
    · rcases List.mem_cons.1 hq with rfl | hq
      · show ns.length < _; omega
      · obtain ⟨e, _, he⟩ := List.mem_flatMap.1 hq
        have := ih _ _ q he
        rw [List.length_append, List.length_singleton] at this
        omega
    · cases hq
theorem tree_size {l : List Nd} (hs : ∀ x ∈ l, shortP 300 x.ents) (d : Nat) : ∀ i ns, ∀ q ∈ treeN l d i ns, (tailB q.1).length ≤ (tailB ns).length + d * 301 := by
  induction d with
  | zero => intro i ns q hq; cases hq
  | succ d ih =>
    intro i ns q hq
    unfold treeN at hq
    split at hq
    · rename_i hh
      rcases List.mem_cons.1 hq with rfl | hq
      · show (tailB ns).length ≤ _; omega
      · obtain ⟨e, he0, he⟩ := List.mem_flatMap.1 hq
        have := ih _ _ q he
        have hn := hs _ (get_mem hh).1 e he0
        rw [tailB_snoc, List.length_append, List.length_cons] at this
        omega
    · cases hq
theorem tree_has (l : List Nd) (d : Nat) : ∀ i ns, ∀ q ∈ treeN l d i ns, hasN l q.2 = true := by
  induction d with
  | zero => intro i ns q hq; cases hq
  | succ d ih =>
    intro i ns q hq
    unfold treeN at hq
    split at hq
    · rename_i hh
      rcases List.mem_cons.1 hq with rfl | hq
      · exact hh
      · obtain ⟨e, _, he⟩ := List.mem_flatMap.1 hq
        exact ih _ _ q he
    · cases hq

/-- A directory that the walk is in: its names, the entries to which it hasn't come yet. -/
structure Lv where
  ns : List (List UInt8)
  ev : Value
  es : List Ent
def lvV : List Lv → List Value
  | [] => []
  | x :: r => .int .i64 x.ns.length :: x.ev :: lvV r
theorem lvV_len (l : List Lv) : (lvV l).length = l.length * 2 := by
  induction l with
  | nil => rfl
  | cons e l ih => simp [lvV, ih]; omega
theorem lvV_append (a b : List Lv) : lvV (a ++ b) = lvV a ++ lvV b := by
  induction a with
  | nil => rfl
  | cons e l ih => simp [lvV, ih]
def remS (l : List Nd) (stk : List Lv) : List (List (List UInt8) × Int) := stk.reverse.flatMap (fun x => kidsS l x.ns x.es)
theorem remS_push (l : List Nd) (stk : List Lv) (x : Lv) : remS l (stk ++ [x]) = kidsS l x.ns x.es ++ remS l stk := by unfold remS; simp
theorem remS_nil (l : List Nd) : remS l [] = [] := rfl
end Go.Proofs.Ytpeghnhaekebdaa

/- Small laws for loops over an iterator whose body writes a variable's block: blocks of cells, what a call that only makes memory keeps, an append as one step of a region inside a fence. -/
set_option linter.unusedVariables false
set_option linter.unusedSimpArgs false
namespace Go.Proofs.Ytpeghnhaekebdaa
open Go.RowKit

theorem Blk.not_row {W : World} {B : Nat} {t e : TypeId} {cs : Array Value} (h : Blk W B t cs) (hte : t ≠ e) {base size k : Nat} {v : Value} {xs : List Value} (hr : W.ownsRow base e size v k xs) : some B ≠ v.ownBlock := by
  rcases hr.2 with ⟨rfl, _⟩ | ⟨g, cap, cur, rfl, _, hgb, _⟩
  · simp [Value.ownBlock]
  · intro e'
    obtain rfl : B = g := by simpa [Value.ownBlock] using e'
    have := (show W.heap[B]? = _ from h).symm.trans hgb
    simp at this
    exact hte this.2

/-- A block whose cells hold what they hold, and a slice in it that owns its row: cells alone are spoken of. -/
theorem blkRow_own {β : Type} (n₀ B : Nat) (t e : TypeId) (size : Nat) (k : β → Nat) (f : β → List Value) (cs : Value → Array Value) : Own (fun s W => ∃ v, Blk W B t (cs v) ∧ W.ownsRow n₀ e size v (k s) (f s)) := by
  rintro s X Y row ⟨v, hv, hr⟩ hg hrow
  refine ⟨v, hv.kept hg (fun e' => ?_), hr.kept hg ?_⟩
  · obtain ⟨o, ho, hc⟩ := hrow B e'.symm
    rw [show X.heap[B]? = _ from hv] at ho; cases ho; cases hc
  · rcases hr.2 with ⟨rfl, _⟩ | ⟨g, cap, cur, rfl, _, hgb, _⟩
    · exact .inl rfl
    · refine .inr fun e' => ?_
      obtain ⟨o, ho, hc⟩ := hrow g (by simpa [Value.ownBlock] using e'.symm)
      rw [hgb] at ho; cases ho; cases hc
theorem blk_own {β : Type} (B : Nat) (t : TypeId) (cs : β → Array Value) : Own (fun s W => Blk W B t (cs s)) := by
  intro s X Y row hv hg hrow
  refine hv.kept hg (fun e' => ?_)
  obtain ⟨o, ho, hc⟩ := hrow B e'.symm
  rw [show X.heap[B]? = _ from hv] at ho; cases ho; cases hc

/-- A call that only makes memory keeps all. -/
theorem keeps_below {W W' : World} (B : Nat) (h : Below W.heap.size W W') : KeepsFrom B W W' :=
  ⟨h.size, fun k o _ hk _ => by rw [h.block k (Array.getElem?_eq_some_iff.1 hk).1]; exact hk⟩

/-- 'x.f = append(x.f, g(..))', g a call that only makes memory: all that the walk owes. -/
theorem Blk.appended {W W2 w1 : World} {n₀ B i : Nat} {t e : TypeId} {size : Nat} {cs : Array Value} {v v' : Value} {k m : Nat} {xs ys : List Value} {tmp : Obj}
    (hv : Blk W B t cs) (hte : t ≠ e) (hrow : W.ownsRow n₀ e size v k xs) (hn₀ : n₀ ≤ W.heap.size) (hB : n₀ ≤ B) (h2 : Below W.heap.size W W2)
    (hown' : w1.ownsRow n₀ e size v' m ys) (hgrow : (W2.alloc tmp).grownBy w1 v.ownBlock) :
    Blk w1 B t cs ∧ Blk (w1.setCell ⟨B, i, none⟩ v') B t (cs.setIfInBounds i v') ∧ (w1.setCell ⟨B, i, none⟩ v').ownsRow n₀ e size v' m ys ∧ KeepsOthers W (w1.setCell ⟨B, i, none⟩ v') ∧ Below n₀ W (w1.setCell ⟨B, i, none⟩ v') := by
  have hrow2 : W2.ownsRow n₀ e size v k xs := own_keep hrow h2
  have hv2 : Blk W2 B t cs := hv.next h2
  have hv1 : Blk w1 B t cs := (hv2.alloc tmp).kept hgrow (hv2.not_row hte hrow2)
  refine ⟨hv1, hv1.set i v', hown'.kept (grownBy_set w1 B i v') (.inr (hv1.not_row hte hown').symm), ?_, ?_⟩
  · refine ((KeepsOthers.trans ⟨h2.size, fun j o hj _ => by rw [h2.block j (Array.getElem?_eq_some_iff.1 hj).1]; exact hj⟩ (KeepsOthers.alloc W2 tmp)).trans (KeepsOthers.of_grownBy hgrow fun j o ej hj => ?_)).trans (KeepsOthers.setCell _ _ _)
    rcases (hrow2.alloc tmp).2 with ⟨rfl, _⟩ | ⟨g, cap, cur, rfl, _, hgb, _⟩
    · simp [Value.ownBlock] at ej
    · obtain rfl : g = j := by simpa [Value.ownBlock] using ej
      rw [hgb] at hj; cases hj; rfl
  · have hs2 := h2.size
    refine (((h2.mono hn₀).alloc (by omega) tmp).grown hgrow (by simp; omega) fun j ej => ?_).setCell (p := ⟨B, i, none⟩) hB v'
    rcases hrow2.2 with ⟨rfl, _⟩ | ⟨g, cap, cur, rfl, hb, _, _⟩
    · simp [Value.ownBlock] at ej
    · obtain rfl : g = j := by simpa [Value.ownBlock] using ej
      exact hb

theorem stepIn_append_own {F : Fence} {n : Nat} {P : Program} {ops : Array Oper} {o : Oper} {a : Act} {w : World} {K : Act → World → Prop} {Q : Exit → Act → World → Prop} {E : Prop}
    (hgd : o.guard = none) (s x : Operand) (t e : TypeId) (ho : o.op = .call { callee := .builtin .append, args := #[s, x], argTypes := #[t, t] })
    {i : TypeInfo} {z : Value} {size bytes : Nat} (ht : P.underlying t = some (.slice e)) (hi : P.info? e = some i) (hz : i.zero = some z)
    (hsize : i.size = size) (hby : i.bytes = bytes) (hzs : z.cells.size = size) (hsz : 0 < size)
    (base : Nat) {v : Value} {k : Nat} {xs : List Value} (ad : Addr) (m : Nat) (news : List Value) (hs : a.eval s = v) (hx : a.eval x = .slice (some ad) m m) (hown : w.ownsRow base e size v k xs)
    (hm : news.length = m * size) (hnews : ∀ j u, news[j]? = some u → w.cell? (ad.add j) = some u) (h1 : ∀ u ∈ news, u.oneCell' = true) (b1 : k + m ≤ maxLen) (b2 : (k + m) * bytes ≤ 140737488355328) (b3 : base ≤ w.heap.size)
    (hK : ∀ v' w', w'.ownsRow base e size v' (k + m) (xs ++ news) → w.grownBy w' v.ownBlock → K (a.put o.dst v') w') :
    if Region.wanted o (yielded ops a.tmps) = true then Oper.wpIn F n P o a w K Q else E := by
  rw [if_pos (by simp [Region.wanted, hgd])]
  obtain ⟨v', w', hrun, r1, r2, _⟩ := run_append_own (P := P) w base t o.type e i z size bytes ht hi hz hsize hby hzs hsz v k xs hown ad m m news hm hnews h1 b1 b2 b3
  unfold Oper.wpIn
  refine ⟨?_, ?_⟩
  · simp [Oper.about, ho, resolve, Target.leads, Sem.run_pure]
  · rw [Oper.semAt_plain F _ _ (by rw [ho]; intro c hc'; cases hc')]
    simp [execOp, ho, resolve, invoke, builtin, hs, hx, hrun, Result.andThen]
    exact hK v' w' r1 r2
end Go.Proofs.Ytpeghnhaekebdaa

/- A range over a function whose iterator keeps state of its own in cells, and hands out slices of it: its contract names the blocks that are its own ('m'), what each element reads as in the world in which it is handed out ('Rd'), and the caller's invariant abides whatever becomes of those blocks. And a region that draws, in a round. -/
set_option linter.unusedVariables false
set_option linter.unusedSimpArgs false
namespace Go.Proofs.Ytpeghnhaekebdaa
open Go.RowKit

/-- What may become of memory while the iterator goes on: its own blocks are turned, new ones made. -/
structure Turned (m : Nat → Prop) (A B : World) : Prop where
  os : B.os = A.os
  tape : B.tape = A.tape
  output : B.output = A.output
  size : A.heap.size ≤ B.heap.size
  block : ∀ k, k < A.heap.size → ¬ m k → B.heap[k]? = A.heap[k]?
theorem Turned.refl (m : Nat → Prop) (A : World) : Turned m A A := ⟨rfl, rfl, rfl, Nat.le_refl _, fun _ _ _ => rfl⟩
theorem Turned.trans {m m' : Nat → Prop} {A B C : World} (h : Turned m A B) (k : Turned m' B C) (hm : ∀ r, m' r → m r ∨ A.heap.size ≤ r) : Turned m A C :=
  ⟨k.os.trans h.os, k.tape.trans h.tape, k.output.trans h.output, Nat.le_trans h.size k.size, fun r hr hn => (k.block r (Nat.lt_of_lt_of_le hr h.size) (fun e => (hm r e).elim hn (by omega))).trans (h.block r hr hn)⟩
theorem Turned.of_below {m : Nat → Prop} {A B : World} (h : Below A.heap.size A B) : Turned m A B := ⟨h.os, h.tape, h.output, h.size, fun k hk _ => h.block k hk⟩
theorem Turned.of_grown {m : Nat → Prop} {A B : World} {row : Option Nat} (h : A.grownBy B row) (hr : ∀ r, row = some r → m r ∨ A.heap.size ≤ r) : Turned m A B :=
  ⟨h.os, h.tape, h.output, h.size, fun k hk hn => h.block k hk (fun e => (hr k e.symm).elim hn (by omega))⟩
theorem Turned.below {m : Nat → Prop} {A B : World} {n : Nat} (h : Turned m A B) (hn : n ≤ A.heap.size) (hm : ∀ r, m r → n ≤ r) : Below n A B :=
  ⟨h.os, h.tape, h.output, h.size, fun k hk => h.block k (by omega) (fun e => by have := hm k e; omega)⟩
theorem Turned.blk {m : Nat → Prop} {A B : World} (h : Turned m A B) {b : Nat} {t : TypeId} {cs : Array Value} (hb : Blk A b t cs) (hn : ¬ m b) : Blk B b t cs := (h.block b hb.lt hn).trans hb
theorem row_same {A B : World} {base : Nat} {e : TypeId} {size : Nat} {v : Value} {n : Nat} {xs : List Value} (h : A.ownsRow base e size v n xs) (hs : ∀ g, v.ownBlock = some g → B.heap[g]? = A.heap[g]?) : B.ownsRow base e size v n xs := by
  refine ⟨h.1, ?_⟩
  rcases h.2 with hn | ⟨g, cap, cur, rfl, hb, hgg, rest⟩
  · exact .inl hn
  · exact .inr ⟨g, cap, cur, rfl, hb, (hs g rfl).trans hgg, rest⟩
theorem Turned.row {m : Nat → Prop} {A B : World} (h : Turned m A B) {base : Nat} {e : TypeId} {size : Nat} {v : Value} {n : Nat} {xs : List Value} (hb : A.ownsRow base e size v n xs) (hn : ∀ g, v.ownBlock = some g → ¬ m g) : B.ownsRow base e size v n xs :=
  row_same hb fun g hg => h.block g (hb.lt g hg).2 (hn g hg)

/-- The caller's invariant abides it. -/
def AbidesM {β : Type} (J : (Nat → Prop) → β → World → Prop) : Prop :=
  ∀ m m' s A B, J m s A → Turned m A B → (∀ r, m' r → m r ∨ A.heap.size ≤ r) → J m' s B
/-- It abides the loop's own book-keeping: the two blocks at D, D + 1, which are no cells. -/
def Book {β : Type} (D : Nat) (I : (Nat → Prop) → β → World → Prop) : Prop :=
  ∀ m s A B row, I m s A → A.grownBy B row → (∀ r, row = some r → (r = D ∨ r = D + 1) ∧ ∃ o : Obj, A.heap[r]? = some o ∧ o.isCells = false) → I m s B
theorem Book.alloc {β : Type} {D : Nat} {I : (Nat → Prop) → β → World → Prop} (h : Book D I) {m : Nat → Prop} {s : β} {W : World} (o : Obj) (hs : I m s W) : I m s (W.alloc o) :=
  h m s W _ none hs (World.grownBy_alloc W o none) (fun r e => by cases e)
theorem Book.putObj {β : Type} {D : Nat} {I : (Nat → Prop) → β → World → Prop} (h : Book D I) {m : Nat → Prop} {s : β} {W : World} {l : Nat} {o : Obj} (o' : Obj) (hs : I m s W) (hD : l = D ∨ l = D + 1) (hl : W.heap[l]? = some o) (ho : o.isCells = false) : I m s (W.putObj l o') :=
  h m s W _ (some l) hs (grownBy_putObj' W l o') (fun r e => by cases e; exact ⟨hD, o, hl, ho⟩)

/-- What a round keeps: all that lay below n₀, and all that is the iterator's. -/
structure KeptM (n₀ : Nat) (m : Nat → Prop) (W W' : World) : Prop where
  below : Below n₀ W W'
  mine : ∀ k, m k → W'.heap[k]? = W.heap[k]?
theorem KeptM.trans {n₀ : Nat} {m : Nat → Prop} {A B C : World} (h : KeptM n₀ m A B) (k : KeptM n₀ m B C) : KeptM n₀ m A C := ⟨h.below.trans k.below, fun r hr => (k.mine r hr).trans (h.mine r hr)⟩
theorem KeptM.refl (n₀ : Nat) (m : Nat → Prop) (W : World) : KeptM n₀ m W W := ⟨Below.refl _ _, fun _ _ => rfl⟩
theorem KeptM.of_below {n₀ : Nat} {m : Nat → Prop} {A B : World} (h : Below A.heap.size A B) (hn : n₀ ≤ A.heap.size) (hm : ∀ k, m k → k < A.heap.size) : KeptM n₀ m A B := ⟨h.mono hn, fun k hk => h.block k (hm k hk)⟩
theorem KeptM.of_grown {n₀ : Nat} {m : Nat → Prop} {A B : World} {row : Option Nat} (h : A.grownBy B row) (hm : ∀ k, m k → k < A.heap.size) (hr : ∀ r, row = some r → n₀ ≤ r ∧ ¬ m r) (hn : n₀ ≤ A.heap.size) : KeptM n₀ m A B :=
  ⟨(Below.refl n₀ A).grown h hn (fun k e => (hr k e).1), fun k hk => h.block k (hm k hk) (fun e => (hr k e.symm).2 hk)⟩
theorem KeptM.putObj {n₀ : Nat} {m : Nat → Prop} {W : World} {l : Nat} (o' : Obj) (h : n₀ ≤ l) (hn : ¬ m l) : KeptM n₀ m W (W.putObj l o') := by
  have hg := grownBy_putObj' W l o'
  exact ⟨⟨hg.os, hg.tape, hg.output, hg.size, fun k hk => World.putObj_heap_other (by omega)⟩, fun k hk => World.putObj_heap_other (fun e => hn (by rw [← e]; exact hk))⟩

def SeqM {α : Type} (F : Fence) (n : Nat) (P : Program) (g : Nat) (lb : Array Value) (encs : α → Array Value) (n₀ : Nat) (m₀ : Nat → Prop) (Rd : α → World → Prop) (S Sp : List α → Prop) (N : Nat) (w : World) : Prop :=
  ∀ (l : Nat) (J Jx : (Nat → Prop) → List α → World → Prop) (W : World), Below w.heap.size w W → AbidesM J → AbidesM Jx →
    (∀ m pre x W1, J m pre W1 → (∀ k, m k → k < W1.heap.size) → Rd x W1 → pre.length < N → YieldAt F (n - 1) P l (encs x) W1 fun e W' =>
      ∃ b : Bool, e = .returned (.bool b) ∧ KeptM n₀ m W1 W' ∧ (b = true → J m (pre ++ [x]) W') ∧ (b = false → Jx m (pre ++ [x]) W')) →
    J m₀ [] W →
    CallsIn F n P g (#[.func (.yield l) #[] #[]] ++ lb) W fun e W' => (∃ v, e = .returned v) ∧ ((∃ m xs, S xs ∧ J m xs W') ∨ (∃ m pre, Sp pre ∧ Jx m pre W'))

/-- How the body of a round may be left. -/
def postM {α : Type} (D : Nat) (n₀ : Nat) (m : Nat → Prop) (I : (Nat → Prop) → List α → World → Prop) (Ix : Code → (Nat → Prop) → List α → World → Prop) (xs : List α) (W : World) : Exit → Act → World → Prop
  | .normal, _, W' => (W'.heap[D]? = W.heap[D]? ∧ W'.heap[D + 1]? = W.heap[D + 1]?) ∧ KeptM n₀ m W W' ∧ I m xs W'
  | .ret, _, W' => (W'.heap[D]? = W.heap[D]? ∧ W'.heap[D + 1]? = W.heap[D + 1]?) ∧ KeptM n₀ m W W' ∧ Ix .ret m xs W'
  | .exit id, _, W' => (W'.heap[D]? = W.heap[D]? ∧ W'.heap[D + 1]? = W.heap[D + 1]?) ∧ KeptM n₀ m W W' ∧ Ix (.exit id) m xs W'
  | .goto t, _, W' => (W'.heap[D]? = W.heap[D]? ∧ W'.heap[D + 1]? = W.heap[D + 1]?) ∧ KeptM n₀ m W W' ∧ Ix (.goto t) m xs W'
  | .panic _, _, _ => False
  | .outgrown, _, _ => False

set_option maxHeartbeats 1000000 in
theorem wpIn_rangeFunc_mine {F : Fence} {n : Nat} {P : Program} {α : Type} {g : Operand} {ps : Array Tmp} {assign body : Code} {Q : Exit → Act → World → Prop} {a : Act} {w : World}
    (hro : F.round = none) (h1 : 1 ≤ n) {gf : Nat} {lb : Array Value} (hg : a.eval g = .func (.func gf) #[] lb) (hFg : F.fn gf) (eg : ∀ args w, (callFunc gf args).run P w = .ok (.enter gf args) w)
    {encs : α → Array Value} {n₀ : Nat} {m₀ : Nat → Prop} {Rd : α → World → Prop} {S Sp : List α → Prop} {N : Nat} {w0 : World} (hseq : SeqM F (n - 1) P gf lb encs n₀ m₀ Rd S Sp N w0)
    (hn₀ : n₀ ≤ w.heap.size) (hm₀ : ∀ k, m₀ k → k < w.heap.size) (hb0 : Below w0.heap.size w0 w) (hps : ∀ x, (encs x).size = ps.size)
    (I : (Nat → Prop) → List α → World → Prop) (Ix : Code → (Nat → Prop) → List α → World → Prop) (hIm : AbidesM I) (hIxm : ∀ c, AbidesM (Ix c)) (hI : Book w.heap.size I) (hIx : ∀ c, Book w.heap.size (Ix c)) (h0 : I m₀ [] w)
    (Ax : α → Act → World → Prop) (hAx : ∀ x a', OwnFrom w.heap.size (fun (_ : Unit) W => Ax x a' W))
    (hassign : ∀ (l : Nat) (m : Nat → Prop) (pre : List α) (x : α) (W : World) (K : Act → World → Prop), l = w.heap.size + 1 → I m pre W → Rd x W → (∀ k, m k → k < W.heap.size) → w.heap.size + 1 < W.heap.size →
      (∀ a' W', KeepsFrom w.heap.size W W' → KeptM n₀ m W W' → I m pre W' → Ax x a' W' → K a' W') →
      assign.wpIn (F.inRound l) (n - 1 - 1) P (Exit.then K (fun _ _ _ => False)) { tmps := (ps.zip (encs x)).foldl (fun t (p, v) => t.setIfInBounds p v) a.tmps, defers := [] } W)
    (hbody : ∀ (l : Nat) (m : Nat → Prop) (pre : List α) (x : α) (a' : Act) (W : World), l = w.heap.size + 1 → (∃ r, W.heap[w.heap.size + 1]? = some (.loop r)) → W.heap[w.heap.size]? = some (.deferred (some [])) → ¬ m w.heap.size → ¬ m (w.heap.size + 1) →
      (∀ k, m k → k < W.heap.size) → I m pre W → Ax x a' W → pre.length < N → body.wpIn (F.inRound l) (n - 1 - 1) P (postM w.heap.size n₀ m I Ix (pre ++ [x]) W) a' W)
    (hdone : ∀ (m : Nat → Prop) (xs : List α) (W : World), S xs → I m xs W → ¬ m w.heap.size → ¬ m (w.heap.size + 1) → W.heap[w.heap.size]? = some (.deferred (some [])) → Q .normal { a with defers := { target := .collected w.heap.size, args := #[] } :: a.defers } W)
    (hstop : ∀ (c : Code) (m : Nat → Prop) (pre : List α) (W : World), Sp pre → Ix c m pre W → ¬ m w.heap.size → ¬ m (w.heap.size + 1) → W.heap[w.heap.size]? = some (.deferred (some [])) → c.wpIn F n P Q { a with defers := { target := .collected w.heap.size, args := #[] } :: a.defers } W) :
    (Code.rangeFunc g ps assign body).wpIn F n P Q a w := by
  refine wpIn_rangeFunc ?_
  intro fn hfn
  rw [hro]
  obtain ⟨rec, hrec⟩ : ∃ rec : LoopState → Option Code → Loop, rec = fun st pe => { state := st, pending := pe, fn, tmps := a.tmps, params := ps, assign, body, defers := w.heap.size } := ⟨_, rfl⟩
  obtain ⟨W1, hW1⟩ : ∃ W1, (w.alloc (.deferred (some []))).alloc (.loop (rec .ready none)) = W1 := ⟨_, rfl⟩
  have hL1 : W1.heap[w.heap.size + 1]? = some (.loop (rec .ready none)) := by
    rw [← hW1]; have := World.alloc_heap_new (w.alloc (.deferred (some []))) (.loop (rec .ready none)); rwa [World.size_alloc] at this
  have hK1 : W1.heap[w.heap.size]? = some (.deferred (some [])) := by
    rw [← hW1]; exact (Below.heap_alloc _ _ _ (by simp)).trans (World.alloc_heap_new w _)
  have hI1 : I m₀ [] W1 := by rw [← hW1]; exact hI.alloc _ (hI.alloc _ h0)
  have hb1 : Below w0.heap.size w0 W1 := by
    rw [← hW1]; exact hb0.trans ((((Below.refl _ w).alloc (Nat.le_refl _) _).alloc (by simp) _).mono hb0.size)
  refine ⟨w.heap.size + 1, [{ target := .collected w.heap.size, args := #[] }], W1, { target := .fn (.func gf) lb, args := #[.func (.yield (w.heap.size + 1)) #[] #[]] }, W1, gf,
    #[.func (.yield (w.heap.size + 1)) #[] #[]] ++ lb, W1, ?_, ?_, ?_, ?_, fun _ => h1, ?_⟩
  · rw [← hW1, hrec]; exact run_enterLoop_outer _ _ _ _ _
  · simp only [resolve, hg]
    simp [go_sem]
  · intro f' hf'; simp [Target.leads] at hf'; subst hf'; exact hFg
  · simp [invoke, go_sem, eg]
  · have hlt1 : ∀ {A : World} {L : Loop}, A.heap[w.heap.size + 1]? = some (.loop L) → w.heap.size + 1 < A.heap.size := fun h => (Array.getElem?_eq_some_iff.1 h).1
    refine (hseq (w.heap.size + 1)
      (fun m pre W => I m pre W ∧ W.heap[w.heap.size + 1]? = some (.loop (rec .ready none)) ∧ W.heap[w.heap.size]? = some (.deferred (some [])) ∧ ¬ m w.heap.size ∧ ¬ m (w.heap.size + 1))
      (fun m pre W => ∃ c, Ix c m pre W ∧ W.heap[w.heap.size + 1]? = some (.loop (rec .done (some c))) ∧ W.heap[w.heap.size]? = some (.deferred (some [])) ∧ ¬ m w.heap.size ∧ ¬ m (w.heap.size + 1))
      W1 hb1
      (fun m m' s A B hs hg' hr => ⟨hIm m m' s A B hs.1 hg' hr, (hg'.block _ (hlt1 hs.2.1) hs.2.2.2.2).trans hs.2.1, (hg'.block _ (by have := hlt1 hs.2.1; omega) hs.2.2.2.1).trans hs.2.2.1,
        fun e => (hr _ e).elim hs.2.2.2.1 (by have := hlt1 hs.2.1; omega), fun e => (hr _ e).elim hs.2.2.2.2 (by have := hlt1 hs.2.1; omega)⟩)
      (fun m m' s A B hs hg' hr => by
        obtain ⟨c, hc, hl, hk, q1, q2⟩ := hs
        have := hlt1 hl
        exact ⟨c, hIxm c m m' s A B hc hg' hr, (hg'.block _ (hlt1 hl) q2).trans hl, (hg'.block _ (by omega) q1).trans hk, fun e => (hr _ e).elim q1 (by omega), fun e => (hr _ e).elim q2 (by omega)⟩)
      ?_ ⟨hI1, hL1, hK1, fun e => by have := hm₀ _ e; omega, fun e => by have := hm₀ _ e; omega⟩).mono ?_
    · -- ONE ROUND
      rintro m pre x W ⟨hi, hl, hk, q1, q2⟩ hms hrd hlen
      have hlt : w.heap.size + 1 < W.heap.size := (Array.getElem?_eq_some_iff.1 hl).1
      have hy := run_yield (P := P) (args := encs x) hl (by rw [hrec]; exact hps x)
      rw [hrec] at hy
      refine ⟨fn, _, assign, body, hy, roundIn_of_wpIn hfn (hassign _ m pre x W _ rfl hi hrd hms hlt ?_)⟩
      clear hy
      intro a' Wa hkfa hkpa hia hax
      replace hl := hkfa.same _ _ (by omega) hl rfl
      replace hk := hkfa.same _ _ (Nat.le_refl _) hk rfl
      replace hlt : w.heap.size + 1 < Wa.heap.size := (Array.getElem?_eq_some_iff.1 hl).1
      have hmsa : ∀ k, m k → k < Wa.heap.size := fun k hk' => Nat.lt_of_lt_of_le (hms k hk') hkfa.size
      refine ⟨_, run_beginRound hl (by rw [hrec]), ?_⟩
      have hl2 : (Wa.putObj (w.heap.size + 1) (.loop { rec .ready none with state := .busy })).heap[w.heap.size + 1]? = some (.loop { rec .ready none with state := .busy }) := World.putObj_heap_same hlt
      have hk2 : (Wa.putObj (w.heap.size + 1) (.loop { rec .ready none with state := .busy })).heap[w.heap.size]? = some (.deferred (some [])) := (World.putObj_heap_other (by omega)).trans hk
      have hw2 : KeptM n₀ m Wa (Wa.putObj (w.heap.size + 1) (.loop { rec .ready none with state := .busy })) := KeptM.putObj _ (by omega) q2
      refine wpIn_mono (hbody _ m pre x a' _ rfl ⟨_, hl2⟩ hk2 q1 q2 (fun k hk' => Nat.lt_of_lt_of_le (hmsa k hk') (grownBy_putObj' Wa (w.heap.size + 1) (.loop { rec .ready none with state := .busy })).size) (hI.putObj _ hia (.inr rfl) hl rfl) ((hAx x a').putObj (s := ()) _ hax (by omega) hl rfl) hlen) ?_
      have fin : ∀ (jump : Option Code) (W3 : World), (W3.heap[w.heap.size]? = (Wa.putObj (w.heap.size + 1) (.loop { rec .ready none with state := .busy })).heap[w.heap.size]? ∧ W3.heap[w.heap.size + 1]? = (Wa.putObj (w.heap.size + 1) (.loop { rec .ready none with state := .busy })).heap[w.heap.size + 1]?) →
          (Instr.endRound (w.heap.size + 1) jump).run P W3 = .ok (.bool jump.isNone) (W3.putObj (w.heap.size + 1) (.loop (rec (if jump.isNone then .ready else .done) jump))) ∧
          W3.heap[w.heap.size + 1]? = some (.loop { rec .ready none with state := .busy }) ∧
          (W3.putObj (w.heap.size + 1) (.loop (rec (if jump.isNone then .ready else .done) jump))).heap[w.heap.size + 1]? = some (.loop (rec (if jump.isNone then .ready else .done) jump)) ∧
          (W3.putObj (w.heap.size + 1) (.loop (rec (if jump.isNone then .ready else .done) jump))).heap[w.heap.size]? = some (.deferred (some [])) := fun jump W3 hk3 => by
        have hl3 := hk3.2.trans hl2
        have := run_endRound (P := P) jump hl3
        rw [hrec] at this ⊢
        exact ⟨this, by rw [hrec] at hl3; exact hl3, World.putObj_heap_same (Array.getElem?_eq_some_iff.1 hl3).1, (World.putObj_heap_other (by omega)).trans (hk3.1.trans hk2)⟩
      rintro e a3 W3 hp
      cases e with
      | normal =>
        obtain ⟨hk3, hkp3, hi3⟩ := hp
        obtain ⟨hr, hl3, hl4, hk4⟩ := fin none W3 hk3
        exact ⟨_, _, hr, true, rfl, hkpa.trans ((hw2.trans hkp3).trans (KeptM.putObj _ (by omega) q2)), fun _ => ⟨hI.putObj _ hi3 (.inr rfl) hl3 rfl, hl4, hk4, q1, q2⟩, fun h => by cases h⟩
      | ret =>
        obtain ⟨hk3, hkp3, hi3⟩ := hp
        obtain ⟨hr, hl3, hl4, hk4⟩ := fin (some .ret) W3 hk3
        exact ⟨_, _, hr, false, rfl, hkpa.trans ((hw2.trans hkp3).trans (KeptM.putObj _ (by omega) q2)), (fun h => by cases h), fun _ => ⟨.ret, (hIx _).putObj _ hi3 (.inr rfl) hl3 rfl, hl4, hk4, q1, q2⟩⟩
      | exit id =>
        obtain ⟨hk3, hkp3, hi3⟩ := hp
        obtain ⟨hr, hl3, hl4, hk4⟩ := fin (some (.exit id)) W3 hk3
        exact ⟨_, _, hr, false, rfl, hkpa.trans ((hw2.trans hkp3).trans (KeptM.putObj _ (by omega) q2)), (fun h => by cases h), fun _ => ⟨.exit id, (hIx _).putObj _ hi3 (.inr rfl) hl3 rfl, hl4, hk4, q1, q2⟩⟩
      | goto t =>
        obtain ⟨hk3, hkp3, hi3⟩ := hp
        obtain ⟨hr, hl3, hl4, hk4⟩ := fin (some (.goto t)) W3 hk3
        exact ⟨_, _, hr, false, rfl, hkpa.trans ((hw2.trans hkp3).trans (KeptM.putObj _ (by omega) q2)), (fun h => by cases h), fun _ => ⟨.goto t, (hIx _).putObj _ hi3 (.inr rfl) hl3 rfl, hl4, hk4, q1, q2⟩⟩
      | panic ch => exact hp.elim
      | outgrown => exact hp.elim
    · -- BEHIND THE ITERATOR
      rintro e W2 ⟨⟨v, rfl⟩, (⟨m, xs, hS, hi, hl, hk, q1, q2⟩ | ⟨m, pre, hSp, c, hi, hl, hk, q1, q2⟩)⟩
      · exact ⟨none, _, by have := run_endLoop (P := P) hl (by rw [hrec]; simp); rw [hrec] at this; exact this, hdone m xs _ hS (hI.putObj _ hi (.inr rfl) hl rfl) q1 q2 ((World.putObj_heap_other (by omega)).trans hk)⟩
      · exact ⟨some c, _, by have := run_endLoop (P := P) hl (by rw [hrec]; simp); rw [hrec] at this; exact this, hstop c m pre _ hSp ((hIx c).putObj _ hi (.inr rfl) hl rfl) q1 q2 ((World.putObj_heap_other (by omega)).trans hk)⟩

/-! ### A region that draws, in a round -/
section
variable {P : Program} {ops : Array Oper} {Q : Exit → Act → World → Prop} {md : Region.Mode} {S : World → Prop} {n l : Nat}
theorem oper_round {o : Oper} {a : Act} {w : World} {K : Act → World → Prop} (hnd : ∀ c, o.op ≠ .defer c) (h : o.wp P a w K Q) : o.wpIn (Fence.wide.inRound l) n P a w K Q := by
  refine ⟨fun _ _ => trivial, ?_⟩
  rw [Oper.semAt_plain (Fence.wide.inRound l) _ _ hnd]
  unfold Oper.wp at h
  generalize (execOp a.eval o).run P w = r at *
  cases r with
  | ok x w' =>
    cases x <;> simp only [Oper.upon, Oper.uponIn] at h ⊢ <;> first
      | exact h
      | exact ⟨fun h => by simp [Fence.wide] at h, callsIn_wide.2 h⟩
      | exact ⟨fun h => by simp [Fence.wide] at h, fun c cs _ => let ⟨v, w', r, s⟩ := h c cs; ⟨v, w', r, (stepsIn_wide.2 s)⟩⟩
  | halt x w' => cases x <;> simp only [Oper.upon, Oper.uponIn] at h ⊢ <;> exact h
end

/-- A block with labels that no goto leads to, inside a fence. -/
theorem wpIn_scope {F : Fence} {n : Nat} {P : Program} {Q : Exit → Act → World → Prop} {a : Act} {w : World} {c : Code} (hro : F.round = none) (hQ : ∀ l a w, ¬ Q (.goto l) a w) (h : c.wpIn F n P Q a w) : (Code.scope c).wpIn F n P Q a w := by
  intro b k cs hro' hb hr
  have hbn : b.roundOf = none := hro'.trans hro
  have h0 : (lone (b.atR a (.code (.scope c) :: k)) cs w).fenced P F := fenced_calm hb hr rfl
  have hs : step P (lone (b.atR a (.code (.scope c) :: k)) cs w) = .next (lone (b.atR a (.code c :: .inScope c :: k)) cs w) := by
    rw [Frame.atR_of_none hbn, Frame.atR_of_none hbn]; exact step_scope
  obtain ⟨e, a₁, w₁, hq, harr⟩ := h b (.inScope c :: k) cs hro' hb hr
  have hin : step P (lone (b.atR a₁ (.inScope c :: k)) cs w₁) = .next (lone (b.atR a₁ k) cs w₁) := by
    rw [Frame.atR_of_none hbn, Frame.atR_of_none hbn]; exact step_inScope
  cases e with
  | normal => exact ⟨.normal, a₁, w₁, hq, .head h0 hs (StepsIn.trans harr (.one (fenced_calm (fr := b.atR a₁ (.inScope c :: k)) hb hr rfl) hin))⟩
  | exit id => exact ⟨.exit id, a₁, w₁, hq, fun k' hk => .head h0 hs (harr.1 k' (by simp [exitTo, hk])), fun hr' => by rw [hbn] at hr'; cases hr'⟩
  | goto l => exact (hQ _ _ _ hq).elim
  | ret => exact ⟨_, a₁, w₁, hq, .of_steps (.one h0 hs) harr⟩
  | panic ch => exact ⟨_, a₁, w₁, hq, .of_steps (.one h0 hs) harr⟩
  | outgrown => exact ⟨_, a₁, w₁, hq, .of_steps (.one h0 hs) harr⟩
end Go.Proofs.Ytpeghnhaekebdaa
