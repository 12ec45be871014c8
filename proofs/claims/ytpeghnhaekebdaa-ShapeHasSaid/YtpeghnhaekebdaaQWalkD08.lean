import Derived.Test.YtpeghnhaekebdaaQMSeq08
import Derived.Test.YtpeghnhaekebdaaQMLawBase05
import Derived.BigQuiet
import Derived.Deep.RegionHeld3
import Derived.Sort.CutIn
import Derived.Test.YtpeghnhaekebdaaQMWalkF07
import Derived.Deep.CutRange
import Derived.Maps.AppendAt
set_option linter.unusedVariables false
set_option linter.unusedSimpArgs false
/- Walks: the iterator that goes on from directory to directory. -/
set_option linter.unusedVariables false
set_option linter.unusedSimpArgs false
namespace Go.Proofs.Ytpeghnhaekebdaa
open Go.RowKit Go.Shelf
attribute [local go_sem] Oper.semAt_some

/-- What is handed out: names, the slice that they are read of, the inode. -/
structure St8 where
  ns : List (List UInt8)
  v : Value
  x : Nd
abbrev stV (e : St8) : Array Value := #[e.v, .agg (ndC e.x)]
def keyS (e : St8) : List (List UInt8) × Int := (e.ns, e.x.ino)
def RdS (l : List Nd) (e : St8) (W : World) : Prop := Strs W e.v e.ns ∧ e.x ∈ l ∧ e.ns.length ≤ 100000 ∧ (tailB e.ns).length ≤ 100000
theorem strs_closed {w : World} {a : Option Addr} {n cap : Nat} {l : List (List UInt8)} (h : Strs w (.slice a n cap) l) (cap' : Nat) : Strs w (.slice a n cap') l := by
  obtain ⟨x, c, e, h1, h2⟩ := h
  simp only [Value.slice.injEq] at e
  obtain ⟨rfl, rfl, rfl⟩ := e
  exact ⟨_, _, rfl, h1, h2⟩
theorem strs_same {A B : World} {v : Value} {l : List (List UInt8)} (h : Strs A v l) (hs : ∀ g, v.ownBlock = some g → B.heap[g]? = A.heap[g]?) (hsz : A.heap.size ≤ B.heap.size) : Strs B v l := by
  obtain ⟨a, c, rfl, h1, h2⟩ := h
  refine ⟨a, c, rfl, h1, fun hl => ?_⟩
  obtain ⟨b, off, rfl, hlt, hc⟩ := h2 hl
  exact ⟨b, off, rfl, Nat.lt_of_lt_of_le hlt hsz, fun i hi => (World.cell?_of_block (hs b rfl)).trans (hc i hi)⟩

theorem infoL : (Try.prog.info? 88).map (fun i => (i.zero, i.size, i.bytes)) = some (some (.agg #[.int .i64 0, .slice none 0 0]), 2, 32) := by kernel_rfl

/-- The iterator's state between two rounds. -/
structure InvS (l : List Nd) (ns0 : List (List UInt8)) (w0 : World) (Bf : Nat) (fc : Array Value) (m₀ : Nat → Prop) (tot : List (List (List UInt8) × Int)) (J : (Nat → Prop) → List St8 → World → Prop)
    (m : Nat → Prop) (pre : List St8) (stk : List Lv) (tn : List (List UInt8)) (s7 s8 : Value) (wr : World) : Prop where
  hJ : J m pre wr
  ms : ∀ k, m k → k < wr.heap.size
  m0 : ∀ k, m₀ k → m k
  hB : Below w0.heap.size w0 wr
  bf : Blk wr Bf 24 fc
  op : wr.ownsRow w0.heap.size 88 2 s8 stk.length (lvV stk)
  opm : ∀ g, s8.ownBlock = some g → m g
  tr : wr.ownsRow w0.heap.size 9 1 s7 tn.length (strsV tn)
  trm : ∀ g, s7.ownBlock = some g → m g
  rel : tot = pre.map keyS ++ remS l stk
  pf : ∀ x ∈ stk, x.ns <+: tn
  pw : stk.Pairwise (fun a b => a.ns <+: b.ns)
  dp : ∀ A x B, stk = A ++ x :: B → x.ns.length = ns0.length + A.length
  ev : ∀ x ∈ stk, Ents w0 x.ev x.es ∧ ∀ e ∈ x.es, hasN l e.2 = true ∧ e.1.length ≤ 300

theorem lv_last (st : List Lv) (x : Lv) : (lvV (st ++ [x]))[st.length * 2]? = some (.int .i64 x.ns.length) ∧ (lvV (st ++ [x]))[st.length * 2 + 1]? = some x.ev := by
  rw [lvV_append, List.getElem?_append_right (by rw [lvV_len]; omega), List.getElem?_append_right (by rw [lvV_len]; omega), lvV_len, Nat.sub_self, show st.length * 2 + 1 - st.length * 2 = 1 from by omega]
  exact ⟨rfl, rfl⟩
theorem lv_set (st : List Lv) (x : Lv) (tv : Value) (es : List Ent) : (lvV (st ++ [x])).set (st.length * 2 + 1) tv = lvV (st ++ [⟨x.ns, tv, es⟩]) := by
  rw [lvV_append, lvV_append, List.set_append_right _ _ (by rw [lvV_len]; omega), lvV_len, show st.length * 2 + 1 - st.length * 2 = 1 from by omega]
  rfl
theorem lv_take (st : List Lv) (x : Lv) : (lvV (st ++ [x])).take (st.length * 2) = lvV st := by
  rw [lvV_append, ← lvV_len st, List.take_left]
theorem strsV_take (l : List (List UInt8)) (k : Nat) : (strsV l).take (k * 1) = strsV (l.take k) := by unfold strsV; rw [Nat.mul_one, List.map_take]
theorem own_frozen {w : World} {base : Nat} {e : TypeId} {size g cap n : Nat} {xs : List Value} (h : w.ownsRow base e size (.slice (some ⟨g, 0, none⟩) n cap) n xs) (j : Nat) : w.frozen? ⟨g, j, none⟩ = false := by
  rcases h.2 with ⟨h', _⟩ | ⟨g', cap', cur, h', _, hg, _⟩
  · simp at h'
  · simp only [Value.slice.injEq, Option.some.injEq, Addr.mk.injEq, and_true, true_and] at h'
    obtain ⟨rfl, _⟩ := h'
    simp [World.frozen?, hg]
theorem own_ne2 {w : World} {base : Nat} {e t : TypeId} {size size2 g g2 cap cap2 n n2 : Nat} {xs ys : List Value} (h : w.ownsRow base e size (.slice (some ⟨g, 0, none⟩) n cap) n xs) (h2 : w.ownsRow base t size2 (.slice (some ⟨g2, 0, none⟩) n2 cap2) n2 ys) (hne : e ≠ t) : g ≠ g2 := by
  rintro rfl
  rcases h.2 with ⟨h', _⟩ | ⟨g', cap', cur, h', _, hg, _⟩
  · simp at h'
  · simp only [Value.slice.injEq, Option.some.injEq, Addr.mk.injEq, and_true, true_and] at h'
    obtain ⟨rfl, _⟩ := h'
    rcases h2.2 with ⟨h', _⟩ | ⟨g', cap', cur, h', _, hg2, _⟩
    · simp at h'
    · simp only [Value.slice.injEq, Option.some.injEq, Addr.mk.injEq, and_true, true_and] at h'
      obtain ⟨rfl, _⟩ := h'
      have := hg.symm.trans hg2
      simp at this
      exact hne this.2
section
variable {l : List Nd} {ns0 : List (List UInt8)} {w0 : World} {Bf : Nat} {fc : Array Value} {m₀ : Nat → Prop} {tot : List (List (List UInt8) × Int)} {J : (Nat → Prop) → List St8 → World → Prop}
theorem InvS.pop {m : Nat → Prop} {pre : List St8} {st : List Lv} {tns : List (List UInt8)} {tev : Value} {tn : List (List UInt8)} {s7 : Value} {g c : Nat} {wr : World}
    (h : InvS l ns0 w0 Bf fc m₀ tot J m pre (st ++ [⟨tns, tev, []⟩]) tn s7 (.slice (some ⟨g, 0, none⟩) (st.length + 1) c) wr) : InvS l ns0 w0 Bf fc m₀ tot J m pre st tn s7 (.slice (some ⟨g, 0, none⟩) st.length c) wr :=
  { hJ := h.hJ, ms := h.ms, m0 := h.m0, hB := h.hB, bf := h.bf,
    op := by
      have h1 := h.op
      rw [List.length_append, List.length_singleton] at h1
      have h2 := own_take h1 st.length (by omega)
      rwa [lv_take] at h2
    opm := fun g' hg => h.opm g' hg
    tr := h.tr, trm := h.trm
    rel := by have := h.rel; rw [remS_push] at this; simpa [kidsS] using this
    pf := fun x hx => h.pf x (by simp [hx])
    pw := (List.pairwise_append.1 h.pw).1
    dp := fun A x B e => h.dp A x (B ++ [⟨tns, tev, []⟩]) (by rw [e]; simp)
    ev := fun x hx => h.ev x (by simp [hx]) }
/-- What the walk comes to next. -/
theorem InvS.next {m : Nat → Prop} {pre : List St8} {st : List Lv} {tns : List (List UInt8)} {tev : Value} {e : Ent} {es : List Ent} {tn : List (List UInt8)} {s7 s8 : Value} {wr : World} (t : Tree l)
    (h : InvS l ns0 w0 Bf fc m₀ tot J m pre (st ++ [⟨tns, tev, e :: es⟩]) tn s7 s8 wr) :
    hasN l e.2 = true ∧ e.1.length ≤ 300 ∧ pre.length < tot.length ∧ (tns ++ [e.1], e.2) ∈ tot ∧ tns = tn.take tns.length ∧ tns.length ≤ tn.length ∧ tns.length = ns0.length + st.length ∧ Ents w0 tev (e :: es) ∧
      remS l (st ++ [⟨tns, tev, e :: es⟩]) = (tns ++ [e.1], e.2) :: (kidsS l (tns ++ [e.1]) (getN l e.2).ents ++ remS l (st ++ [⟨tns, tev, es⟩])) := by
  have hev := h.ev ⟨tns, tev, e :: es⟩ (by simp)
  have he := hev.2 e (by simp)
  have hrem : remS l (st ++ [⟨tns, tev, e :: es⟩]) = (tns ++ [e.1], e.2) :: (kidsS l (tns ++ [e.1]) (getN l e.2).ents ++ remS l (st ++ [⟨tns, tev, es⟩])) := by
    rw [remS_push, remS_push, kidsS_cons, walkS_eq t he.1]
    simp
  have hpf := h.pf ⟨tns, tev, e :: es⟩ (by simp)
  have hrel := h.rel
  rw [hrem] at hrel
  refine ⟨he.1, he.2, ?_, ?_, List.prefix_iff_eq_take.1 hpf, hpf.length_le, h.dp st _ [] rfl, hev.1, hrem⟩
  · rw [hrel]; simp
  · rw [hrel]; simp
/-- The state when the walk has come to an entry: its inode, a directory of the walk's own from now on. -/
theorem InvS.come {m m' : Nat → Prop} {pre : List St8} {st : List Lv} {tns : List (List UInt8)} {tev tev' : Value} {e : Ent} {es : List Ent} {tn : List (List UInt8)} {s7 s8 s7' s8' v : Value} {wr W : World} (t : Tree l) (hsh : ∀ x ∈ l, shortP 300 x.ents) (hall : EntsAll w0 l)
    (h : InvS l ns0 w0 Bf fc m₀ tot J m pre (st ++ [⟨tns, tev, e :: es⟩]) tn s7 s8 wr)
    (hJ : J m' (pre ++ [⟨tns ++ [e.1], v, getN l e.2⟩]) W) (ms : ∀ k, m' k → k < W.heap.size) (m0 : ∀ k, m₀ k → m' k) (hB : Below w0.heap.size w0 W) (bf : Blk W Bf 24 fc)
    (tr : W.ownsRow w0.heap.size 9 1 s7' (tns ++ [e.1]).length (strsV (tns ++ [e.1]))) (trm : ∀ g, s7'.ownBlock = some g → m' g) (hev : Ents w0 tev' es)
    (stk : List Lv) (hstk : stk = st ++ [⟨tns, tev', es⟩] ++ [⟨tns ++ [e.1], (getN l e.2).ev, (getN l e.2).ents⟩] ∨ (stk = st ++ [⟨tns, tev', es⟩] ∧ (getN l e.2).kind ≠ 2))
    (op : W.ownsRow w0.heap.size 88 2 s8' stk.length (lvV stk)) (opm : ∀ g, s8'.ownBlock = some g → m' g) :
    InvS l ns0 w0 Bf fc m₀ tot J m' (pre ++ [⟨tns ++ [e.1], v, getN l e.2⟩]) stk (tns ++ [e.1]) s7' s8' W := by
  obtain ⟨hh, _, _, _, _, _, hd, _, hrem⟩ := h.next t
  have hg := get_mem hh
  have hrel := h.rel
  rw [hrem, remS_push] at hrel
  have hpw := List.pairwise_append.1 h.pw
  have hold : ∀ x ∈ st, Ents w0 x.ev x.es ∧ ∀ e ∈ x.es, hasN l e.2 = true ∧ e.1.length ≤ 300 := fun x hx => h.ev x (by simp [hx])
  have htop := h.ev ⟨tns, tev, e :: es⟩ (by simp)
  have hpst : ∀ x ∈ st, x.ns <+: tns := fun x hx => hpw.2.2 x hx ⟨tns, tev, e :: es⟩ (by simp)
  have hkey : keyS ⟨tns ++ [e.1], v, getN l e.2⟩ = (tns ++ [e.1], e.2) := by unfold keyS; rw [hg.2]
  have hp1 : tns <+: tns ++ [e.1] := List.prefix_append _ _
  have hevs : ∀ x ∈ st ++ [⟨tns, tev', es⟩], Ents w0 x.ev x.es ∧ ∀ e ∈ x.es, hasN l e.2 = true ∧ e.1.length ≤ 300 := fun x hx => by
    rcases List.mem_append.1 hx with hx | hx
    · exact hold x hx
    · rw [List.mem_singleton.1 hx]; exact ⟨hev, fun e he => htop.2 e (by simp [he])⟩
  have hpfs : ∀ x ∈ st ++ [(⟨tns, tev', es⟩ : Lv)], x.ns <+: tns := fun x hx => by
    rcases List.mem_append.1 hx with hx | hx
    · exact hpst x hx
    · rw [List.mem_singleton.1 hx]; exact List.prefix_refl _
  have hpws : (st ++ [(⟨tns, tev', es⟩ : Lv)]).Pairwise (fun a b => a.ns <+: b.ns) := List.pairwise_append.2 ⟨hpw.1, List.pairwise_singleton _ _, fun a ha b hb => by rw [List.mem_singleton.1 hb]; exact hpst a ha⟩
  have hdps : ∀ A x B, st ++ [(⟨tns, tev', es⟩ : Lv)] = A ++ x :: B → x.ns.length = ns0.length + A.length := fun A x B e1 => by
    rcases List.eq_nil_or_concat B with rfl | ⟨B', y, rfl⟩
    · obtain ⟨rfl, e2⟩ := List.append_inj' e1 rfl
      simp at e2
      rw [← e2]; exact hd
    · have e3 : st ++ [(⟨tns, tev', es⟩ : Lv)] = (A ++ x :: B') ++ [y] := by rw [e1]; simp
      obtain ⟨rfl, _⟩ := List.append_inj' e3 rfl
      exact h.dp A x (B' ++ [⟨tns, tev, e :: es⟩]) (by simp)
  refine { hJ := hJ, ms := ms, m0 := m0, hB := hB, bf := bf, op := op, opm := opm, tr := tr, trm := trm, rel := ?_, pf := ?_, pw := ?_, dp := ?_, ev := ?_ }
  · rw [hrel, List.map_append, List.map_singleton, hkey]
    rcases hstk with rfl | ⟨rfl, hk⟩
    · rw [remS_push, remS_push]; simp
    · rw [remS_push, t.files _ hg.1 hk]; simp [kidsS]
  · rcases hstk with rfl | ⟨rfl, _⟩
    · intro x hx
      rcases List.mem_append.1 hx with hx | hx
      · exact (hpfs x hx).trans hp1
      · rw [List.mem_singleton.1 hx]; exact List.prefix_refl _
    · exact fun x hx => (hpfs x hx).trans hp1
  · rcases hstk with rfl | ⟨rfl, _⟩
    · exact List.pairwise_append.2 ⟨hpws, List.pairwise_singleton _ _, fun a ha b hb => by rw [List.mem_singleton.1 hb]; exact (hpfs a ha).trans hp1⟩
    · exact hpws
  · rcases hstk with rfl | ⟨rfl, _⟩
    · intro A x B e1
      rcases List.eq_nil_or_concat B with rfl | ⟨B', y, rfl⟩
      · obtain ⟨e4, e2⟩ := List.append_inj' e1 rfl
        simp at e2
        rw [← e2, ← e4]; simp; omega
      · have e3 : st ++ [(⟨tns, tev', es⟩ : Lv)] ++ [⟨tns ++ [e.1], (getN l e.2).ev, (getN l e.2).ents⟩] = (A ++ x :: B') ++ [y] := by rw [e1]; simp
        obtain ⟨e4, _⟩ := List.append_inj' e3 rfl
        exact hdps A x B' e4
    · exact hdps
  · rcases hstk with rfl | ⟨rfl, _⟩
    · intro x hx
      rcases List.mem_append.1 hx with hx | hx
      · exact hevs x hx
      · rw [List.mem_singleton.1 hx]
        exact ⟨hall _ hg.1, fun e he => ⟨t.there _ hg.1 e he, hsh _ hg.1 e he⟩⟩
    · exact hevs
end

set_option maxRecDepth 100000 in
set_option maxHeartbeats 4000000 in
theorem steps1_in (n : Nat) (hn : 2 ≤ n) (mi mb nx : Int) (l : List Nd) (t : Tree l) (hsh : ∀ x ∈ l, shortP 300 x.ents) (hl : l.length ≤ 100) (fv : Value) (w0 : World) (hv : Nds w0 fv l)
    (ino : Int) (ns : List (List UInt8)) (na : Option Addr) (nk nc : Nat) (Bf Bi Bn : Nat) (m₀ : Nat → Prop) (hns : ns.length ≤ 10000) (hnt : (tailB ns).length ≤ 10000) (hnc : nk ≤ nc) (hncm : nc ≤ maxLen) (hna : na = none → nk = 0 ∧ nc = 0)
    (hmf : m₀ Bf) (hmn : m₀ Bn) (lr : Nat) (J Jx : (Nat → Prop) → List St8 → World → Prop) (hJ : AbidesM J)
    (hY : ∀ m pre x W1, J m pre W1 → (∀ k, m k → k < W1.heap.size) → RdS l x W1 → pre.length < (walkS l ino ns).length → YieldAt Fence.wide (n - 1) Try.prog lr (stV x) W1 fun e W' =>
      ∃ b : Bool, e = .returned (.bool b) ∧ KeptM w0.heap.size m W1 W' ∧ (b = true → J m (pre ++ [x]) W') ∧ (b = false → Jx m (pre ++ [x]) W'))
    (W : World) (hB : Below w0.heap.size w0 W) (bf : Blk W Bf 24 (fsC mi mb nx fv)) (bi : Blk W Bi 3 #[.int .i64 ino]) (bn : Blk W Bn 75 #[.slice na nk nc])
    (hst : Strs W (.slice na nk nc) ns) (hsm : ∀ g, Value.ownBlock (.slice na nk nc) = some g → m₀ g ∨ g < w0.heap.size) (hm₀ : ∀ k, m₀ k → k < W.heap.size) (h0 : J m₀ [] W) :
    CallsIn Fence.wide n Try.prog 53 #[.func (.yield lr) #[] #[], .pointer (some ⟨Bf, 0, none⟩), .pointer (some ⟨Bi, 0, none⟩), .pointer (some ⟨Bn, 0, none⟩)] W fun e W' => (∃ v, e = .returned v) ∧
      ((∃ m xs, xs.map keyS = walkS l ino ns ∧ J m xs W') ∨ (∃ m pre, pre.map keyS <+: walkS l ino ns ∧ Jx m pre W')) := by
  obtain ⟨is, hsi, hs0, hs1, hs2⟩ := info_parts Try.infoS
  have hn1 : 1 ≤ n := by omega
  obtain rfl : nk = ns.length := by obtain ⟨_, _, e, _⟩ := hst; simp only [Value.slice.injEq] at e; exact e.2.1
  have HT := Lib.hid t
  have hriz := t.rise
  clear t
  refine callsIn_of_wp Try.func53 rfl trivial ?_ rfl
  simp only [Try.ntmps53, List.size_toArray, List.length_cons, List.length_nil, Nat.reduceAdd, Nat.reduceSub, Array.replicate_succ, Array.replicate_zero, List.push_toArray, List.append_toArray, List.nil_append, List.cons_append]
  obtain ⟨af, cf, rfl⟩ := nds_slice hv
  have hvW := hv.below hB
  obtain ⟨⟨p0, p1, p2, p3⟩, _⟩ := bf.four
  have q0 := bi.cell 0
  simp at q0
  refine wpIn_scope rfl (fun _ _ _ h => h) ?_
  gi_wp2_with fail
  refine ⟨trivial, ?_⟩
  gi_at_call 54
  refine (callsIn_wide.2 (findF_any mi mb nx ino l _ _ hvW hriz (by omega))).mono ?_
  rintro e w1 ⟨rfl, b1⟩
  obtain ⟨ag, ng, cg, hgs⟩ := get_slice hv ino
  have hgm := get_mem (l := l) (i := ino)
  have hge := get_ents hv.all ino
  generalize hG : getN l ino = G at *
  obtain ⟨gi, gk, gl, gd, gp, ge, gn⟩ := G
  dsimp only at hgs hge
  subst hgs
  clear p0 p1 p2 p3 q0
  have hmx : Try.prog.follows .mixedOrders = true := by kernel_rfl
  have b2 := b1.trans ((alloc_below w1 (.cells (ndC ⟨gi, gk, gl, gd, gp, .slice ag ng cg, gn⟩) 33)).mono b1.size)
  have bX := Blk.new w1 33 (ndC ⟨gi, gk, gl, gd, gp, .slice ag ng cg, gn⟩)
  cases hh : hasN l ino
  · have HW := Lib.hid (walkS_no hh ns)
    clear hgm hG
    gi_upto_region 1 with fail
    refine wpIn_wide.2 ?_
    (refine wp_region_held_drew (S := fun _ => True) (by kernel_rfl) (trivial) (fun hHeld => ?_))
    (refine heldTake 0 (some 19) (v := ?_) rfl rfl (by kernel_rfl) (by kernel_rfl) (by kernel_rfl) (fun _ _ _ h => h) (by rfl) ?_ (by assumption) ?_; rotate_left; (focus (intro w hSw; (try dsimp only at hSw); go_simp; try with_reducible rfl)); (try simp only [Act.put, List.setIfInBounds_toArray, List.set_cons_zero, List.set_cons_succ]))
    (refine heldTake 1 (some 20) (v := ?_) rfl rfl (by kernel_rfl) (by kernel_rfl) (by kernel_rfl) (fun _ _ _ h => h) (by rfl) ?_ (by assumption) ?_; rotate_left; (focus (intro w hSw; (try dsimp only at hSw); go_simp; try with_reducible rfl)); (try simp only [Act.put, List.setIfInBounds_toArray, List.set_cons_zero, List.set_cons_succ]))
    (refine heldTake 2 (some 21) (v := ?_) rfl rfl (by kernel_rfl) (by kernel_rfl) (by kernel_rfl) (fun _ _ _ h => h) (by rfl) ?_ (by assumption) ?_; rotate_left; (focus (intro w hSw; (try dsimp only at hSw); go_simp; try with_reducible rfl)); (try simp only [Act.put, List.setIfInBounds_toArray, List.set_cons_zero, List.set_cons_succ]))
    (refine heldSkip 3 (some 22) rfl rfl (by kernel_rfl) (by kernel_rfl) (by kernel_rfl) (fun _ _ _ h => h) (by rfl) (by assumption) ?_; (try simp only [Act.put, List.setIfInBounds_toArray, List.set_cons_zero, List.set_cons_succ]))
    (refine heldSkip 4 (some 23) rfl rfl (by kernel_rfl) (by kernel_rfl) (by kernel_rfl) (fun _ _ _ h => h) (by rfl) (by assumption) ?_; (try simp only [Act.put, List.setIfInBounds_toArray, List.set_cons_zero, List.set_cons_succ]))
    (refine heldSkip 5 (some 24) rfl rfl (by kernel_rfl) (by kernel_rfl) (by kernel_rfl) (fun _ _ _ h => h) (by rfl) (by assumption) ?_; (try simp only [Act.put, List.setIfInBounds_toArray, List.set_cons_zero, List.set_cons_succ]))
    (refine heldSkip 6 (some 25) rfl rfl (by kernel_rfl) (by kernel_rfl) (by kernel_rfl) (fun _ _ _ h => h) (by rfl) (by assumption) ?_; (try simp only [Act.put, List.setIfInBounds_toArray, List.set_cons_zero, List.set_cons_succ]))
    (refine heldSkip 7 (some 26) rfl rfl (by kernel_rfl) (by kernel_rfl) (by kernel_rfl) (fun _ _ _ h => h) (by rfl) (by assumption) ?_; (try simp only [Act.put, List.setIfInBounds_toArray, List.set_cons_zero, List.set_cons_succ]))
    (refine heldSkip 8 (some 27) rfl rfl (by kernel_rfl) (by kernel_rfl) (by kernel_rfl) (fun _ _ _ h => h) (by rfl) (by assumption) ?_; (try simp only [Act.put, List.setIfInBounds_toArray, List.set_cons_zero, List.set_cons_succ]))
    (refine heldTake 9 (some 28) (v := ?_) rfl rfl (by kernel_rfl) (by kernel_rfl) (by kernel_rfl) (fun _ _ _ h => h) (by rfl) ?_ (by assumption) ?_; rotate_left; (focus (intro w hSw; (try dsimp only at hSw); go_simp; try with_reducible rfl)); (try simp only [Act.put, List.setIfInBounds_toArray, List.set_cons_zero, List.set_cons_succ]))
    refine wpAnyH_done (by kernel_rfl) ?_ _
    gi_wp2
    refine bodyPost_ret (results_none rfl _ _ _) rfl ?_
    exact ⟨⟨_, rfl⟩, .inl ⟨m₀, [], by rw [HW.out]; rfl, hJ m₀ m₀ [] W _ h0 (Turned.of_below b2.drew) (fun r h => .inl h)⟩⟩
  · obtain ⟨hin, hino⟩ := hgm hh
    dsimp only at hino
    subst hino
    have hW1 := walkS_eq HT.out hh ns
    rw [hG] at hW1
    dsimp only at hW1
    clear hgm hG
    gi_upto_region 1 with fail
    generalize hw2 : w1.alloc (.cells (ndC ⟨gi, gk, gl, gd, gp, .slice ag ng cg, gn⟩) 33) = w2 at *
    have bn2 : Blk w2.drew Bn 75 #[.slice na ns.length nc] := bn.next b2.drew
    have bX2 : Blk w2.drew w1.heap.size 33 (ndC ⟨gi, gk, gl, gd, gp, .slice ag ng cg, gn⟩) := bX
    have hst2 : Strs w2.drew (.slice na ns.length ns.length) ns := strs_closed (hst.below b2.drew) ns.length
    obtain ⟨m1, hm1⟩ : ∃ m1 : Nat → Prop, m1 = fun k => m₀ k ∨ (W.heap.size ≤ k ∧ k < w2.heap.size) := ⟨_, rfl⟩
    have hJ1 : J m1 [] w2.drew := hJ m₀ _ [] W _ h0 (Turned.of_below b2.drew) (fun r h => by rw [hm1] at h; exact h.imp id (·.1))
    have hms1 : ∀ k, m1 k → k < w2.heap.size := fun k hk => by rw [hm1] at hk; exact hk.elim (fun h => Nat.lt_of_lt_of_le (hm₀ k h) b2.size) (·.2)
    have hm10 : ∀ k, m₀ k → m1 k := fun k hk => by rw [hm1]; exact .inl hk
    have hmX1 : m1 w1.heap.size := by rw [hm1]; exact .inr ⟨b1.size, bX.lt⟩
    clear hm1
    obtain ⟨fn, tmps, assign, body, hy0, hR⟩ := hY m1 [] ⟨ns, .slice na ns.length ns.length, ⟨gi, gk, gl, gd, gp, .slice ag ng cg, gn⟩⟩ w2.drew hJ1 hms1 ⟨hst2, hin, by dsimp only; omega, by dsimp only; omega⟩ (by rw [hW1]; simp)
    have hy : (Instr.yield lr #[.slice na ns.length ns.length, .agg (ndC ⟨gi, gk, gl, gd, gp, .slice ag ng cg, gn⟩)]).run Try.prog w2.drew = .ok (.round lr fn tmps assign body) w2.drew := hy0
    clear hy0
    have c1 := (bn2.cell 0).trans (rfl : _ = some (Value.slice na ns.length nc))
    obtain ⟨⟨x0, x1, x2, x3, x4, x5⟩, _⟩ := bX2.six
    dsimp only at x0 x1 x2 x3 x4 x5
    have HK : ∀ W3, KeptM w0.heap.size m1 w2.drew W3 → (W3.cell? ⟨Bn, 0, none⟩ = some (.slice na ns.length nc) ∧ W3.cell? ⟨w1.heap.size, 0, none⟩ = some (.int .i64 gi) ∧ W3.cell? ⟨w1.heap.size, 1, none⟩ = some (.int .i64 gk) ∧ W3.cell? ⟨w1.heap.size, 2, none⟩ = some (.int .i64 gl) ∧ W3.cell? ⟨w1.heap.size, 3, none⟩ = some (.string ⟨gd.toArray⟩) ∧ W3.cell? ⟨w1.heap.size, 4, none⟩ = some (.int .i64 gp) ∧ W3.cell? ⟨w1.heap.size, 5, none⟩ = some (.slice ag ng cg)) := fun W3 h =>
      ⟨(World.cell?_of_block (h.mine _ (hm10 _ hmn))).trans c1, (World.cell?_of_block (h.mine _ hmX1)).trans x0, (World.cell?_of_block (h.mine _ hmX1)).trans x1, (World.cell?_of_block (h.mine _ hmX1)).trans x2, (World.cell?_of_block (h.mine _ hmX1)).trans x3, (World.cell?_of_block (h.mine _ hmX1)).trans x4, (World.cell?_of_block (h.mine _ hmX1)).trans x5⟩
    (refine wpIn_region_heldG (fun W => W.cell? ⟨Bn, 0, none⟩ = some (.slice na ns.length nc) ∧ W.cell? ⟨w1.heap.size, 0, none⟩ = some (.int .i64 gi) ∧ W.cell? ⟨w1.heap.size, 1, none⟩ = some (.int .i64 gk) ∧ W.cell? ⟨w1.heap.size, 2, none⟩ = some (.int .i64 gl) ∧ W.cell? ⟨w1.heap.size, 3, none⟩ = some (.string ⟨gd.toArray⟩) ∧ W.cell? ⟨w1.heap.size, 4, none⟩ = some (.int .i64 gp) ∧ W.cell? ⟨w1.heap.size, 5, none⟩ = some (.slice ag ng cg)) (by kernel_rfl) (⟨c1, x0, x1, x2, x3, x4, x5⟩) (fun hHeld => ?_))
    clear c1 x0 x1 x2 x3 x4 x5
    (refine takeG 0 (some 19) (v := ?_) (fun _ => trivial) (by kernel_rfl) rfl rfl (by kernel_rfl) (by kernel_rfl) (by kernel_rfl) (fun _ _ _ h => h) (by rfl) ?_ (by assumption) ?_; rotate_left; (focus (intro w hSw; (try dsimp only at hSw); go_simp; try with_reducible rfl)); (try simp only [Act.put, List.setIfInBounds_toArray, List.set_cons_zero, List.set_cons_succ]))
    (refine takeG 1 (some 20) (v := ?_) (fun _ => trivial) (by kernel_rfl) rfl rfl (by kernel_rfl) (by kernel_rfl) (by kernel_rfl) (fun _ _ _ h => h) (by rfl) ?_ (by assumption) ?_; rotate_left; (focus (intro w hSw; (try dsimp only at hSw); go_simp; try with_reducible rfl)); (try simp only [Act.put, List.setIfInBounds_toArray, List.set_cons_zero, List.set_cons_succ]))
    (refine takeG 2 (some 21) (v := ?_) (fun _ => trivial) (by kernel_rfl) rfl rfl (by kernel_rfl) (by kernel_rfl) (by kernel_rfl) (fun _ _ _ h => h) (by rfl) ?_ (by assumption) ?_; rotate_left; (focus (intro w hSw; (try dsimp only at hSw); go_simp; try with_reducible rfl)); (try simp only [Act.put, List.setIfInBounds_toArray, List.set_cons_zero, List.set_cons_succ]))
    (refine takeG 3 (some 22) (v := ?_) (fun _ => trivial) (by kernel_rfl) rfl rfl (by kernel_rfl) (by kernel_rfl) (by kernel_rfl) (fun _ _ _ h => h) (by rfl) ?_ (by assumption) ?_; rotate_left; (focus (intro w hSw; (try dsimp only at hSw); go_simp; try with_reducible rfl)); (try simp only [Act.put, List.setIfInBounds_toArray, List.set_cons_zero, List.set_cons_succ]))
    (refine takeG 4 (some 23) (v := ?_) (fun _ => trivial) (by kernel_rfl) rfl rfl (by kernel_rfl) (by kernel_rfl) (by kernel_rfl) (fun _ _ _ h => h) (by rfl) ?_ (by assumption) ?_; rotate_left; (focus (intro w hSw; (try dsimp only at hSw); go_simp; try with_reducible rfl)); (try simp only [Act.put, List.setIfInBounds_toArray, List.set_cons_zero, List.set_cons_succ]))
    (refine takeG 6 (some 25) (v := ?_) (fun _ => trivial) (by kernel_rfl) rfl rfl (by kernel_rfl) (by kernel_rfl) (by kernel_rfl) (fun _ _ _ h => h) (by rfl) ?_ (by assumption) ?_; rotate_left; (focus (intro w hSw; (try dsimp only at hSw); go_simp; try with_reducible rfl)); (try simp only [Act.put, List.setIfInBounds_toArray, List.set_cons_zero, List.set_cons_succ]))
    (refine readyG (rs := [5]) (by kernel_rfl) (by simp) ?_; refine AllReadyG.cons rfl (fun K hK => ?_) AllReadyG.nil; go_simp; (refine ⟨trivial, ?_⟩; refine (callsIn_wide.2 (closed_any na ns.length nc _ hnc hncm hna)).mono ?_; rintro e wz ⟨rfl, hwz⟩; subst hwz); (try dsimp only); refine hK.out _ _ (hHeld) (fun hHeld => ?_); clear hK K; (try simp only [Act.put, List.setIfInBounds_toArray, List.set_cons_zero, List.set_cons_succ]))
    (refine readyG (rs := [7]) (by kernel_rfl) (by simp) ?_; refine AllReadyG.cons rfl (fun K hK => ?_) AllReadyG.nil; go_simp; (refine hR.mono ?_; rintro e W3 ⟨b, rfl, hKe, hbT, hbF⟩); (try dsimp only); refine hK.out _ _ (HK _ hKe) (fun hHeld => ?_); clear hK K; (try simp only [Act.put, List.setIfInBounds_toArray, List.set_cons_zero, List.set_cons_succ]))
    clear hR hy HK
    (refine takeG 8 (some 27) (v := ?_) (fun _ => trivial) (by kernel_rfl) rfl rfl (by kernel_rfl) (by kernel_rfl) (by kernel_rfl) (fun _ _ _ h => h) (by rfl) ?_ (by assumption) ?_; rotate_left; (focus (intro w hSw; (try dsimp only at hSw); go_simp; try with_reducible rfl)); (try simp only [Act.put, List.setIfInBounds_toArray, List.set_cons_zero, List.set_cons_succ]))
    (refine takeG 9 (some 28) (v := ?_) (fun _ => trivial) (by kernel_rfl) rfl rfl (by kernel_rfl) (by kernel_rfl) (by kernel_rfl) (fun _ _ _ h => h) (by rfl) ?_ (by assumption) ?_; rotate_left; (focus (intro w hSw; (try dsimp only at hSw); go_simp; try with_reducible rfl)); (try simp only [Act.put, List.setIfInBounds_toArray, List.set_cons_zero, List.set_cons_succ]))
    refine doneG (by kernel_rfl) ?_ _
    clear hHeld
    cases b
    · have HF := Lib.hid (hbF rfl)
      have HW := Lib.hid hW1
      clear hbT hbF
      gi_wp2
      refine bodyPost_ret (results_none rfl _ _ _) rfl ?_
      exact ⟨⟨_, rfl⟩, .inr ⟨m1, _, ⟨kidsS l ns gn, by rw [HW.out]; rfl⟩, HF.out⟩⟩
    · have hJ3 := hbT rfl
      clear hbT hbF
      have bf3 : Blk W3 Bf 24 (fsC mi mb nx (.slice af l.length cf)) := (hKe.mine Bf (hm10 _ hmf)).trans (bf.next b2.drew)
      have bn3 : Blk W3 Bn 75 #[.slice na ns.length nc] := (hKe.mine Bn (hm10 _ hmn)).trans bn2
      have bX3 : Blk W3 w1.heap.size 33 (ndC ⟨gi, gk, gl, gd, gp, .slice ag ng cg, gn⟩) := (hKe.mine _ hmX1).trans bX2
      have hst3 : Strs W3 (.slice na ns.length nc) ns := strs_same (strs_closed hst2 nc) (fun g hg => (hsm g hg).elim (fun h => hKe.mine g (hm10 g h)) (fun h => hKe.below.block g h)) hKe.below.size
      have hB3 : Below w0.heap.size w0 W3 := (hB.trans (b2.drew.mono hB.size)).trans hKe.below
      have hms3 : ∀ k, m1 k → k < W3.heap.size := fun k hk => Nat.lt_of_lt_of_le (hms1 k hk) hKe.below.size
      clear bf bi bn bX bn2 bX2 hst hst2 hB hJ1 hw2 b1 b2 hsm hKe hms1 hmX1 h0 hm₀ hvW
      generalize w1.heap.size = X1 at *
      have c1 := (bn3.cell 0).trans (rfl : _ = some (Value.slice na ns.length nc))
      gi_wp2_with fail
      refine ⟨trivial, ?_⟩
      gi_at_call 56
      refine (callsIn_wide.2 (cloneS_any ns _ _ hst3 (by omega))).mono ?_
      rintro e w4 ⟨y, rfl, hown, b4⟩
      clear c1
      replace bn3 := bn3.next b4
      replace bX3 := bX3.next b4
      have c1 := (bn3.cell 0).trans (rfl : _ = some (Value.slice na ns.length nc))
      have x5 := (bX3.cell 5).trans (rfl : _ = some (Value.slice ag ng cg))
      have b5 := b4.trans ((alloc_below w4 (.cells #[.int .i64 ns.length, .slice ag ng cg] 88)).mono b4.size)
      have hop : (w4.alloc (.cells #[.int .i64 ns.length, .slice ag ng cg] 88)).ownsRow w4.heap.size 88 2 (.slice (some ⟨w4.heap.size, 0, none⟩) 1 1) 1 (lvV [⟨ns, .slice ag ng cg, gn⟩]) := World.ownsRow_lit _ #[.int .i64 ns.length, .slice ag ng cg] 1 (Nat.le_refl _) (by decide) rfl
      have hI0 : InvS l ns w0 Bf (fsC mi mb nx (.slice af l.length cf)) m₀ (walkS l gi ns) J (fun k => m1 k ∨ (W3.heap.size ≤ k ∧ k < (w4.alloc (.cells #[.int .i64 ns.length, .slice ag ng cg] 88)).heap.size)) [⟨ns, .slice na ns.length ns.length, ⟨gi, gk, gl, gd, gp, .slice ag ng cg, gn⟩⟩] [⟨ns, .slice ag ng cg, gn⟩] ns y (.slice (some ⟨w4.heap.size, 0, none⟩) 1 1)
          (w4.alloc (.cells #[.int .i64 ns.length, .slice ag ng cg] 88)) := {
        hJ := hJ m1 _ _ W3 _ hJ3 (Turned.of_below b5) (fun r h => h.imp id (·.1))
        ms := fun k hk => hk.elim (fun h => Nat.lt_of_lt_of_le (hms3 k h) b5.size) (·.2)
        m0 := fun k hk => .inl (hm10 k hk)
        hB := hB3.trans (b5.mono hB3.size)
        bf := bf3.next b5
        op := own_base hop (by have := hB3.size; have := b4.size; omega)
        opm := fun g hg => by
          simp [Value.ownBlock] at hg
          subst hg
          exact .inr ⟨b4.size, by simp⟩
        tr := own_base (hown.alloc _) hB3.size
        trm := fun g hg => .inr ⟨(hown.lt g hg).1, by have := (hown.lt g hg).2; simp; omega⟩
        rel := by rw [hW1]; simp [remS, keyS]
        pf := fun x hx => by rw [List.mem_singleton.1 hx]; exact List.prefix_refl _
        pw := List.pairwise_singleton _ _
        dp := fun A x B h => by
          cases A with
          | nil => simp at h; rw [← h.1]; rfl
          | cons a A => simp at h
        ev := fun x hx => by
          rw [List.mem_singleton.1 hx]
          exact ⟨hge, fun e he => ⟨HT.out.there _ hin e he, hsh _ hin e he⟩⟩ }
      have HI0 := Lib.hid hI0
      clear hI0 hop b5 bn3 bX3 bf3 hown hst3 hB3 hms3 hm10 hJ3 hge b4
      have hdeep : ∀ q ∈ walkS l gi ns, q.1.length ≤ ns.length + 101 := fun q hq => by have := tree_deep l (l.length + 1) gi ns q hq; omega
      have hsize : ∀ q ∈ walkS l gi ns, (tailB q.1).length ≤ 50000 := fun q hq => by have := tree_size hsh (l.length + 1) gi ns q hq; omega
      have HD := Lib.hid hdeep
      have HS := Lib.hid hsize
      have hw4 := HI0.out.hB.size
      clear hdeep hsize hW1 hh
      gi_wp2
      refine wpIn_label ?_
      gi_wp2
      generalize w4.alloc (.cells #[.int .i64 ns.length, .slice ag ng cg] 88) = w5 at *
      gi_loopg [7, 8] (2 * (remS l [⟨ns, .slice ag ng cg, gn⟩]).length + 1) (fun g s7 s8 wr => ∃ m pre stk tn, g = 2 * (remS l stk).length + stk.length ∧ Aside (InvS l ns w0 Bf (fsC mi mb nx (.slice af l.length cf)) m₀ (walkS l gi ns) J m pre stk tn s7 s8 wr))
      case atStart => exact ⟨_, _, _, _, rfl, HI0.out⟩
      case round =>
        clear HI0
        obtain ⟨m, pre, stk, tn, hg, HI⟩ := hrel
        have hex : stk = [] ∨ ∃ st top, stk = st ++ [top] := by
          rcases List.eq_nil_or_concat stk with h | ⟨a, b, h⟩
          · exact .inl h
          · exact .inr ⟨a, b, by rw [h]; simp⟩
        rcases hex with rfl | ⟨st, top, rfl⟩
        · obtain ⟨a8, c8, rfl⟩ := own_slice HI.out.op
          gi_wp2
          go_end0
          exact ⟨⟨_, rfl⟩, .inl ⟨m, pre, by have := HI.out.rel; rw [remS_nil, List.append_nil] at this; exact this.symm, HI.out.hJ⟩⟩
        · obtain ⟨tns, tev, tes⟩ := top
          have hop := HI.out.op
          rw [List.length_append, List.length_singleton] at hop
          obtain ⟨g8, c8, rfl⟩ := ownsRow_succ hop
          obtain ⟨hk8, hc8⟩ : st.length + 1 ≤ c8 ∧ c8 ≤ maxLen := by
            rcases own_cases hop with ⟨h', _⟩ | ⟨g, c, h', _, _, h1, h2⟩
            · simp at h'
            · simp only [Value.slice.injEq] at h'; obtain ⟨_, _, rfl⟩ := h'; exact ⟨h1, h2⟩
          unfold maxLen at hc8
          have HG : Hid (gk = 2 * (remS l (st ++ [⟨tns, tev, tes⟩])).length + (st.length + 1)) := by (show _ = _); rw [hg, List.length_append, List.length_singleton]
          clear hop hg
          obtain ⟨k, hk⟩ : ∃ k, k = st.length := ⟨_, rfl⟩
          rw [← hk] at HG hk8
          rw [← hk]
          have HK := Lib.hid hk
          clear hk
          have e1 : IntKind.i64.wrap ((k : Int) + 1 - 1) = (k : Int) := by rw [IntKind.wrap_i64]; omega
          have e2 : (0 : Int) ≤ (k : Int) := by omega
          have e3 : (k : Int) < (k : Int) + 1 := by omega
          have e4 : (0 : Int) < (k : Int) + 1 := by omega
          have e5 : IntKind.i64.wrap (k : Int) = (k : Int) := by rw [IntKind.wrap_i64]; omega
          gi_wp2
          gi_loopg [7, 8] tes.length (fun g s7 s8 wr => s8 = .slice (some ⟨g8, 0, none⟩) (k + 1) c8 ∧ ∃ m pre tev tes tn, g = (tes : List Ent).length ∧ Aside (InvS l ns w0 Bf (fsC mi mb nx (.slice af l.length cf)) m₀ (walkS l gi ns) J m pre (st ++ [⟨tns, tev, tes⟩]) tn s7 (.slice (some ⟨g8, 0, none⟩) (k + 1) c8) wr) ∧ Aside (2 * (remS l (st ++ [⟨tns, tev, tes⟩])).length + (k + 1) ≤ gk))
          case atStart => exact ⟨rfl, m, pre, tev, tes, tn, rfl, by (show InvS _ _ _ _ _ _ _ _ _ _ _ _ _ _ _); rw [HK.out]; exact HI.out, by (show _ ≤ _); rw [HG.out]; exact Nat.le_refl _⟩
          case round =>
            clear HI HG
            obtain ⟨rfl, m, pre, tev, tes, tn, rfl, HI, HM⟩ := hrel
            have hop := HI.out.op
            rw [List.length_append, List.length_singleton, ← HK.out] at hop
            have hc0 := (hop.cellAt (k * 2) (by omega)).trans (show (lvV (st ++ [⟨tns, tev, tes⟩]))[k * 2]? = some (.int .i64 tns.length) by rw [HK.out]; exact (lv_last st _).1)
            have hc1 := (hop.cellAt (k * 2 + 1) (by omega)).trans (show (lvV (st ++ [⟨tns, tev, tes⟩]))[k * 2 + 1]? = some tev by rw [HK.out]; exact (lv_last st _).2)
            have hf1 := own_frozen hop (k * 2 + 1)
            obtain ⟨at_, ct, hte, hct, hctm, hE⟩ := (HI.out.ev ⟨tns, tev, tes⟩ (by simp)).1
            dsimp only at hte
            subst hte
            unfold maxLen at hctm
            cases tes with
            | nil =>
              dsimp only [List.length_nil] at *
              clear hE
              gi_wp2
              gi_roundg (2 * (remS l st).length + k)
              case rel =>
                have HP := HI.out
                rw [HK.out] at HP
                exact ⟨m, pre, st, tn, by rw [HK.out], by have := HP.pop; rwa [← HK.out] at this⟩
              case measure =>
                have := HM.out
                rw [remS_push] at this
                simp only [kidsS, List.flatMap_nil, List.nil_append] at this
                omega
            | cons e tes =>
              obtain ⟨nm, z⟩ := e
              obtain ⟨be, oe, hat, hbe, hce⟩ := hE (by simp)
              subst hat
              clear hE
              have hd := hce 0 (by simp)
              rw [Nat.zero_mul, Nat.add_zero] at hd
              have hB := HI.out.hB
              have d0 := (hB.cell (p := ⟨be, oe, none⟩) hbe).trans hd.1
              have d1 := (hB.cell (p := ⟨be, oe + 1, none⟩) hbe).trans hd.2
              dsimp only [List.getElem_cons_zero] at d0 d1
              rw [List.length_cons] at hc1 hct
              have hEv := (HI.out.ev ⟨tns, .slice (some ⟨be, oe, none⟩) (tes.length + 1) ct, (nm, z) :: tes⟩ (by simp)).1
              have HN := Lib.hid (HI.out.next HT.out)
              rw [List.length_cons] at HN
              have HE := Lib.hid hEv
              clear hce hEv hB hd
              have q1 : (0 : Int) < (tes.length : Int) + 1 := by omega
              gi_upto_region 8 with fail
              have bE := Blk.new wr 59 #[.string ⟨nm.toArray⟩, .int .i64 z]
              have T1 := Turned.of_below (m := m) (alloc_below wr (.cells #[.string ⟨nm.toArray⟩, .int .i64 z] 59))
              have hB1 := HI.out.hB.trans ((alloc_below wr (.cells #[.string ⟨nm.toArray⟩, .int .i64 z] 59)).mono HI.out.hB.size)
              have bf1 := HI.out.bf.alloc (.cells #[.string ⟨nm.toArray⟩, .int .i64 z] 59)
              have op1 := hop.alloc (.cells #[.string ⟨nm.toArray⟩, .int .i64 z] 59)
              have tr1 := HI.out.tr.alloc (.cells #[.string ⟨nm.toArray⟩, .int .i64 z] 59)
              generalize hw1 : wr.alloc (.cells #[.string ⟨nm.toArray⟩, .int .i64 z] 59) = w1e at *
              have g1 := (op1.cellAt (k * 2 + 1) (by omega)).trans (show (lvV (st ++ [⟨tns, .slice (some ⟨be, oe, none⟩) (tes.length + 1) ct, (nm, z) :: tes⟩]))[k * 2 + 1]? = some (.slice (some ⟨be, oe, none⟩) (tes.length + 1) ct) by rw [HK.out]; exact (lv_last st _).2)
              have gf1 := own_frozen op1 (k * 2 + 1)
              clear hc0 hc1 hf1 d0 d1 hw1
              refine wpIn_wide.2 ?_
              go_cut [] from 45 to 64 (fun wc => ∃ tv, Aside (Ents w0 tv tes) ∧ wc = w1e.setCell ⟨g8, k * 2 + 1, none⟩ tv)
              case first =>
                go_wp2
                all_goals (go_meet; case rel => exact ⟨_, (show Ents _ _ _ from HE.out.tail 1 _ _ _ (by simp) (by simp) (by simp only [List.length_cons]; omega) (by unfold maxLen; omega) (fun hkl => by
                  simp only [List.length_cons] at hkl
                  first | (exfalso; omega) | simp [Addr.add])), rfl⟩)
              case rest =>
                obtain ⟨tv, hEt, hwc⟩ := hcut
                have hg8 := hop.lt g8 rfl
                have hst := op1.stored (k * 2 + 1) tv
                rw [← hwc] at hst
                obtain ⟨op2, gr2⟩ := hst
                rw [HK.out, lv_set st ⟨tns, _, _⟩ tv tes, ← HK.out] at op2
                have bf2 := bf1.kept gr2 (fun e => own_ne op1 bf1 (by decide) (by simpa using e.symm))
                have bE2 := bE.kept gr2 (fun e => own_ne op1 bE (by decide) (by simpa using e.symm))
                have tr2 := tr1.kept gr2 (by
                  rcases own_cases tr1 with ⟨h, _⟩ | ⟨g, c, h, _⟩
                  · rw [h]; exact .inl rfl
                  · right
                    rw [h] at tr1 ⊢
                    simp only [Value.ownBlock, ne_eq, Option.some.injEq]
                    exact fun e => own_ne2 op1 tr1 (by decide) e.symm)
                have T2 := T1.trans (Turned.of_grown (m := m) gr2 (fun r e => by cases e; exact .inl (HI.out.opm g8 rfl))) (fun r h => .inl h)
                have hB2 := below_grown hB1 gr2 (Nat.le_refl _) hg8.1
                clear gr2 hwc g1 gf1 bf1 bE tr1 op1 T1 hB1
                have g2 := (op2.cellAt (k * 2) (by omega)).trans (show (lvV (st ++ [⟨tns, tv, tes⟩]))[k * 2]? = some (.int .i64 tns.length) by rw [HK.out]; exact (lv_last st _).1)
                have hwrs : wr.heap.size < wc.heap.size := bE2.lt
                obtain ⟨hnz, hnm, hpl, hmem, htn, htl, htd, hent, hrem⟩ := HN.out
                have HTN := Lib.hid htn
                have HR := Lib.hid hrem
                have hdq := HD.out _ hmem
                have hsq := HS.out _ hmem
                simp only [List.length_append, List.length_singleton] at hdq
                have hkb : k ≤ 100 := by rw [HK.out]; omega
                have hmem2 := hmem
                clear HN htn hent hrem HE htd hmem
                gi_upto_region 9 with fail
                refine wpIn_wide.2 ?_
                go_cut [7] from 65 to 75 (fun s7 wd => Aside (wd.ownsRow w0.heap.size 9 1 s7 (tns ++ [nm]).length (strsV (tns ++ [nm]))) ∧ Aside (∀ g, s7.ownBlock = some g → m g ∨ wr.heap.size ≤ g) ∧ Turned m wr wd ∧ Below w0.heap.size w0 wd ∧ Blk wd Bf 24 (fsC mi mb nx (.slice af l.length cf)) ∧
                  Aside (wd.ownsRow w0.heap.size 88 2 (.slice (some ⟨g8, 0, none⟩) (k + 1) c8) (k + 1) (lvV (st ++ [⟨tns, tv, tes⟩]))) ∧ Blk wd wr.heap.size 59 #[.string ⟨nm.toArray⟩, .int .i64 z])
                case first =>
                  have HMK : ∀ W', Below wc.heap.size wc W' → (W'.cell? ⟨g8, k * 2, none⟩ = some (.int .i64 tns.length) ∧ W'.cell? ⟨wr.heap.size, 0, none⟩ = some (.string ⟨nm.toArray⟩)) := fun W' h =>
                    ⟨(h.cell (p := ⟨g8, k * 2, none⟩) (op2.lt g8 rfl).2).trans g2, ((bE2.next h).cell 0).trans rfl⟩
                  have hq := (Below.refl wc.heap.size wc).drew
                  have hq2 : Below wc.heap.size wc (wc.alloc (.cells #[.string ⟨nm.toArray⟩] 9)).drew := (alloc_below wc (.cells #[.string ⟨nm.toArray⟩] 9)).drew
                  have kw : IntKind.i64.wrap (tns.length : Int) = (tns.length : Int) := by rw [IntKind.wrap_i64]; omega
                  have k0 : (0 : Int) ≤ (tns.length : Int) := by omega
                  have hwl : w0.heap.size ≤ wc.heap.size := hB2.size
                  have kw : IntKind.i64.wrap (tns.length : Int) = (tns.length : Int) := by rw [IntKind.wrap_i64]; omega
                  have k0 : (0 : Int) ≤ (tns.length : Int) := by omega
                  have hwl : w0.heap.size ≤ wc.heap.size := hB2.size
                  rcases own_cases tr2 with ⟨rfl, hn0, _⟩ | ⟨g7, c7, rfl, hg7, hg7l, hn7, hc7⟩
                  · have htns0 : tns = [] := by rw [HTN.out, List.eq_nil_of_length_eq_zero hn0]; simp
                    subst htns0
                    replace HMK : ∀ W', Below wc.heap.size wc W' → (W'.cell? ⟨g8, k * 2, none⟩ = some (.int .i64 0) ∧ W'.cell? ⟨wr.heap.size, 0, none⟩ = some (.string ⟨nm.toArray⟩)) := HMK
                    have own7 : wc.ownsRow w0.heap.size 9 1 (.slice none 0 0) 0 (strsV []) := World.ownsRow_nil _ _ _ _
                    have nB : some Bf ≠ Value.ownBlock (.slice none 0 0) := by simp [Value.ownBlock]
                    have n8 : some g8 ≠ Value.ownBlock (.slice none 0 0) := by simp [Value.ownBlock]
                    have nE : some wr.heap.size ≠ Value.ownBlock (.slice none 0 0) := by simp [Value.ownBlock]
                    have hrow : ∀ r, Value.ownBlock (.slice none 0 0) = some r → m r ∧ w0.heap.size ≤ r := fun r e => by cases e
                    go_region_held3 (fun W' => W'.cell? ⟨g8, k * 2, none⟩ = some (.int .i64 0) ∧ W'.cell? ⟨wr.heap.size, 0, none⟩ = some (.string ⟨nm.toArray⟩))
                      (first | with_reducible exact HMK _ hq | with_reducible exact HMK _ hq2 | with_reducible exact HS9)
                      (first
                        | (refine step_append_here (by rfl) (.tmp 70) (.tmp 73) 75 9 (by rfl) Try.underlying75 hsi hs0 hs1 hs2 rfl (by decide) (by decide) w0.heap.size ⟨wc.heap.size, 0, none⟩ 1 [.string ⟨nm.toArray⟩] (by rfl) (by rfl) (own_keep (own7) hq2) rfl (cell_one_new _ _ _) (by simp [Value.oneCell']) (by omega) (Nat.le_trans hwl hq2.size) ?_; intro v9 w9 hown9 hgr9 hnew9; have HS9 := And.intro (hgr9.cell (HMK _ hq2).1 n8) (hgr9.cell (HMK _ hq2).2 nE)))
                    go_wp2_with fail
                    go_meet
                    case rel =>
                      have hl9 : (([] : List (List UInt8)) ++ [nm]).length = 0 + 1 := by simp
                      exact ⟨by (show World.ownsRow _ _ _ _ _ _ _); rw [hl9, show strsV ([] ++ [nm]) = strsV [] ++ [.string ⟨nm.toArray⟩] from by simp [strsV]]; exact hown9,
                        (show ∀ g, _ from fun g hg => (hnew9 g hg).elim (fun h => .inl (hrow g h).1) (fun h => .inr (by have := hq2.size; omega))),
                        (T2.trans (Turned.of_below (m := m) hq2) (fun r h => .inl h)).trans (Turned.of_grown (m := m) hgr9 (fun r e => .inl (hrow r e).1)) (fun r h => .inl h),
                        (hB2.trans (hq2.mono hB2.size)).grown hgr9 (Nat.le_trans hwl hq2.size) (fun r e => (hrow r e).2),
                        (bf2.next hq2).kept hgr9 nB, (show World.ownsRow _ _ _ _ _ _ _ from (own_keep op2 hq2).kept hgr9 (.inr n8)), (bE2.next hq2).kept hgr9 nE⟩
                  · unfold maxLen at hc7
                    have own7 := own_take tr2 tns.length htl
                    rw [strsV_take, ← HTN.out] at own7
                    have k1 : (tns.length : Int) ≤ (c7 : Int) := by omega
                    have n78 : g8 ≠ g7 := own_ne2 op2 tr2 (by decide)
                    have n7E : wr.heap.size ≠ g7 := (own_ne tr2 bE2 (by decide)).symm
                    have nB : some Bf ≠ Value.ownBlock (.slice (some ⟨g7, 0, none⟩) tns.length c7) := by simpa [Value.ownBlock] using (own_ne tr2 bf2 (by decide)).symm
                    have n8 : some g8 ≠ Value.ownBlock (.slice (some ⟨g7, 0, none⟩) tns.length c7) := by simpa [Value.ownBlock] using n78
                    have nE : some wr.heap.size ≠ Value.ownBlock (.slice (some ⟨g7, 0, none⟩) tns.length c7) := by simpa [Value.ownBlock] using n7E
                    have hrow : ∀ r, Value.ownBlock (.slice (some ⟨g7, 0, none⟩) tns.length c7) = some r → m r ∧ w0.heap.size ≤ r := fun r e => by cases e; exact ⟨HI.out.trm _ rfl, hg7⟩
                    go_region_held3 (fun W' => W'.cell? ⟨g8, k * 2, none⟩ = some (.int .i64 tns.length) ∧ W'.cell? ⟨wr.heap.size, 0, none⟩ = some (.string ⟨nm.toArray⟩))
                      (first | with_reducible exact HMK _ hq | with_reducible exact HMK _ hq2 | with_reducible exact HS9)
                      (first
                        | (refine step_append_here (by rfl) (.tmp 70) (.tmp 73) 75 9 (by rfl) Try.underlying75 hsi hs0 hs1 hs2 rfl (by decide) (by decide) w0.heap.size ⟨wc.heap.size, 0, none⟩ 1 [.string ⟨nm.toArray⟩] (by rfl) (by rfl) (own_keep (own7) hq2) rfl (cell_one_new _ _ _) (by simp [Value.oneCell']) (by omega) (Nat.le_trans hwl hq2.size) ?_; intro v9 w9 hown9 hgr9 hnew9; have HS9 := And.intro (hgr9.cell (HMK _ hq2).1 n8) (hgr9.cell (HMK _ hq2).2 nE)))
                    go_wp2_with fail
                    go_meet
                    case rel =>
                      have hl9 : (tns ++ [nm]).length = tns.length + 1 := by simp
                      exact ⟨by (show World.ownsRow _ _ _ _ _ _ _); rw [hl9, show strsV (tns ++ [nm]) = strsV tns ++ [.string ⟨nm.toArray⟩] from by simp [strsV]]; exact hown9,
                        (show ∀ g, _ from fun g hg => (hnew9 g hg).elim (fun h => .inl (hrow g h).1) (fun h => .inr (by have := hq2.size; omega))),
                        (T2.trans (Turned.of_below (m := m) hq2) (fun r h => .inl h)).trans (Turned.of_grown (m := m) hgr9 (fun r e => .inl (hrow r e).1)) (fun r h => .inl h),
                        (hB2.trans (hq2.mono hB2.size)).grown hgr9 (Nat.le_trans hwl hq2.size) (fun r e => (hrow r e).2),
                        (bf2.next hq2).kept hgr9 nB, (show World.ownsRow _ _ _ _ _ _ _ from (own_keep op2 hq2).kept hgr9 (.inr n8)), (bE2.next hq2).kept hgr9 nE⟩
                case rest =>
                  obtain ⟨HO9, HN9, T9, hB9, bf9, HP9, bE9⟩ := hcut
                  clear op2 bf2 bE2 tr2 T2 hB2 g2 hwrs
                  obtain ⟨az, nz, cz, hzs⟩ := get_slice hv z
                  have hzm := get_mem hnz
                  have hfind := findF_any mi mb nx z l _ wc (hv.below hB9) hriz (by omega)
                  have hcome := fun (m' : Nat → Prop) (s7' s8' v tev' : Value) (W : World) => HI.out.come (m' := m') (s7' := s7') (s8' := s8') (v := v) (tev' := tev') (W := W) HT.out hsh hv.all
                  have hR2 := HR.out
                  dsimp only at hcome hR2
                  generalize getN l z = Z at *
                  obtain ⟨zi, zk, zl, zd, zp, ze, zn⟩ := Z
                  dsimp only at hzs hR2 hzm
                  subst hzs
                  obtain ⟨hzl, hzi⟩ := hzm
                  subst hzi
                  have HC := Lib.hid hcome
                  have HR3 := Lib.hid hR2
                  clear hcome hR2
                  generalize hasN l zi = rz at *
                  obtain ⟨N, hNN⟩ : ∃ N, N = (tns ++ [nm]).length := ⟨_, rfl⟩
                  have hO9 := HO9.out
                  rw [← hNN] at hO9
                  obtain ⟨g9, c9, rfl, hg9, hg9l, hn9, hc9⟩ : ∃ g9 c9, u7 = .slice (some ⟨g9, 0, none⟩) N c9 ∧ w0.heap.size ≤ g9 ∧ g9 < wc.heap.size ∧ N ≤ c9 ∧ c9 ≤ maxLen := by
                    rcases own_cases hO9 with ⟨_, h0, _⟩ | h
                    · simp at hNN; omega
                    · exact h
                  have HNN := Lib.hid hNN
                  clear hNN HO9
                  obtain ⟨⟨p0, p1, p2, p3⟩, _⟩ := bf9.four
                  have cE := (bE9.cell 1).trans (rfl : _ = some (Value.int .i64 zi))
                  gi_wp2_with fail
                  refine ⟨trivial, ?_⟩
                  gi_at_call 54
                  refine (callsIn_wide.2 hfind).mono ?_
                  rintro e w10 ⟨rfl, b10⟩
                  clear hfind p0 p1 p2 p3 cE
                  gi_upto_region 11 with fail
                  have b11 := b10.trans ((alloc_below w10 (.cells (ndC ⟨zi, zk, zl, zd, zp, .slice az nz cz, zn⟩) 33)).mono b10.size)
                  have bX := Blk.new w10 33 (ndC ⟨zi, zk, zl, zd, zp, .slice az nz cz, zn⟩)
                  generalize hw11 : w10.alloc (.cells (ndC ⟨zi, zk, zl, zd, zp, .slice az nz cz, zn⟩) 33) = w11 at *
                  have T11 := T9.trans (Turned.of_below (m := m) b11.drew) (fun r h => .inl h)
                  have hB11 := hB9.trans (b11.drew.mono hB9.size)
                  have bf11 := bf9.next b11.drew
                  have op11 := own_keep HP9.out b11.drew
                  have tr11 := own_keep hO9 b11.drew
                  have bX11 : Blk w11.drew w10.heap.size 33 (ndC ⟨zi, zk, zl, zd, zp, .slice az nz cz, zn⟩) := bX
                  have hs11 : w11.drew.heap.size = w11.heap.size := rfl
                  have hw1011 : w10.heap.size < w11.heap.size := bX.lt
                  have hwr10 : wr.heap.size ≤ w10.heap.size := Nat.le_trans T9.size b10.size
                  obtain ⟨m1, hm1⟩ : ∃ m1 : Nat → Prop, m1 = fun k => m k ∨ (wr.heap.size ≤ k ∧ k < w11.heap.size) := ⟨_, rfl⟩
                  have hJ1 : J m1 pre w11.drew := hJ m _ pre wr _ HI.out.hJ T11 (fun r h => by rw [hm1] at h; exact h.imp id (·.1))
                  have hms1 : ∀ k, m1 k → k < w11.heap.size := fun k hk => by rw [hm1] at hk; exact hk.elim (fun h => by have := HI.out.ms k h; omega) (·.2)
                  have hm1m : ∀ k, m k → m1 k := fun k hk => by rw [hm1]; exact .inl hk
                  have hm1n : ∀ k, wr.heap.size ≤ k → k < w11.heap.size → m1 k := fun k h1 h2 => by rw [hm1]; exact .inr ⟨h1, h2⟩
                  have hm19 : m1 g9 := (HN9.out g9 rfl).elim (hm1m g9) (fun h => hm1n g9 h (by have := b11.size; omega))
                  have hm18 : m1 g8 := hm1m g8 (HI.out.opm g8 rfl)
                  have hm1X : m1 w10.heap.size := hm1n _ hwr10 hw1011
                  have hm1B : m1 Bf := hm1m Bf (HI.out.m0 Bf hmf)
                  clear hm1
                  obtain ⟨fn, tmps, assign, body, hy0, hR⟩ := hY m1 pre ⟨tns ++ [nm], .slice (some ⟨g9, 0, none⟩) N N, ⟨zi, zk, zl, zd, zp, .slice az nz cz, zn⟩⟩ w11.drew hJ1 hms1
                    ⟨strs_closed (own_strs (by rw [HNN.out] at tr11 ⊢; exact tr11)) N, hzl, by dsimp only; rw [List.length_append, List.length_singleton]; omega, by dsimp only at hsq ⊢; omega⟩ hpl
                  have hy : (Instr.yield lr #[.slice (some ⟨g9, 0, none⟩) N N, .agg (ndC ⟨zi, zk, zl, zd, zp, .slice az nz cz, zn⟩)]).run Try.prog w11.drew = .ok (.round lr fn tmps assign body) w11.drew := hy0
                  clear hy0 hO9 HP9 hB9 bf9 bE9 T9 hw11
                  obtain ⟨⟨x0, x1, x2, x3, x4, x5⟩, _⟩ := bX11.six
                  dsimp only at x0 x1 x2 x3 x4 x5
                  have HKK : ∀ W3, KeptM w0.heap.size m1 w11.drew W3 → (W3.cell? ⟨w10.heap.size, 0, none⟩ = some (.int .i64 zi) ∧ W3.cell? ⟨w10.heap.size, 1, none⟩ = some (.int .i64 zk) ∧ W3.cell? ⟨w10.heap.size, 2, none⟩ = some (.int .i64 zl) ∧ W3.cell? ⟨w10.heap.size, 3, none⟩ = some (.string ⟨zd.toArray⟩) ∧ W3.cell? ⟨w10.heap.size, 4, none⟩ = some (.int .i64 zp) ∧ W3.cell? ⟨w10.heap.size, 5, none⟩ = some (.slice az nz cz)) := fun W3 h =>
                    ⟨(World.cell?_of_block (h.mine _ hm1X)).trans x0, (World.cell?_of_block (h.mine _ hm1X)).trans x1, (World.cell?_of_block (h.mine _ hm1X)).trans x2, (World.cell?_of_block (h.mine _ hm1X)).trans x3, (World.cell?_of_block (h.mine _ hm1X)).trans x4, (World.cell?_of_block (h.mine _ hm1X)).trans x5⟩
                  generalize hX : w10.heap.size = X at *
                  (refine wpIn_region_heldG (fun W => W.cell? ⟨X, 0, none⟩ = some (.int .i64 zi) ∧ W.cell? ⟨X, 1, none⟩ = some (.int .i64 zk) ∧ W.cell? ⟨X, 2, none⟩ = some (.int .i64 zl) ∧ W.cell? ⟨X, 3, none⟩ = some (.string ⟨zd.toArray⟩) ∧ W.cell? ⟨X, 4, none⟩ = some (.int .i64 zp) ∧ W.cell? ⟨X, 5, none⟩ = some (.slice az nz cz)) (by kernel_rfl) (⟨x0, x1, x2, x3, x4, x5⟩) (fun hHeld => ?_))
                  clear x0 x1 x2 x3 x4 x5
                  (refine takeG 0 (some 82) (v := ?_) (fun _ => trivial) (by kernel_rfl) rfl rfl (by kernel_rfl) (by kernel_rfl) (by kernel_rfl) (fun _ _ _ h => h) (by rfl) ?_ (by assumption) ?_; rotate_left; (focus (intro w hSw; (try dsimp only at hSw); go_simp; try with_reducible rfl)); (try simp only [Act.put, List.setIfInBounds_toArray, List.set_cons_zero, List.set_cons_succ]))
                  (refine takeG 1 (some 83) (v := ?_) (fun _ => trivial) (by kernel_rfl) rfl rfl (by kernel_rfl) (by kernel_rfl) (by kernel_rfl) (fun _ _ _ h => h) (by rfl) ?_ (by assumption) ?_; rotate_left; (focus (intro w hSw; (try dsimp only at hSw); go_simp; try with_reducible rfl)); (try simp only [Act.put, List.setIfInBounds_toArray, List.set_cons_zero, List.set_cons_succ]))
                  (refine takeG 3 (some 85) (v := ?_) (fun _ => trivial) (by kernel_rfl) rfl rfl (by kernel_rfl) (by kernel_rfl) (by kernel_rfl) (fun _ _ _ h => h) (by rfl) ?_ (by assumption) ?_; rotate_left; (focus (intro w hSw; (try dsimp only at hSw); go_simp; try with_reducible rfl)); (try simp only [Act.put, List.setIfInBounds_toArray, List.set_cons_zero, List.set_cons_succ]))
                  (refine readyG (rs := [2]) (by kernel_rfl) (by simp) ?_; refine AllReadyG.cons rfl (fun K hK => ?_) AllReadyG.nil; go_simp; (refine ⟨trivial, ?_⟩; refine (callsIn_wide.2 (closed_any (some ⟨g9, 0, none⟩) N c9 _ hn9 hc9 (fun h => by cases h))).mono ?_; rintro e wz ⟨rfl, hwz⟩; subst hwz); (try dsimp only); refine hK.out _ _ (hHeld) (fun hHeld => ?_); clear hK K; (try simp only [Act.put, List.setIfInBounds_toArray, List.set_cons_zero, List.set_cons_succ]))
                  (refine readyG (rs := [4]) (by kernel_rfl) (by simp) ?_; refine AllReadyG.cons rfl (fun K hK => ?_) AllReadyG.nil; go_simp; (refine hR.mono ?_; rintro e W4 ⟨b, rfl, hKe, hbT, hbF⟩); (try dsimp only); refine hK.out _ _ (HKK _ hKe) (fun hHeld => ?_); clear hK K; (try simp only [Act.put, List.setIfInBounds_toArray, List.set_cons_zero, List.set_cons_succ]))
                  clear hR hy HKK
                  (refine takeG 5 (some 87) (v := ?_) (fun _ => trivial) (by kernel_rfl) rfl rfl (by kernel_rfl) (by kernel_rfl) (by kernel_rfl) (fun _ _ _ h => h) (by rfl) ?_ (by assumption) ?_; rotate_left; (focus (intro w hSw; (try dsimp only at hSw); go_simp; try with_reducible rfl)); (try simp only [Act.put, List.setIfInBounds_toArray, List.set_cons_zero, List.set_cons_succ]))
                  refine doneG (by kernel_rfl) ?_ _
                  clear hHeld
                  have HREL := HI.out.rel
                  cases b
                  · have HF := Lib.hid (hbF rfl)
                    have HPF : Hid ((pre ++ [(⟨tns ++ [nm], .slice (some ⟨g9, 0, none⟩) N N, ⟨zi, zk, zl, zd, zp, .slice az nz cz, zn⟩⟩ : St8)]).map keyS <+: walkS l gi ns) := by
                      show _ <+: _
                      rw [HREL, List.length_cons, HR3.out, List.map_append]
                      exact ⟨_, by rw [List.append_assoc]; rfl⟩
                    clear hbT hbF
                    gi_wp2
                    go_end0
                    exact ⟨⟨_, rfl⟩, .inr ⟨m1, _, HPF.out, HF.out⟩⟩
                  · have hJ4 := hbT rfl
                    clear hbT hbF HREL
                    have bf4 : Blk W4 Bf 24 (fsC mi mb nx (.slice af l.length cf)) := (hKe.mine Bf hm1B).trans bf11
                    have bX4 : Blk W4 X 33 (ndC ⟨zi, zk, zl, zd, zp, .slice az nz cz, zn⟩) := (hKe.mine X hm1X).trans bX11
                    have op4 := row_same op11 (B := W4) (fun g hg => by simp [Value.ownBlock] at hg; subst hg; exact hKe.mine _ hm18)
                    have tr4 := row_same tr11 (B := W4) (fun g hg => by simp [Value.ownBlock] at hg; subst hg; exact hKe.mine _ hm19)
                    have hB4 := hB11.trans hKe.below
                    have hms4 : ∀ q, m1 q → q < W4.heap.size := fun q hq => Nat.lt_of_lt_of_le (hms1 q hq) hKe.below.size
                    have hm14 : ∀ q, m₀ q → m1 q := fun q hq => hm1m q (HI.out.m0 q hq)
                    have HM2 : Hid (2 * ((kidsS l (tns ++ [nm]) zn).length + (remS l (st ++ [⟨tns, tv, tes⟩])).length) + 2 + (k + 1) ≤ gk) := by
                      show _ ≤ _
                      have h1 := HM.out
                      rw [List.length_cons, HR3.out] at h1
                      rw [remS_push] at h1 ⊢
                      simp only [List.length_cons, List.length_append] at h1 ⊢
                      omega
                    obtain ⟨⟨x0, x1, x2, x3, x4, x5⟩, _⟩ := bX4.six
                    dsimp only at x0 x1 x2 x3 x4 x5
                    clear bf11 bX11 op11 tr11 hB11 T11 hJ1 hms1 hm1m hm1n hm1X hm1B bX hKe
                    cases hk2 : (zk == 2)
                    · have hk2' : zk ≠ 2 := by simpa using hk2
                      have HI2 := HC.out m1 (.slice (some ⟨g9, 0, none⟩) N c9) (.slice (some ⟨g8, 0, none⟩) (k + 1) c8) (.slice (some ⟨g9, 0, none⟩) N N) tv W4 hJ4 hms4 hm14 hB4 bf4 (by rw [← HNN.out]; exact tr4)
                        (fun g hg => by simp [Value.ownBlock] at hg; subst hg; exact hm19) hEt (st ++ [⟨tns, tv, tes⟩]) (.inr ⟨rfl, hk2'⟩) (by rw [List.length_append, List.length_singleton, ← HK.out]; exact op4) (fun g hg => by simp [Value.ownBlock] at hg; subst hg; exact hm18)
                      have HI3 := Lib.hid HI2
                      clear HI2 HC HR3 hJ4 hms4 hm14 hB4 bf4 tr4 op4 hEt hk2'
                      gi_wp2
                      gi_roundg tes.length
                      case rel => exact ⟨rfl, m1, _, tv, tes, tns ++ [nm], rfl, HI3.out, by (show _ ≤ _); have := HM2.out; omega⟩
                      case measure => simp
                    · obtain rfl : zk = 2 := by simpa using hk2
                      clear hk2
                      obtain ⟨il, hli, hl0, hl1, hl2⟩ := info_parts infoL
                      gi_upto_region 13 with fail
                      refine wpIn_wide.2 ?_
                      have hwl4 : w0.heap.size ≤ W4.heap.size := hB4.size
                      go_wp2_with (at_builtin; refine wpList_append_here rfl (.tmp 91) (.tmp 97) 89 88 rfl Try.underlying89 hli hl0 hl1 hl2 rfl (by decide) (by decide) w0.heap.size (v := .slice (some ⟨g8, 0, none⟩) (k + 1) c8) _ 1 rfl rfl op4 rfl (by simp [Value.oneCell']) (by omega) hwl4 ?_; intro v13 w13 hown13 hgr13 hnew13)
                      have hal4 := alloc_below W4 (.cells #[.int .i64 N, .slice az nz cz] 88)
                      have T13 := (Turned.of_below (m := m1) hal4).trans (Turned.of_grown (m := m1) hgr13 (fun r e => by cases e; exact .inl hm18)) (fun r h => .inl h)
                      have hB13 := (hB4.trans (hal4.mono hB4.size)).grown hgr13 (Nat.le_trans hwl4 hal4.size) (fun r e => by cases e; exact (op4.lt g8 rfl).1)
                      have bf13 := (bf4.alloc (.cells #[.int .i64 N, .slice az nz cz] 88)).kept hgr13 (by simpa [Value.ownBlock] using (own_ne op4 bf4 (by decide)).symm)
                      have tr13 := (tr4.alloc (.cells #[.int .i64 N, .slice az nz cz] 88)).kept hgr13 (.inr (by simpa [Value.ownBlock] using own_ne2 tr4 op4 (by decide)))
                      have h13s := hgr13.size
                      rw [World.size_alloc] at h13s
                      have hI13 := HC.out (fun q => m1 q ∨ (W4.heap.size ≤ q ∧ q < w13.heap.size)) (.slice (some ⟨g9, 0, none⟩) N c9) v13 (.slice (some ⟨g9, 0, none⟩) N N) tv w13
                        (hJ m1 _ _ W4 w13 hJ4 T13 (fun r h => h.imp id (·.1))) (fun q hq => hq.elim (fun h => by have := hms4 q h; omega) (·.2)) (fun q hq => .inl (hm14 q hq)) hB13 bf13 (by rw [← HNN.out]; exact tr13)
                        (fun g hg => by simp [Value.ownBlock] at hg; subst hg; exact .inl hm19) hEt (st ++ [⟨tns, tv, tes⟩] ++ [⟨tns ++ [nm], .slice az nz cz, zn⟩]) (.inl rfl)
                        (by
                          rw [lvV_append, List.length_append, List.length_append, List.length_singleton, List.length_singleton, ← HK.out]
                          show World.ownsRow _ _ _ _ _ _ (_ ++ [.int .i64 ((tns ++ [nm]).length : Int), .slice az nz cz])
                          rw [← HNN.out]
                          exact hown13)
                        (fun g hg => (hnew13 g hg).elim (fun h => by simp [Value.ownBlock] at h; subst h; exact .inl hm18) (fun h => .inr ⟨by omega, (hown13.lt g hg).2⟩))
                      have HI13 := Lib.hid hI13
                      clear hI13 HC HR3 hJ4 hms4 hm14 hB4 bf4 tr4 op4 hEt hgr13 hnew13 hown13 T13 hB13 bf13 tr13
                      gi_wp2
                      gi_roundg (2 * ((kidsS l (tns ++ [nm]) zn).length + (remS l (st ++ [⟨tns, tv, tes⟩])).length) + (k + 1 + 1))
                      case rel => exact ⟨_, _, _, _, by rw [remS_push l (st ++ [(⟨tns, tv, tes⟩ : Lv)]) ⟨tns ++ [nm], .slice az nz cz, zn⟩]; simp only [List.length_append, List.length_singleton, ← HK.out], HI13.out⟩
                      case measure => have := HM2.out; omega
end Go.Proofs.Ytpeghnhaekebdaa
