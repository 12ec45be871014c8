/- Texts put together: WalkB10, WalkC10, Concat10. -/
import Derived.Test.YtdgedcfenpmaoaaGreatQMWalkF10
import Derived.Test.YtdgedcfenpmaoaaGreatQMWalkF03
import Derived.Test.YtdgedcfenpmaoaaGreatQWalkA08
import Derived.Deep.RegionHeld3
import Derived.Deep.Cut
import Derived.Deep.CutRange
import Derived.Test.YtdgedcfenpmaoaaGreatQMWalkD05
set_option linter.unusedVariables false
set_option linter.unusedSimpArgs false
/- Walks: the document's way on, names with room behind them. -/
set_option linter.unusedVariables false
set_option linter.unusedSimpArgs false
namespace Go.Proofs.YtdgedcfenpmaoaaGreat
open Go.RowKit

/-- A slice's room. -/
def CapOk (v : Value) : Prop := ∃ a n c, v = .slice a n c ∧ n ≤ c ∧ c ≤ maxLen ∧ (a = none → c = 0)
def StrsC (w : World) (v : Value) (l : List (List UInt8)) : Prop := Strs w v l ∧ CapOk v
theorem StrsC.below {w w' : World} {v : Value} {l : List (List UInt8)} (h : StrsC w v l) (hb : Below w.heap.size w w') : StrsC w' v l := ⟨h.1.below hb, h.2⟩
theorem own_cap {w : World} {base : Nat} {e : TypeId} {size : Nat} {v : Value} {n : Nat} {xs : List Value} (h : w.ownsRow base e size v n xs) : CapOk v := by
  rcases own_cases h with ⟨rfl, _⟩ | ⟨g, cap, rfl, _, _, h1, h2⟩
  · exact ⟨_, _, _, rfl, Nat.le_refl _, Nat.zero_le _, fun _ => rfl⟩
  · exact ⟨_, _, _, rfl, h1, h2, fun h => by cases h⟩
theorem own_strsC {w : World} {base : Nat} {e : TypeId} {v : Value} {n : Nat} {l : List (List UInt8)} (h : w.ownsRow base e 1 v n (strsV l)) : StrsC w v l := ⟨own_strs h, own_cap h⟩
theorem strs_nil {w : World} {v : Value} (h : StrsC w v []) : ∃ a c, v = .slice a 0 c := by
  obtain ⟨a, c, rfl, _⟩ := h.1
  exact ⟨a, c, rfl⟩
theorem strs_cons {w : World} {v : Value} {n : List UInt8} {r : List (List UInt8)} (h : StrsC w v (n :: r)) : ∃ b o M c, v = .slice (some ⟨b, o, none⟩) M c ∧ M = r.length + 1 ∧ M ≤ c ∧ c ≤ maxLen ∧ b < w.heap.size ∧ w.cell? ⟨b, o, none⟩ = some (.string ⟨n.toArray⟩) ∧
    (∀ i (hi : i < r.length), w.cell? ⟨b, o + 1 + i, none⟩ = some (.string ⟨r[i].toArray⟩)) := by
  obtain ⟨⟨a, c, rfl, hm, h1⟩, a2, n2, c2, e2, h2, h3, h4⟩ := h
  simp only [Value.slice.injEq] at e2
  obtain ⟨rfl, rfl, rfl⟩ := e2
  obtain ⟨b, o, rfl, hb, hc⟩ := h1 (by simp)
  refine ⟨b, o, _, c, rfl, by simp, h2, h3, hb, hc 0 (by simp), fun i hi => ?_⟩
  have := hc (i + 1) (by simp; omega)
  rw [show o + (i + 1) = o + 1 + i from by omega] at this
  simpa using this
theorem strs_rest {w : World} {b o : Nat} {r : List (List UInt8)} (hb : b < w.heap.size) (hc : ∀ i (hi : i < r.length), w.cell? ⟨b, o + 1 + i, none⟩ = some (.string ⟨r[i].toArray⟩)) (a : Option Addr) (n c : Nat) (hn : n = r.length) (hnc : n ≤ c) (hcm : c ≤ maxLen) (h0 : a = none → c = 0) (ha : 0 < r.length → a = some ⟨b, o + 1, none⟩) :
    StrsC w (.slice a n c) r := by
  subst hn
  exact ⟨⟨a, c, rfl, by omega, fun hl => ⟨b, o + 1, ha hl, hb, hc⟩⟩, a, _, c, rfl, hnc, hcm, h0⟩
theorem strs_src {w : World} {a : Option Addr} {n c : Nat} {l : List (List UInt8)} (h : StrsC w (.slice a n c) l) : n = l.length ∧ (a = none → n = 0 ∧ c = 0) ∧ ∀ ad, a = some ad → ∀ j u, (strsV l)[j]? = some u → w.cell? (ad.add j) = some u := by
  obtain ⟨⟨a1, c1, e1, hm, h1⟩, a2, n2, c2, e2, h2, h3, h4⟩ := h
  simp only [Value.slice.injEq] at e1 e2
  obtain ⟨rfl, rfl, rfl⟩ := e1
  obtain ⟨rfl, rfl, rfl⟩ := e2
  refine ⟨rfl, fun h => ⟨by have := h4 h; omega, h4 h⟩, fun ad had j u hu => ?_⟩
  have hj : j < l.length := by
    rcases Nat.lt_or_ge j (strsV l).length with h | h
    · simpa [strsV] using h
    · rw [List.getElem?_eq_none h] at hu; cases hu
  obtain ⟨b, o, e3, hb, hc⟩ := h1 (by omega)
  rw [had] at e3
  obtain rfl := Option.some.inj e3
  rw [Addr.add_lit, hc j hj, ← hu]
  simp [strsV, List.getElem?_eq_getElem hj]
theorem strsV_append (a b : List (List UInt8)) : strsV (a ++ b) = strsV a ++ strsV b := by simp [strsV]
theorem strsV_one (l : List (List UInt8)) : ∀ u ∈ strsV l, u.oneCell' = true := by
  intro u hu; obtain ⟨_, _, rfl⟩ := List.mem_map.1 hu; rfl
theorem strsV_len (l : List (List UInt8)) : (strsV l).length = l.length * 1 := by simp [strsV]

set_option maxHeartbeats 1000000 in
theorem refReadC_any (p : List UInt8) (w : World) (hp : p.length ≤ 1000000) :
    Calls Tryz.prog 34 #[.string ⟨p.toArray⟩] w fun e w' => ∃ v, e = .returned (.agg (pathR (absB p) v (slashB p))) ∧ StrsC w' v (namesB p) ∧ Below w.heap.size w w' := by
  have hct := namesB_count p
  have b0 := Blk.new w 61 (pathR false (.slice none 0 0) false)
  have h0 : Below w.heap.size w (w.alloc (.cells (pathR false (.slice none 0 0) false) 61)) := (Below.refl _ w).alloc (Nat.le_refl _) _
  go_enter Tryz.func34, Tryz.ntmps34
  go_wp2_with fail; refine (refNames_any p _ hp).mono ?_; rintro e w1 ⟨v, rfl, hown, h1⟩
  have b1 := b0.next h1
  have hs := own_strs hown
  have hcap := own_cap hown
  have hB1 := h0.trans (h1.mono h0.size)
  have d0 := b1.cell 0
  have d1 := b1.cell 1
  have d2 := b1.cell 2
  have e0 := b1.frozen 0
  have e1 := b1.frozen 1
  have e2 := b1.frozen 2
  simp [pathR] at d0 d1 d2
  have hlt := b1.lt
  have HS := Lib.hid hs
  have HB1 := Lib.hid hB1
  obtain ⟨ad, ca, rfl, hm, HA0⟩ := hs
  clear HA0 hm hown h1 h0 b0 hB1
  by_cases hpos : 0 < p.length
  · have HAb := Lib.hid (absB_at hpos)
    have HEb := Lib.hid (endB_at hpos)
    by_cases hn : 0 < (namesB p).length
    · have HSl : Hid (slashB p = ((p[p.length - 1].toNat : Int) == 47)) := by
        have : (namesB p).isEmpty = false := by rw [List.isEmpty_eq_false_iff]; intro e; rw [e] at hn; simp at hn
        (show _ = _); unfold slashB; rw [this, HEb.out]; rfl
      have k1 : (0 : Int) ≤ (p.length : Int) - 1 := by omega
      have k2 : (p.length : Int) - 1 < (p.length : Int) := by omega
      have k3 : ((p.length : Int) - 1).toNat = p.length - 1 := by omega
      go_wp2
      obtain ⟨W, hW, hb, hsW, hBW⟩ := read_close (a := ((p[0].toNat : Int) == 47)) (s := ((p[p.length - 1].toNat : Int) == 47)) b1 HB1.out HS.out
      try simp only [pathR] at hW
      rw [← hW]
      have g0 := hb.cell 0
      have g1 := hb.cell 1
      have g2 := hb.cell 2
      simp [pathR] at g0 g1 g2
      refine bodyPost_ret (v := .agg (pathR ((p[0].toNat : Int) == 47) (.slice ad (namesB p).length ca) ((p[p.length - 1].toNat : Int) == 47))) (by simp [results, Tryz.f34, go_sem, g0, g1, g2]) rfl ?_
      exact ⟨_, by rw [HAb.out, HSl.out], ⟨hsW, hcap⟩, hBW⟩
    · have HSl : Hid (slashB p = false) := by
        have : (namesB p).isEmpty = true := by rw [List.isEmpty_iff]; exact List.eq_nil_of_length_eq_zero (by omega)
        (show _ = _); unfold slashB; rw [this]; rfl
      go_wp2
      obtain ⟨W, hW, hb, hsW, hBW⟩ := read_close (a := ((p[0].toNat : Int) == 47)) (s := false) b1 HB1.out HS.out
      try simp only [pathR] at hW
      rw [← hW]
      have g0 := hb.cell 0
      have g1 := hb.cell 1
      have g2 := hb.cell 2
      simp [pathR] at g0 g1 g2
      refine bodyPost_ret (v := .agg (pathR ((p[0].toNat : Int) == 47) (.slice ad (namesB p).length ca) false)) (by simp [results, Tryz.f34, go_sem, g0, g1, g2]) rfl ?_
      exact ⟨_, by rw [HAb.out, HSl.out], ⟨hsW, hcap⟩, hBW⟩
  · obtain rfl : p = [] := List.eq_nil_of_length_eq_zero (by omega)
    have hn0 : (namesB []).length = 0 := rfl
    go_wp2
    obtain ⟨W, hW, hb, hsW, hBW⟩ := read_close (a := false) (s := false) b1 HB1.out (show Strs w1 (.slice ad 0 ca) (namesB []) from HS.out)
    try simp only [pathR] at hW
    rw [← hW]
    have g0 := hb.cell 0
    have g1 := hb.cell 1
    have g2 := hb.cell 2
    simp [pathR] at g0 g1 g2
    refine bodyPost_ret (v := .agg (pathR false (.slice ad 0 ca) false)) (by simp [results, Tryz.f34, go_sem, g0, g1, g2]) rfl ?_
    exact ⟨_, by rw [show absB [] = false from rfl, show slashB [] = false from rfl], ⟨hsW, hcap⟩, hBW⟩
end Go.Proofs.YtdgedcfenpmaoaaGreat

/- Walks: the document's way on: nothing left to go; one name. -/
set_option linter.unusedVariables false
set_option linter.unusedSimpArgs false
namespace Go.Proofs.YtdgedcfenpmaoaaGreat
open Go.RowKit

/-- What 'on' answers. -/
def OnC (mi mb nx : Int) (l : List Nd) (v : Value) (fo : Bool) (g : Nat) (todo : List (List UInt8)) : Prop :=
  ∀ (s : Sp) (dir : Bool) (lo : Int) (vt : Value) (w : World), lo = 40 - (g : Int) → Nds w v l → StrsC w vt todo →
    Calls Tryz.prog 38 #[.agg (fsC mi mb nx v), .agg (spC s), vt, .bool fo, .bool dir, .int .i64 lo] w fun e w' =>
      e = .returned (.tuple #[.agg (spC (onN l fo g s todo dir).1), .int .i64 (onN l fo g s todo dir).2]) ∧ Below w.heap.size w w'

set_option maxHeartbeats 8000000 in
set_option maxRecDepth 100000 in
theorem refOn_nil (mi mb nx : Int) (l : List Nd) (v : Value) (fo : Bool) (g : Nat) : OnC mi mb nx l v fo g [] := by
  intro s dir lo vt w hlo hv hst
  obtain ⟨a, ca, rfl⟩ := nds_slice hv
  obtain ⟨at_, ct, rfl⟩ := strs_nil hst
  have bF := ((Blk.new w 24 (fsC mi mb nx (.slice a l.length ca))).alloc (.cells (spC s) 37)).alloc (.cells (spC zeroS) 37)
  have bS := (Blk.new (w.alloc (.cells (fsC mi mb nx (.slice a l.length ca)) 24)) 37 (spC s)).alloc (.cells (spC zeroS) 37)
  have bR := Blk.new ((w.alloc (.cells (fsC mi mb nx (.slice a l.length ca)) 24)).alloc (.cells (spC s) 37)) 37 (spC zeroS)
  have hB0 : Below w.heap.size w (((w.alloc (.cells (fsC mi mb nx (.slice a l.length ca)) 24)).alloc (.cells (spC s) 37)).alloc (.cells (spC zeroS) 37)) := (((Below.refl _ w).alloc (Nat.le_refl _) _).alloc (by simp) _).alloc (by simp; omega) _
  simp only [World.size_alloc] at bS bR
  have hG := refGetT_any mi mb nx s.ino l _ _ (hv.below hB0)
  have hon := on_nil l fo g s dir
  obtain ⟨ag, ng, cg, hgs⟩ := get_slice hv s.ino
  generalize getN l s.ino = G at *
  generalize hasN l s.ino = r at *
  generalize onN l fo g s [] dir = Q at *
  obtain ⟨gi, gk, gl, gd, gp, ge, gn⟩ := G
  obtain ⟨sd, sn, si⟩ := s
  dsimp only at hgs hon hG bF bS hB0
  subst hgs
  have HON := Lib.hid hon
  clear hon hv hst
  obtain ⟨⟨p0, p1, p2, p3⟩, _⟩ := bF.four
  obtain ⟨⟨s0, s1, s2⟩, _⟩ := bS.three
  dsimp only at s0 s1 s2
  go_enter Tryz.func38, Tryz.ntmps38
  go_wp2_with fail
  refine hG.mono ?_
  rintro e w1 ⟨rfl, b1⟩
  clear hG p0 p1 p2 p3 s0 s1 s2
  have b2 := alloc_below w1 (.cells (ndC ⟨gi, gk, gl, gd, gp, .slice ag ng cg, gn⟩) 42)
  have b3 := b1.trans (b2.mono b1.size)
  have bX := Blk.new w1 42 (ndC ⟨gi, gk, gl, gd, gp, .slice ag ng cg, gn⟩)
  have hB := hB0.trans (b3.mono hB0.size)
  have bR2 := bR.next b3
  have bS2 := bS.next b3
  obtain ⟨⟨x0, x1, x2, x3, x4, x5⟩, _⟩ := bX.six
  obtain ⟨⟨s0, s1, s2⟩, _⟩ := bS2.three
  obtain ⟨⟨r0, r1, r2⟩, e0, e1, e2⟩ := bR2.three
  dsimp only at x0 x1 x2 x3 x4 x5 s0 s1 s2
  clear b1 b2 b3 hB0 bF bS bR bX
  cases hc : (r && dir && gk != 2)
  · have HN : Hid (Q = (⟨sd, sn, si⟩, 0)) := by (show _ = _); rw [HON.out, hc]; rfl
    obtain ⟨W', hW', hb3, hg3⟩ := bR2.put3 (.int .i64 sd) (.string ⟨sn.toArray⟩) (.int .i64 si)
    have hbl := below_grown hB hg3 (Nat.le_refl _) (by omega)
    clear HON
    cases r
    · go_wp2
      obtain ⟨⟨y0, y1, y2⟩, _⟩ := hb3.three
      refine bodyPost_ret (v := .tuple #[.agg #[.int .i64 sd, .string ⟨sn.toArray⟩, .int .i64 si], .int .i64 0]) (by simp [results, Tryz.f38, go_sem, y0, y1, y2]) rfl ?_
      exact ⟨by rw [HN.out], hbl⟩
    · cases dir
      · go_wp2
        obtain ⟨⟨y0, y1, y2⟩, _⟩ := hb3.three
        refine bodyPost_ret (v := .tuple #[.agg #[.int .i64 sd, .string ⟨sn.toArray⟩, .int .i64 si], .int .i64 0]) (by simp [results, Tryz.f38, go_sem, y0, y1, y2]) rfl ?_
        exact ⟨by rw [HN.out], hbl⟩
      · obtain rfl : gk = 2 := by simpa using hc
        clear hc
        go_wp2
        obtain ⟨⟨y0, y1, y2⟩, _⟩ := hb3.three
        refine bodyPost_ret (v := .tuple #[.agg #[.int .i64 sd, .string ⟨sn.toArray⟩, .int .i64 si], .int .i64 0]) (by simp [results, Tryz.f38, go_sem, y0, y1, y2]) rfl ?_
        exact ⟨by rw [HN.out], hbl⟩
  · have HN : Hid (Q = (zeroS, 3)) := by (show _ = _); rw [HON.out, hc]; rfl
    obtain ⟨W', hW', hb3, hg3⟩ := bR2.put3 (.int .i64 0) (.string ⟨#[]⟩) (.int .i64 0)
    have hbl := below_grown hB hg3 (Nat.le_refl _) (by omega)
    clear HON
    rw [Bool.and_eq_true, Bool.and_eq_true] at hc
    obtain ⟨⟨rfl, rfl⟩, hk⟩ := hc
    have hk2 : ¬ gk = 2 := by simpa using hk
    clear hk
    go_wp2
    obtain ⟨⟨y0, y1, y2⟩, _⟩ := hb3.three
    refine bodyPost_ret (v := .tuple #[.agg #[.int .i64 0, .string ⟨#[]⟩, .int .i64 0], .int .i64 3]) (by simp [results, Tryz.f38, go_sem, y0, y1, y2]) rfl ?_
    exact ⟨by rw [HN.out], hbl⟩
end Go.Proofs.YtdgedcfenpmaoaaGreat

/- Walks: slices.Grow from nil, slices.Concat, of texts. -/
set_option linter.unusedVariables false
set_option linter.unusedSimpArgs false
namespace Go.Proofs.YtdgedcfenpmaoaaGreat
open Go.RowKit

theorem infoT10 : (Tryz.prog.info? 9).map (fun i => (i.zero, i.size, i.bytes)) = some (some (.string ⟨#[]⟩), 1, 16) := by kernel_rfl

/-- A slice of slices of texts. -/
def PartsS (w : World) (v : Value) (ps : List (List (List UInt8))) : Prop :=
  ∃ a cap, v = .slice a ps.length cap ∧ (0 < ps.length → ∃ b off, a = some ⟨b, off, none⟩ ∧ b < w.heap.size ∧ ∀ i (h : i < ps.length), ∃ x, w.cell? ⟨b, off + i, none⟩ = some x ∧ StrsC w x ps[i])

theorem flatS_take (ps : List (List (List UInt8))) (k : Nat) (h : k < ps.length) : (ps.take (k + 1)).flatten = (ps.take k).flatten ++ ps[k] := by
  rw [List.take_succ_eq_append_getElem h, List.flatten_append]; simp
def flatT (ps : List (List (List UInt8))) (k : Nat) : Nat := (ps.take k).flatten.length
theorem flatT_next {ps : List (List (List UInt8))} {k : Nat} (h : k < ps.length) : flatT ps (k + 1) = flatT ps k + ps[k].length := by
  unfold flatT; rw [flatS_take ps k h, List.length_append]
theorem flatT_le (ps : List (List (List UInt8))) (k : Nat) : flatT ps k ≤ ps.flatten.length := by
  unfold flatT; conv => rhs; rw [← List.take_append_drop k ps, List.flatten_append, List.length_append]
  omega
theorem flatT_end (ps : List (List (List UInt8))) : flatT ps ps.length = ps.flatten.length := by unfold flatT; rw [List.take_length]

set_option maxRecDepth 100000 in
set_option maxHeartbeats 2000000 in
theorem GrowS_any (n : Nat) (hn : n ≤ 1000000) (w : World) :
    Calls Tryz.prog 98 #[.slice none 0 0, .int .i64 n] w fun e w' => ∃ v, e = .returned v ∧ w'.ownsRow w.heap.size 9 1 v 0 [] ∧ Below w.heap.size w w' := by
  by_cases h0 : n = 0
  · subst h0
    go_enter Tryz.func98, Tryz.ntmps98
    go_wp2
    go_ret
    exact ⟨_, rfl, World.ownsRow_nil _ _ _ _, Below.refl _ _⟩
  · obtain ⟨i0, hi, hz0, hz1, hz2⟩ := info_parts infoT10
    have hpos : (0 : Int) < (n : Int) := by omega
    have hrz : ∀ ty, (Builtin.append_ #[59, 3] ty #[.slice none 0 0, .int .i64 (n : Int)]).run Tryz.prog w =
        .ok (.slice (some ⟨w.heap.size, 0, none⟩) n (grownCap w n 0 9)) (w.drew.alloc (.cells (#[] ++ Builtin.zeroCells (Value.string ⟨#[]⟩).cells n ++ Builtin.zeroCells (Value.string ⟨#[]⟩).cells (grownCap w n 0 9 - n)) 9)) := fun ty => by
      have h := Lib.run_append_grow_zeros (P := Tryz.prog) w 59 3 ty 9 i0 _ .i64 .i64 Tryz.underlying59 Tryz.underlying3 hi hz0 none 0 0 [] (run_firstCells_none w.drew i0.size 0 0 0) n (by omega) (by rw [hz1]; decide) (by omega) (by omega)
        (by rw [hz2]; omega) (growslice_fits (by omega) (by rw [hz2]; omega))
      simpa using h
    have hGn : n ≤ grownCap w n 0 9 := grownCap_ge w _ _ _
    have hGm := grownCap_le_maxLen w n 0 9 (by unfold maxLen; omega)
    generalize grownCap w n 0 9 = G at hrz hGn hGm
    generalize hC : (#[] ++ Builtin.zeroCells (Value.string ⟨#[]⟩).cells n ++ Builtin.zeroCells (Value.string ⟨#[]⟩).cells (G - n)) = C at hrz
    have hCs : C.size = G * 1 := by
      have e6 : (Value.string ⟨#[]⟩).cells.size = 1 := rfl
      rw [← hC, Array.size_append, Array.size_append, size_zeroCells, size_zeroCells, e6]
      simp; omega
    clear hC
    have hG63 : G ≤ 9223372036854775807 := by unfold maxLen at hGm; omega
    go_enter Tryz.func98, Tryz.ntmps98
    go_wp2_with (at_builtin; refine Lib.wpList_append_run _ rfl _ _ _ _ rfl _ _ rfl rfl _ _ (hrz _) ?_)
    all_goals (go_ret; exact ⟨_, rfl, World.ownsRow_made w.drew C G (Nat.le_refl _) hGm hCs, (Below.refl _ w).drew.alloc (Nat.le_refl _) _⟩)

/-- What is new: an owned row of texts. -/
def NewStrs (w : World) (L : List (List UInt8)) (v : Value) (w' : World) : Prop := w'.ownsRow w.heap.size 9 1 v L.length (strsV L) ∧ Below w.heap.size w w'

set_option maxHeartbeats 4000000 in
theorem ConcatS_any (ps : List (List (List UInt8))) (v : Value) (w : World) (hv : PartsS w v ps) (hp : ps.length ≤ 1000000) (hn : ps.flatten.length ≤ 1000000) :
    Calls Tryz.prog 81 #[v] w fun e w' => ∃ x, e = .returned x ∧ NewStrs w ps.flatten x w' := by
  obtain ⟨a, ca, rfl, HA0⟩ := hv
  have HA := Lib.hid HA0
  clear HA0
  obtain ⟨i0, hi, hz0, hz1, hz2⟩ := info_parts infoT10
  have hle := flatT_le ps
  have hend := flatT_end ps
  generalize hF : ps.flatten = F at *
  have HF := Lib.hid hF
  clear hF
  go_enter Tryz.func81, Tryz.ntmps81
  go_wp2
  go_loop [3, 11] (fun s3 s11 => ∃ k : Nat, k ≤ ps.length ∧ s11 = .int .i64 k ∧ s3 = .int .i64 (flatT ps k)) (fun _ s11 => ps.length - (intOf s11).toNat)
  case atStart => exact ⟨0, Nat.zero_le _, rfl, rfl⟩
  case round =>
    obtain ⟨k, hk, rfl, rfl⟩ := hrel
    by_cases hlt : k < ps.length
    · obtain ⟨b, o, rfl, hb, hcl⟩ := HA.out (by omega)
      obtain ⟨x, c1, ⟨⟨ax, cx, rfl, hx1, hx2⟩, hx3⟩⟩ := hcl k hlt
      clear hcl hx3 hx1 hx2
      have hf1 := hle (k + 1)
      have HN := Lib.hid (flatT_next hlt)
      have hfl : flatT ps k + ps[k].length ≤ 1000000 := by rw [HN.out] at hf1; omega
      have hng : ¬ ((flatT ps k : Int) + (ps[k].length : Int) < 0) := by omega
      go_wp2
      go_round
      case rel => exact ⟨k + 1, by omega, by go_num, by rw [HN.out]; go_num⟩
      case measure => simp [intOf]; omega
    · obtain rfl : k = ps.length := by omega
      rw [hend]
      go_wp2_with fail; refine (GrowS_any F.length hn _).mono ?_; rintro e w1 ⟨vg, rfl, hown, hb1⟩
      have HO := Lib.hid hown
      clear hown
      go_wp2
      go_loopw [6, 27] (fun s6 s27 wr => ∃ k : Nat, k ≤ ps.length ∧ s27 = .int .i64 k ∧ Below w.heap.size w wr ∧ Aside (wr.ownsRow w.heap.size 9 1 s6 (flatT ps k) (strsV (ps.take k).flatten))) (fun _ s27 _ => ps.length - (intOf s27).toNat)
      case atStart => exact ⟨0, Nat.zero_le _, rfl, hb1, by (show World.ownsRow _ _ _ _ _ _ _); simpa [flatT, strsV] using HO.out⟩
      case round =>
        clear HO hb1
        obtain ⟨k, hk, rfl, hbw, HO⟩ := hrel
        by_cases hlt : k < ps.length
        · obtain ⟨b, o, rfl, hb, hcl⟩ := HA.out (by omega)
          obtain ⟨x, c0, hx⟩ := hcl k hlt
          have c1 : wr.cell? ⟨b, o + k, none⟩ = some x := (hbw.cell (p := ⟨b, o + k, none⟩) hb).trans c0
          clear hcl c0
          have hxs := hx.below hbw
          obtain ⟨⟨ax, cx, rfl, hx1, hx2⟩, hx3⟩ := id hx
          clear hx3 hx1 hx2 hx
          have hf1 := hle (k + 1)
          have HN := Lib.hid (flatT_next hlt)
          have hfl : flatT ps k + ps[k].length ≤ F.length := by rw [HN.out] at hf1; omega
          have HFT := Lib.hid (flatS_take ps k hlt)
          have HX0 : Hid (ax = none → ps[k].length = 0 ∧ cx = 0) := (strs_src hxs).2.1
          have HXS := Lib.hid hxs
          have hsz := hbw.size
          clear hxs
          go_wp2_with (at_builtin; refine wpList_append_any rfl (.tmp 31) (.tmp 32) 59 9 rfl Tryz.underlying59 hi hz0 hz1 hz2 rfl (by decide) (by decide) w.heap.size ax ps[k].length cx (strsV ps[k]) rfl rfl HO.out HX0.out (strsV_len _) (strs_src HXS.out).2.2 (strsV_one _) (by omega) hsz ?_; intro v2 w2 hown2 hb2)
          have HO2 : Hid (w2.ownsRow w.heap.size 9 1 v2 (flatT ps (k + 1)) (strsV (ps.take (k + 1)).flatten)) := by
            (show World.ownsRow _ _ _ _ _ _ _); rw [HN.out, HFT.out, strsV_append]; exact hown2
          have hb3 := hbw.trans hb2
          clear hown2 hb2
          go_roundw
          case rel => exact ⟨k + 1, by omega, by go_num, hb3, HO2.out⟩
          case measure => simp [intOf]; omega
        · obtain rfl : k = ps.length := by omega
          have h1 := HO.out
          rw [hend, List.take_length, HF.out] at h1
          have HBF := Lib.hid h1
          clear h1
          clear HO
          go_wp2
          go_ret
          exact ⟨_, rfl, HBF.out, hbw⟩
end Go.Proofs.YtdgedcfenpmaoaaGreat
