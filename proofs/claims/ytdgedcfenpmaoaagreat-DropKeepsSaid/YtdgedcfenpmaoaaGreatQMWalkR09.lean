/- Texts put together: WalkG10, Pure10d, WalkR09. -/
import Derived.Test.YtdgedcfenpmaoaaGreatQMWalkF10
import Derived.Test.YtdgedcfenpmaoaaGreatQMWalkH04
import Derived.Test.YtdgedcfenpmaoaaGreatQWalkE05
import Derived.Test.YtdgedcfenpmaoaaGreatQMWalkK05
set_option linter.unusedVariables false
set_option linter.unusedSimpArgs false
/- Walks: the program's Home, and the end of the way. -/
set_option linter.unusedVariables false
set_option linter.unusedSimpArgs false
namespace Go.Proofs.YtdgedcfenpmaoaaGreat
open Go.RowKit

set_option maxHeartbeats 4000000 in
theorem HomeC_any (mi mb nx : Int) (l : List Nd) (p : List UInt8) (v : Value) (w : World) (hv : Nds w v l) (hp : p.length ≤ 50000) (hc : Calm l) (hin : LeadsIn l p) :
    Calls Tryz.prog 58 #[.agg (fsC mi mb nx v), .string ⟨p.toArray⟩] w fun e w' => e = .returned (.tuple #[.int .i64 (homeP l p).1, .int .i64 (homeP l p).2]) ∧ Below w.heap.size w w' := by
  obtain ⟨a, ca, rfl⟩ := nds_slice hv
  have bF := Blk.new w 24 (fsC mi mb nx (.slice a l.length ca))
  have hB := alloc_below w (.cells (fsC mi mb nx (.slice a l.length ca)) 24)
  have hG := GetP_any mi mb nx l p _ _ (hv.below hB) hp hc hin
  have h1 := home_err (l := l) (p := p)
  have h2 := home_file (l := l) (p := p)
  have h3 := home_some (l := l) (p := p)
  obtain ⟨ag, ng, cg, hgs⟩ := get_slice0 hv p
  generalize getP l p = G at *
  obtain ⟨⟨gi, gk, gl, gd, gp, ge, gn⟩, er⟩ := G
  dsimp only at hG h1 h2 h3 hgs
  subst hgs
  have H1 := Lib.hid h1
  have H2 := Lib.hid h2
  have H3 := Lib.hid h3
  clear h1 h2 h3 hv hc hin
  obtain ⟨⟨p0, p1, p2, p3⟩, _⟩ := bF.four
  go_enter Tryz.func58, Tryz.ntmps58
  go_wp2_with fail
  refine hG.mono ?_
  rintro e w1 ⟨rfl, b1⟩
  clear hG p0 p1 p2 p3
  have b2 := alloc_below w1 (.cells (ndC ⟨gi, gk, gl, gd, gp, .slice ag ng cg, gn⟩) 42)
  have bX := Blk.new w1 42 (ndC ⟨gi, gk, gl, gd, gp, .slice ag ng cg, gn⟩)
  have hB2 := (hB.trans (b1.mono hB.size)).trans (b2.mono (hB.trans (b1.mono hB.size)).size)
  obtain ⟨⟨x0, x1, x2, x3, x4, x5⟩, _⟩ := bX.six
  dsimp only at x0 x1 x2 x3 x4 x5
  clear b1 b2 hB bF bX
  by_cases her : er = 0
  · subst her
    by_cases hk : gk = 2
    · have HN := Lib.hid (H3.out rfl hk)
      subst hk
      clear H1 H2 H3
      go_wp2
      go_ret2
      exact ⟨by rw [HN.out]; rfl, hB2⟩
    · have HN := Lib.hid (H2.out rfl hk)
      clear H1 H2 H3
      go_wp2
      go_ret2
      exact ⟨by rw [HN.out]; rfl, hB2⟩
  · have HN := Lib.hid (H1.out her)
    clear H1 H2 H3
    go_wp2
    go_ret2
    exact ⟨by rw [HN.out]; rfl, hB2⟩


/-- Where the way ended, if it may end there. -/
def endP (s : Sp) (k : Int) (d : Bool) : Sp × Int := if d = true ∧ s.ino ≠ 0 ∧ k ≠ 2 then (zeroS, 3) else (s, 0)

set_option maxHeartbeats 4000000 in
theorem ended_any (s : Sp) (x : Nd) (d : Bool) (w : World) (ax : Option Addr) (nn cx : Nat) (hev : x.ev = .slice ax nn cx) :
    Calls Tryz.prog 82 #[.agg (spC s), .agg (ndC x), .bool d] w fun e w' => e = .returned (.tuple #[.agg (spC (endP s x.kind d).1), .int .i64 (endP s x.kind d).2]) ∧ Below w.heap.size w w' := by
  obtain ⟨sd, sn, si⟩ := s
  obtain ⟨xi, xk, xl, xd, xp, xe, xn⟩ := x
  dsimp only at hev
  subst hev
  have A0 := alloc_below w (.cells (spC ⟨sd, sn, si⟩) 37)
  have bS0 := Blk.new w 37 (spC ⟨sd, sn, si⟩)
  have A1 := alloc_below (w.alloc (.cells (spC ⟨sd, sn, si⟩) 37)) (.cells (ndC ⟨xi, xk, xl, xd, xp, .slice ax nn cx, xn⟩) 42)
  have bX0 := Blk.new (w.alloc (.cells (spC ⟨sd, sn, si⟩) 37)) 42 (ndC ⟨xi, xk, xl, xd, xp, .slice ax nn cx, xn⟩)
  have bS1 := bS0.next A1
  have A2 := alloc_below ((w.alloc (.cells (spC ⟨sd, sn, si⟩) 37)).alloc (.cells (ndC ⟨xi, xk, xl, xd, xp, .slice ax nn cx, xn⟩) 42)) (.cells (spC zeroS) 37)
  have bR := Blk.new ((w.alloc (.cells (spC ⟨sd, sn, si⟩) 37)).alloc (.cells (ndC ⟨xi, xk, xl, xd, xp, .slice ax nn cx, xn⟩) 42)) 37 (spC zeroS)
  have bS := bS1.next A2
  have bX := bX0.next A2
  have A01 := A0.trans (A1.mono A0.size)
  have hB := A01.trans (A2.mono A01.size)
  have hBs := A01.trans ((alloc_below ((w.alloc (.cells (spC ⟨sd, sn, si⟩) 37)).alloc (.cells (ndC ⟨xi, xk, xl, xd, xp, .slice ax nn cx, xn⟩) 42)) (.cells (spC ⟨sd, sn, si⟩) 37)).mono A01.size)
  have bRs := Blk.new ((w.alloc (.cells (spC ⟨sd, sn, si⟩) 37)).alloc (.cells (ndC ⟨xi, xk, xl, xd, xp, .slice ax nn cx, xn⟩) 42)) 37 (spC ⟨sd, sn, si⟩)
  clear A0 A1 A2 A01 bS0 bS1 bX0
  simp only [World.size_alloc] at bR bX bRs
  obtain ⟨⟨s0, s1, s2⟩, _⟩ := bS.three
  dsimp only at s0 s1 s2
  obtain ⟨⟨x0, x1, x2, x3, x4, x5⟩, _⟩ := bX.six
  dsimp only at x0 x1 x2 x3 x4 x5
  obtain ⟨⟨r0, r1, r2⟩, e0, e1, e2⟩ := bR.three
  by_cases hbad : d = true ∧ si ≠ 0 ∧ xk ≠ 2
  · have HN : Hid (endP ⟨sd, sn, si⟩ xk d = (zeroS, 3)) := by (show _ = _); unfold endP; rw [if_pos hbad]
    obtain ⟨rfl, h1, h2⟩ := hbad
    have g1 : (si != 0) = true := by simpa using h1
    have g2 : (xk != 2) = true := by simpa using h2
    clear h1 h2
    go_enter Tryz.func82, Tryz.ntmps82
    go_wp2
    refine bodyPost_ret (v := .tuple #[.agg #[.int .i64 0, .string ⟨#[]⟩, .int .i64 0], .int .i64 3]) (by simp [results, Tryz.f82, go_sem, r0, r1, r2]) rfl ?_
    exact ⟨by rw [HN.out], hB⟩
  · have HN : Hid (endP ⟨sd, sn, si⟩ xk d = (⟨sd, sn, si⟩, 0)) := by (show _ = _); unfold endP; rw [if_neg hbad]
    have hbl := hBs
    have hb3 := bRs
    cases d
    · clear hbad
      go_enter Tryz.func82, Tryz.ntmps82
      go_wp2
      obtain ⟨⟨t0, t1, t2⟩, _⟩ := hb3.three
      refine bodyPost_ret (v := .tuple #[.agg (spC ⟨sd, sn, si⟩), .int .i64 0]) (by simp [results, Tryz.f82, go_sem, t0, t1, t2]) rfl ?_
      exact ⟨by rw [HN.out], hbl⟩
    · by_cases h0 : si = 0
      · subst h0
        clear hbad
        go_enter Tryz.func82, Tryz.ntmps82
        go_wp2
        obtain ⟨⟨t0, t1, t2⟩, _⟩ := hb3.three
        refine bodyPost_ret (v := .tuple #[.agg (spC ⟨sd, sn, 0⟩), .int .i64 0]) (by simp [results, Tryz.f82, go_sem, t0, t1, t2]) rfl ?_
        exact ⟨by rw [HN.out], hbl⟩
      · obtain rfl : xk = 2 := Decidable.byContradiction fun h => hbad ⟨rfl, h0, h⟩
        clear hbad
        go_enter Tryz.func82, Tryz.ntmps82
        go_wp2
        obtain ⟨⟨t0, t1, t2⟩, _⟩ := hb3.three
        refine bodyPost_ret (v := .tuple #[.agg (spC ⟨sd, sn, si⟩), .int .i64 0]) (by simp [results, Tryz.f82, go_sem, t0, t1, t2]) rfl ?_
        exact ⟨by rw [HN.out], hbl⟩
end Go.Proofs.YtdgedcfenpmaoaaGreat

/- The way on, told by the place to which a step leads. No program's function. -/
set_option linter.unusedVariables false
set_option linter.unusedSimpArgs false
namespace Go.Proofs.YtdgedcfenpmaoaaGreat

/-- Of a place: if it has a number, there is an inode of it. -/
def OnS (l : List Nd) (s : Sp) : Prop := s.ino ≠ 0 → hasN l s.ino = true
theorem onS_bare {l : List Nd} {i : Int} (h : isDir l i = true) : OnS l ⟨0, [], i⟩ := fun _ => (dir_parts h).1
theorem dir_num {mi mb nx : Int} {l : List Nd} (h : OkS mi mb nx l) {i : Int} (hd : isDir l i = true) : i ≠ 0 ∧ (getN l i).kind = 2 ∧ (getN l i).ino = i := by
  refine ⟨fun e => ?_, (dir_parts hd).2, (get_mem (dir_parts hd).1).2⟩
  subst e
  have := (dir_parts hd).1
  rw [no_zero h] at this; cases this
theorem step_dot {l : List Nd} {x : Nd} : stepP x [46] = ⟨0, [], x.ino⟩ := rfl
theorem step_dots {l : List Nd} {x : Nd} : stepP x [46, 46] = ⟨0, [], x.parent⟩ := rfl
theorem step_name {x : Nd} {n : List UInt8} (h1 : n ≠ [46]) (h2 : n ≠ [46, 46]) : stepP x n = ⟨x.ino, n, numB x.ents n⟩ := by unfold stepP; rw [if_neg h1, if_neg h2]
theorem step_on {mi mb nx : Int} {l : List Nd} (h : OkS mi mb nx l) {i : Int} (n : List UInt8) (hk : (getN l i).kind = 2) : OnS l (stepP (getN l i) n) := by
  have hd := kind_has hk
  by_cases h1 : n = [46]
  · subst h1; exact onS_bare (by rw [(dir_num h hd).2.2]; exact hd)
  by_cases h2 : n = [46, 46]
  · subst h2; exact onS_bare (parent_dir h hd)
  rw [step_name h1 h2]
  exact fun h3 => num_has (tree_c h.check) h3
/-- A step to what is a link, or to nothing, is no step by dots. -/
theorem step_else {mi mb nx : Int} {l : List Nd} (h : OkS mi mb nx l) {i : Int} {n : List UInt8} (hk : (getN l i).kind = 2) (h2 : (getN l (stepP (getN l i) n).ino).kind ≠ 2) : n ≠ [46] ∧ n ≠ [46, 46] := by
  have hd := kind_has hk
  constructor
  · intro e
    subst e
    rw [show (stepP (getN l i) [46]).ino = (getN l i).ino from rfl, (dir_num h hd).2.2] at h2
    exact h2 hk
  · intro e
    subst e
    exact h2 (dir_parts (parent_dir h hd)).2
theorem lead_gone {mi mb nx : Int} {l : List Nd} (h : OkS mi mb nx l) {fo d : Bool} {g : Nat} {s : Sp} {n : List UInt8} {r : List (List UInt8)} (h0 : s.ino ≠ 0) (hk : (getN l s.ino).kind = 2) (hz : (stepP (getN l s.ino) n).ino = 0) (hr : r ≠ []) :
    onN l fo g s (n :: r) d = (zeroS, 1) := by
  have hz2 : (getN l (stepP (getN l s.ino) n).ino).kind ≠ 2 := by rw [hz, getN_none (no_zero h)]; decide
  obtain ⟨d1, d2⟩ := step_else h hk hz2
  rw [step_name d1 d2] at hz
  obtain ⟨m, t, rfl⟩ := List.exists_cons_of_ne_nil hr
  rw [on_stop h0 hk d1 d2 ?_, on_gone (show (stepS l s.ino n).ino = 0 from hz)]
  unfold stopB
  have : (getN l (numB (getN l s.ino).ents n)).kind != 3 := by
    rw [show numB (getN l s.ino).ents n = 0 from hz, getN_none (no_zero h)]; decide
  rw [this]; simp
theorem lead_on {mi mb nx : Int} {l : List Nd} (h : OkS mi mb nx l) {fo d : Bool} {g : Nat} {s : Sp} {n : List UInt8} {r : List (List UInt8)} (h0 : s.ino ≠ 0) (hk : (getN l s.ino).kind = 2)
    (hc : (getN l (stepP (getN l s.ino) n).ino).kind ≠ 3 ∨ (r = [] ∧ fo = false ∧ d = false)) :
    onN l fo g s (n :: r) d = onN l fo g (stepP (getN l s.ino) n) r d := by
  by_cases d1 : n = [46]
  · subst d1; exact on_dot h0 hk rfl
  by_cases d2 : n = [46, 46]
  · subst d2; exact on_dots h0 hk rfl
  rw [on_stop h0 hk d1 d2 ?_, step_name d1 d2]
  · rfl
  · unfold stopB
    rcases hc with hc | ⟨rfl, rfl, rfl⟩
    · rw [step_name d1 d2] at hc
      have : ((getN l (numB (getN l s.ino).ents n)).kind != 3) = true := by simpa using hc
      rw [this]; simp
    · simp
theorem stop_no {mi mb nx : Int} {l : List Nd} (h : OkS mi mb nx l) {fo d : Bool} {s : Sp} {n : List UInt8} {r : List (List UInt8)} (hk : (getN l s.ino).kind = 2)
    (h3 : (getN l (stepP (getN l s.ino) n).ino).kind = 3) (hc : ¬ (r = [] ∧ fo = false ∧ d = false)) :
    n ≠ [46] ∧ n ≠ [46, 46] ∧ stopB l fo d s.ino n r = false ∧ lnkD l s.ino n = (getN l (stepP (getN l s.ino) n).ino).data := by
  obtain ⟨d1, d2⟩ := step_else (n := n) h hk (by rw [h3]; decide)
  refine ⟨d1, d2, ?_, ?_⟩
  · rw [step_name d1 d2] at h3
    dsimp only at h3
    have hb : hasB (getN l s.ino).ents n = true := by
      cases hb : hasB (getN l s.ino).ents n
      · rw [(find_none hb).1, getN_none (no_zero h)] at h3; cases h3
      · rfl
    unfold stopB
    rw [hb, h3]
    cases r <;> cases fo <;> cases d <;> simp_all
  · rw [step_name d1 d2]; rfl
theorem lead_loop {mi mb nx : Int} {l : List Nd} (h : OkS mi mb nx l) {fo d : Bool} {s : Sp} {n : List UInt8} {r : List (List UInt8)} (h0 : s.ino ≠ 0) (hk : (getN l s.ino).kind = 2)
    (h3 : (getN l (stepP (getN l s.ino) n).ino).kind = 3) (hc : ¬ (r = [] ∧ fo = false ∧ d = false)) : onN l fo 0 s (n :: r) d = (zeroS, 6) := by
  obtain ⟨d1, d2, hs, _⟩ := stop_no h hk h3 hc
  exact on_loop h0 hk d1 d2 hs
theorem lead_long {mi mb nx : Int} {l : List Nd} (h : OkS mi mb nx l) {fo d : Bool} {g : Nat} {s : Sp} {n : List UInt8} {r : List (List UInt8)} (h0 : s.ino ≠ 0) (hk : (getN l s.ino).kind = 2)
    (h3 : (getN l (stepP (getN l s.ino) n).ino).kind = 3) (hc : ¬ (r = [] ∧ fo = false ∧ d = false)) (hl : longB (getN l (stepP (getN l s.ino) n).ino).data = true) : onN l fo (g + 1) s (n :: r) d = (zeroS, 7) := by
  obtain ⟨d1, d2, hs, hd⟩ := stop_no h hk h3 hc
  exact on_long h0 hk d1 d2 hs (by rw [hd]; exact hl)
theorem lead_link {mi mb nx : Int} {l : List Nd} (h : OkS mi mb nx l) {fo d : Bool} {g : Nat} {s : Sp} {n : List UInt8} {r : List (List UInt8)} (h0 : s.ino ≠ 0) (hk : (getN l s.ino).kind = 2)
    (h3 : (getN l (stepP (getN l s.ino) n).ino).kind = 3) (hc : ¬ (r = [] ∧ fo = false ∧ d = false)) (hl : longB (getN l (stepP (getN l s.ino) n).ino).data = false) :
    onN l fo (g + 1) s (n :: r) d = onN l fo g ⟨0, [], if absB (getN l (stepP (getN l s.ino) n).ino).data = true then 1 else (getN l s.ino).ino⟩ (namesB (getN l (stepP (getN l s.ino) n).ino).data ++ r) (d || (r.isEmpty && slashB (getN l (stepP (getN l s.ino) n).ino).data)) := by
  obtain ⟨d1, d2, hs, hd⟩ := stop_no h hk h3 hc
  rw [on_link h0 hk d1 d2 hs (by rw [hd]; exact hl), hd, Bool.and_comm (slashB _)]
theorem lead_end {mi mb nx : Int} {l : List Nd} (h : OkS mi mb nx l) {fo d : Bool} {g : Nat} {s : Sp} (hs : OnS l s) : onN l fo g s [] d = endP s (getN l s.ino).kind d := by
  rw [on_nil]
  unfold endP
  by_cases h0 : s.ino = 0
  · rw [h0, no_zero h]; simp
  · rw [hs h0]
    by_cases hk : (getN l s.ino).kind = 2
    · rw [hk]; simp
    · cases d
      · simp
      · have e1 : (true && true && (getN l s.ino).kind != 2) = true := by simpa using hk
        have e2 : true = true ∧ s.ino ≠ 0 ∧ (getN l s.ino).kind ≠ 2 := ⟨rfl, h0, hk⟩
        rw [if_pos e1, if_pos e2]
/-- Where one stands behind a link. -/
theorem from_dir {mi mb nx : Int} {l : List Nd} (h : OkS mi mb nx l) {i : Int} (hk : (getN l i).kind = 2) (b : Bool) : isDir l (if b = true then 1 else (getN l i).ino) = true := by
  cases b
  · rw [if_neg (by simp), (dir_num h (kind_has hk)).2.2]; exact kind_has hk
  · rw [if_pos rfl]; exact kind_has (tree_c h.check).rootDir
end Go.Proofs.YtdgedcfenpmaoaaGreat

/- Walks: the program's Put and Take of plain paths. -/
set_option linter.unusedVariables false
set_option linter.unusedSimpArgs false
namespace Go.Proofs.YtdgedcfenpmaoaaGreat
open Go.RowKit

/-- The lengths that the calls ask. -/
theorem calm_ents {l : List Nd} (h : Calm l) (i : Int) : sortP (getN l i).ents ∧ (getN l i).ents.length ≤ 1000 ∧ shortP 100000000 (getN l i).ents :=
  ⟨((rightB_iff _).1 (calm_get h i).1).2, (calm_get h i).2.1, fun e he => Nat.le_trans ((calm_get h i).2.2.2 e he) (by decide)⟩

end Go.Proofs.YtdgedcfenpmaoaaGreat
