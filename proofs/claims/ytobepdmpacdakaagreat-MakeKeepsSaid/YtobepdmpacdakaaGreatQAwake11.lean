/- Walks: awake, of what is made; whether a file system and texts may be looked at. -/
import Derived.Test.YtobepdmpacdakaaGreatQWalkP11
import Derived.Test.YtobepdmpacdakaaGreatQB
import Derived.Test.YtobepdmpacdakaaGreatQWalkF07
import Derived.Laws.StructEq
set_option linter.unusedVariables false
set_option linter.unusedSimpArgs false
namespace Go.Proofs.YtobepdmpacdakaaGreat
open Go.RowKit
set_option linter.unusedVariables false

def aR (ev : Value) : Nd := ⟨1, 2, 0, [], 1, ev, [([100], 2)]⟩
def aD : Nd := ⟨2, 2, 1, [], 1, .slice none 0 0, []⟩
def bD (ev : Value) : Nd := ⟨2, 2, 1, [], 1, ev, [([102], 3)]⟩
def bF1 : Nd := ⟨3, 1, 1, [120, 121], 0, .slice none 0 0, []⟩
def cR (ev : Value) : Nd := ⟨1, 2, 0, [], 1, ev, [([100], 2), ([115], 3)]⟩
def cS : Nd := ⟨3, 3, 1, [116], 0, .slice none 0 0, []⟩
theorem aw11_ok0 : okB 3 2 2 [rootN] = true := by kernel_rfl
theorem aw11_ok1 (e : Value) : okB 3 2 3 [aR e, aD] = true := by kernel_rfl
theorem aw11_ok2 (e1 e2 : Value) : okB 3 2 4 [aR e1, bD e2, bF1] = true := by kernel_rfl

theorem aw11_mkdir (mi mb nx : Int) (l : List Nd) (p : List UInt8) (r : Sp × Int) (R : Value → (Int × List Nd) × Int) (v : Value) (w : World) (hv : Nds w v l) (hok : okB mi mb nx l = true) (hnx : nx < 1099511627776) (hp : p.length ≤ 100) (h : seekF 20 l [47] p false = some r) (h2 : ∀ ev, putE r mi mb nx l p 2 [] 0 ev = R ev) :
    Calls Tryz.prog 11 #[.agg (fsC mi mb nx v), .string ⟨#[47]⟩, .string ⟨p.toArray⟩] w fun e w' => ∃ y ev, e = .returned (.tuple #[.agg (fsC mi mb (R ev).1.1 y), .int .i64 (R ev).2]) ∧ Nds w' y (R ev).1.2 ∧ Below w.heap.size w w' := by
  refine (Mkdir_any mi mb nx l [47] p v w hv hok hnx (by decide) (by omega)).mono ?_
  rintro e w' ⟨y, ev, rfl, hM, hB⟩
  have hn := hM.now hv hB
  rw [putF_eq 20 h, h2] at hn
  exact ⟨y, ev, by rw [putF_eq 20 h, h2], hn, hB⟩
theorem aw11_create (mi mb nx : Int) (l : List Nd) (p d : List UInt8) (r : Sp × Int) (R : Value → (Int × List Nd) × Int) (v : Value) (w : World) (hv : Nds w v l) (hok : okB mi mb nx l = true) (hnx : nx < 1099511627776) (hp : p.length ≤ 100) (hd : d.length ≤ 100) (h : seekF 20 l [47] p false = some r) (h2 : ∀ ev, putE r mi mb nx l p 1 d 4 ev = R ev) :
    Calls Tryz.prog 14 #[.agg (fsC mi mb nx v), .string ⟨#[47]⟩, .string ⟨p.toArray⟩, .string ⟨d.toArray⟩] w fun e w' => ∃ y ev, e = .returned (.tuple #[.agg (fsC mi mb (R ev).1.1 y), .int .i64 (R ev).2]) ∧ Nds w' y (R ev).1.2 ∧ Below w.heap.size w w' := by
  refine (Create_any mi mb nx l [47] p d v w hv hok hnx (by decide) (by omega) (by omega)).mono ?_
  rintro e w' ⟨y, ev, rfl, hM, hB⟩
  have hn := hM.now hv hB
  rw [putF_eq 20 h, h2] at hn
  exact ⟨y, ev, by rw [putF_eq 20 h, h2], hn, hB⟩
theorem aw11_sym (mi mb nx : Int) (l : List Nd) (t p : List UInt8) (R : Value → (Int × List Nd) × Int) (v : Value) (w : World) (hv : Nds w v l) (hok : okB mi mb nx l = true) (hnx : nx < 1099511627776) (hp : p.length ≤ 100) (ht : t.length ≤ 100) (h2 : ∀ ev, symF mi mb nx l [47] t p ev = R ev) :
    Calls Tryz.prog 16 #[.agg (fsC mi mb nx v), .string ⟨#[47]⟩, .string ⟨t.toArray⟩, .string ⟨p.toArray⟩] w fun e w' => ∃ y ev, e = .returned (.tuple #[.agg (fsC mi mb (R ev).1.1 y), .int .i64 (R ev).2]) ∧ Nds w' y (R ev).1.2 ∧ Below w.heap.size w w' := by
  refine (Symlink_any mi mb nx l [47] t p v w hv hok hnx (by decide) (by omega) (by omega)).mono ?_
  rintro e w' ⟨y, ev, rfl, hM, hB⟩
  have hn := hM.now hv hB
  rw [h2] at hn
  exact ⟨y, ev, by rw [h2], hn, hB⟩
theorem aw11_t1 (e : Value) (ev : Value) : symF 3 2 3 [aR e, aD] [47] [116] [115] ev = ((4, [cR ev, aD, cS]), 0) := by
  rw [symF_eq 20 (r := (⟨1, [115], 0⟩, 0)) (by kernel_rfl) (by decide) (by decide) (by decide)]
  kernel_rfl
theorem aw11_t2 (l : List Nd) (ev : Value) : symF 3 2 3 l [47] [] [115] ev = ((3, l), 1) := by unfold symF; rw [if_pos rfl]

set_option maxRecDepth 100000 in
set_option maxHeartbeats 16000000 in
theorem awake11 (w : World) : Calls Tryz.prog 9 #[] w fun e w' => e = .returned (.bool true) ∧ Below w.heap.size w w' := by
  go_enter Tryz.func9, Tryz.ntmps9
  go_wp2_with fail
  refine (refNewT_any 3 2 _).mono ?_
  rintro e w0 ⟨v0, rfl, n0, hB⟩
  obtain ⟨a0, c0, rfl⟩ := nds_slice n0
  have s0 := alloc_below w0 (.cells (fsC 3 2 2 (.slice a0 1 c0)) 24)
  have b0 := Blk.new w0 24 (fsC 3 2 2 (.slice a0 1 c0))
  replace n0 := n0.below s0
  replace hB := hB.trans (s0.mono hB.size)
  clear s0
  obtain ⟨⟨p0, p1, p2, p3⟩, _⟩ := b0.four
  go_wp2_with fail; refine (aw11_mkdir 3 2 2 [rootN] [100] (⟨1, [100], 0⟩, 0) (fun ev => ((3, [aR ev, aD]), 0)) _ _ n0 aw11_ok0 (by decide) (by decide) (by kernel_rfl) (fun ev => by kernel_rfl)).mono ?_; rintro e w1 ⟨v1, ev1, rfl, n1, c1⟩
  clear p0 p1 p2 p3
  obtain ⟨a1, k1, rfl⟩ := nds_slice n1
  have s1 := alloc_below w1 (.cells (fsC 3 2 3 (.slice a1 2 k1)) 24)
  have d1 := c1.trans (s1.mono c1.size)
  have b1 := Blk.new w1 24 (fsC 3 2 3 (.slice a1 2 k1))
  replace n1 := n1.below s1
  replace b0 := b0.next d1
  replace n0 := n0.below d1
  replace hB := hB.trans (d1.mono hB.size)
  clear s1 c1 d1
  obtain ⟨⟨p0, p1, p2, p3⟩, _⟩ := b1.four
  go_wp2_with fail; refine (aw11_create 3 2 3 [aR ev1, aD] [100, 47, 102] [120, 121] (⟨2, [102], 0⟩, 0) (fun ev => ((4, [aR ev1, bD ev, bF1]), 0)) _ _ n1 (aw11_ok1 ev1) (by decide) (by decide) (by decide) (by kernel_rfl) (fun ev => by kernel_rfl)).mono ?_; rintro e w2 ⟨v2, ev2, rfl, n2, c2⟩
  clear p0 p1 p2 p3
  obtain ⟨a2, k2, rfl⟩ := nds_slice n2
  have s2 := alloc_below w2 (.cells (fsC 3 2 4 (.slice a2 3 k2)) 24)
  have d2 := c2.trans (s2.mono c2.size)
  have b2 := Blk.new w2 24 (fsC 3 2 4 (.slice a2 3 k2))
  replace n2 := n2.below s2
  replace b0 := b0.next d2
  replace b1 := b1.next d2
  replace n0 := n0.below d2
  replace n1 := n1.below d2
  replace hB := hB.trans (d2.mono hB.size)
  clear s2 c2 d2
  obtain ⟨⟨p0, p1, p2, p3⟩, _⟩ := b2.four
  go_wp2_with fail; refine (aw11_create 3 2 4 [aR ev1, bD ev2, bF1] [103] [] (⟨1, [103], 0⟩, 0) (fun ev => ((4, [aR ev1, bD ev2, bF1]), 8)) _ _ n2 (aw11_ok2 ev1 ev2) (by decide) (by decide) (by decide) (by kernel_rfl) (fun ev => by kernel_rfl)).mono ?_; rintro e w3 ⟨v3, ev3, rfl, n3, c3⟩
  clear p0 p1 p2 p3
  obtain ⟨a3, k3, rfl⟩ := nds_slice n3
  have s3 := alloc_below w3 (.cells (fsC 3 2 4 (.slice a3 3 k3)) 24)
  have d3 := c3.trans (s3.mono c3.size)
  replace b0 := b0.next d3
  replace b1 := b1.next d3
  replace b2 := b2.next d3
  replace n0 := n0.below d3
  replace n1 := n1.below d3
  replace n2 := n2.below d3
  replace hB := hB.trans (d3.mono hB.size)
  clear s3 c3 d3 n3
  obtain ⟨⟨p0, p1, p2, p3⟩, _⟩ := b0.four
  go_wp2_with fail; refine (aw11_mkdir 3 2 2 [rootN] [97, 47, 98] (⟨0, [], 0⟩, 1) (fun ev => ((2, [rootN]), 1)) _ _ n0 aw11_ok0 (by decide) (by decide) (by kernel_rfl) (fun ev => by kernel_rfl)).mono ?_; rintro e w4 ⟨v4, ev4, rfl, n4, c4⟩
  clear p0 p1 p2 p3
  obtain ⟨a4, k4, rfl⟩ := nds_slice n4
  have s4 := alloc_below w4 (.cells (fsC 3 2 2 (.slice a4 1 k4)) 24)
  have d4 := c4.trans (s4.mono c4.size)
  replace b0 := b0.next d4
  replace b1 := b1.next d4
  replace b2 := b2.next d4
  replace n0 := n0.below d4
  replace n1 := n1.below d4
  replace n2 := n2.below d4
  replace hB := hB.trans (d4.mono hB.size)
  clear s4 c4 d4 n4
  obtain ⟨⟨p0, p1, p2, p3⟩, _⟩ := b1.four
  go_wp2_with fail; refine (aw11_create 3 2 3 [aR ev1, aD] [120, 47] [] (⟨1, [120], 0⟩, 0) (fun ev => ((3, [aR ev1, aD]), 4)) _ _ n1 (aw11_ok1 ev1) (by decide) (by decide) (by decide) (by kernel_rfl) (fun ev => by kernel_rfl)).mono ?_; rintro e w5 ⟨v5, ev5, rfl, n5, c5⟩
  clear p0 p1 p2 p3
  obtain ⟨a5, k5, rfl⟩ := nds_slice n5
  have s5 := alloc_below w5 (.cells (fsC 3 2 3 (.slice a5 2 k5)) 24)
  have d5 := c5.trans (s5.mono c5.size)
  replace b0 := b0.next d5
  replace b1 := b1.next d5
  replace b2 := b2.next d5
  replace n0 := n0.below d5
  replace n1 := n1.below d5
  replace n2 := n2.below d5
  replace hB := hB.trans (d5.mono hB.size)
  clear s5 c5 d5 n5
  obtain ⟨⟨p0, p1, p2, p3⟩, _⟩ := b1.four
  go_wp2_with fail; refine (aw11_sym 3 2 3 [aR ev1, aD] [116] [115] (fun ev => ((4, [cR ev, aD, cS]), 0)) _ _ n1 (aw11_ok1 ev1) (by decide) (by decide) (by decide) (fun ev => aw11_t1 ev1 ev)).mono ?_; rintro e w6 ⟨v6, ev6, rfl, n6, c6⟩
  clear p0 p1 p2 p3
  obtain ⟨a6, k6, rfl⟩ := nds_slice n6
  have s6 := alloc_below w6 (.cells (fsC 3 2 4 (.slice a6 3 k6)) 24)
  have d6 := c6.trans (s6.mono c6.size)
  have b6 := Blk.new w6 24 (fsC 3 2 4 (.slice a6 3 k6))
  replace n6 := n6.below s6
  replace b0 := b0.next d6
  replace b1 := b1.next d6
  replace b2 := b2.next d6
  replace n0 := n0.below d6
  replace n1 := n1.below d6
  replace n2 := n2.below d6
  replace hB := hB.trans (d6.mono hB.size)
  clear s6 c6 d6
  obtain ⟨⟨p0, p1, p2, p3⟩, _⟩ := b1.four
  go_wp2_with fail; refine (aw11_sym 3 2 3 [aR ev1, aD] [] [115] (fun ev => ((3, [aR ev1, aD]), 1)) _ _ n1 (aw11_ok1 ev1) (by decide) (by decide) (by decide) (fun ev => aw11_t2 _ ev)).mono ?_; rintro e w7 ⟨v7, ev7, rfl, n7, c7⟩
  clear p0 p1 p2 p3
  obtain ⟨a7, k7, rfl⟩ := nds_slice n7
  have s7 := alloc_below w7 (.cells (fsC 3 2 3 (.slice a7 2 k7)) 24)
  have d7 := c7.trans (s7.mono c7.size)
  replace b0 := b0.next d7
  replace b1 := b1.next d7
  replace b2 := b2.next d7
  replace b6 := b6.next d7
  replace n0 := n0.below d7
  replace n1 := n1.below d7
  replace n2 := n2.below d7
  replace n6 := n6.below d7
  replace hB := hB.trans (d7.mono hB.size)
  clear s7 c7 d7 n7
  obtain ⟨⟨p0, p1, p2, p3⟩, _⟩ := b2.four
  go_wp2_with fail; refine (refGetT_any 3 2 4 3 [aR ev1, bD ev2, bF1] _ _ n2).mono ?_; rintro e w8 ⟨rfl, c8⟩
  rw [show getN [aR ev1, bD ev2, bF1] 3 = (⟨3, 1, 1, [120, 121], 0, .slice none 0 0, []⟩ : Nd) from rfl]
  have s8 := alloc_below w8 (.cells (ndC ⟨3, 1, 1, [120, 121], 0, .slice none 0 0, []⟩) 45)
  have bX := Blk.new w8 45 (ndC ⟨3, 1, 1, [120, 121], 0, .slice none 0 0, []⟩)
  have d8 := c8.trans (s8.mono c8.size)
  replace b2 := b2.next d8
  replace b6 := b6.next d8
  replace hB := hB.trans (d8.mono hB.size)
  clear p0 p1 p2 p3 c8 s8 d8
  obtain ⟨⟨p0, p1, p2, p3⟩, _⟩ := b2.four
  obtain ⟨⟨q0, q1, q2, q3⟩, _⟩ := b6.four
  obtain ⟨⟨x0, x1, x2, x3, x4, x5⟩, _⟩ := bX.six
  dsimp only at x0 x1 x2 x3 x4 x5
  go_wp2
  go_ret
  exact ⟨rfl, hB⟩

/-! ### May a file system, and texts, be looked at? -/
def fit11B (mi mb nx : Int) (l : List Nd) (base p data : List UInt8) : Bool := okB mi mb nx l && decide (nx < 1099511627776) && shortB l base p && decide (data.length ≤ 5000)
theorem fit11_parts {mi mb nx : Int} {l : List Nd} {base p data : List UInt8} (h : fit11B mi mb nx l base p data = true) : okB mi mb nx l = true ∧ nx < 1099511627776 ∧ shortB l base p = true ∧ data.length ≤ 5000 := by
  unfold fit11B at h
  simp only [Bool.and_eq_true, decide_eq_true_eq] at h
  exact ⟨h.1.1.1, h.1.1.2, h.1.2, h.2⟩

set_option maxHeartbeats 4000000 in
theorem fits11_any (mi mb nx : Int) (l : List Nd) (base p data : List UInt8) (v : Value) (w : World) (hv : Nds w v l) :
    Calls Tryz.prog 10 #[.agg (fsC mi mb nx v), .string ⟨base.toArray⟩, .string ⟨p.toArray⟩, .string ⟨data.toArray⟩] w fun e w' => e = .returned (.bool (fit11B mi mb nx l base p data)) ∧ Below w.heap.size w w' := by
  obtain ⟨a, ca, rfl⟩ := nds_slice hv
  have bF := Blk.new w 24 (fsC mi mb nx (.slice a l.length ca))
  have hB := alloc_below w (.cells (fsC mi mb nx (.slice a l.length ca)) 24)
  have nV := hv.below hB
  clear hv
  go_enter Tryz.func10, Tryz.ntmps10
  obtain ⟨⟨p0, p1, p2, p3⟩, _⟩ := bF.four
  go_wp2_with fail; refine (refOk_any mi mb nx l _ _ nV).mono ?_; rintro e w1 ⟨rfl, b1⟩
  (replace bF := bF.next b1; replace nV := nV.below b1; replace hB := hB.trans (b1.mono hB.size))
  clear b1 p0 p1 p2 p3
  obtain ⟨⟨p0, p1, p2, p3⟩, _⟩ := bF.four
  cases hok : okB mi mb nx l
  · have HN : Hid (fit11B mi mb nx l base p data = false) := by (show _ = _); unfold fit11B; rw [hok]; rfl
    go_wp2
    go_ret
    exact ⟨ret_bool (by rw [HN.out]), hB⟩
  by_cases hx : nx < 1099511627776
  · go_wp2_with fail
    refine (refShort_any mi mb nx l base p _ _ nV).mono ?_
    rintro e w2 ⟨rfl, b2⟩
    have hB2 := hB.trans (b2.mono hB.size)
    cases hsh : shortB l base p
    · have HN : Hid (fit11B mi mb nx l base p data = false) := by (show _ = _); unfold fit11B; rw [hsh]; simp
      go_wp2
      go_ret
      exact ⟨ret_bool (by rw [HN.out]), hB2⟩
    · have HN : Hid (fit11B mi mb nx l base p data = decide (data.length ≤ 5000)) := by (show _ = _); unfold fit11B; rw [hok, hsh, decide_eq_true hx]; rfl
      go_wp2
      go_ret
      exact ⟨ret_bool (by rw [HN.out]; first | rfl | (simp; try omega)), hB2⟩
  · have HN : Hid (fit11B mi mb nx l base p data = false) := by (show _ = _); unfold fit11B; rw [decide_eq_false hx]; simp
    go_wp2
    go_ret
    exact ⟨ret_bool (by rw [HN.out]), hB⟩
end Go.Proofs.YtobepdmpacdakaaGreat
