/- Walks: the document's Home, and whether paths are short. -/
import Derived.Test.YtobepdmpacdakaaGreatQWalkB09
import Derived.Test.YtobepdmpacdakaaGreatQB
set_option linter.unusedVariables false
set_option linter.unusedSimpArgs false
namespace Go.Proofs.YtobepdmpacdakaaGreat
open Go.RowKit

theorem home_err {l : List Nd} {p : List UInt8} (h : (getP l p).2 ≠ 0) : homeP l p = (0, (getP l p).2) := by unfold homeP; rw [if_pos h]
theorem home_file {l : List Nd} {p : List UInt8} (h : (getP l p).2 = 0) (h2 : (getP l p).1.kind ≠ 2) : homeP l p = (0, 3) := by unfold homeP; rw [if_neg (by simp [h]), if_pos h2]
theorem home_some {l : List Nd} {p : List UInt8} (h : (getP l p).2 = 0) (h2 : (getP l p).1.kind = 2) : homeP l p = ((getP l p).1.ino, 0) := by unfold homeP; rw [if_neg (by simp [h]), if_neg (by simp [h2])]

set_option maxHeartbeats 4000000 in
theorem refHome_any (mi mb nx : Int) (l : List Nd) (p : List UInt8) (v : Value) (w : World) (hv : Nds w v l) (hp : p.length ≤ 100000) :
    Calls Tryz.prog 37 #[.agg (fsC mi mb nx v), .string ⟨p.toArray⟩] w fun e w' => e = .returned (.tuple #[.int .i64 (homeP l p).1, .int .i64 (homeP l p).2]) ∧ Below w.heap.size w w' := by
  obtain ⟨a, ca, rfl⟩ := nds_slice hv
  have bF := Blk.new w 24 (fsC mi mb nx (.slice a l.length ca))
  have hB := alloc_below w (.cells (fsC mi mb nx (.slice a l.length ca)) 24)
  have hG := refGetP_any mi mb nx l p _ _ (hv.below hB) hp
  have h1 := home_err (l := l) (p := p)
  have h2 := home_file (l := l) (p := p)
  have h3 := home_some (l := l) (p := p)
  obtain ⟨ag, ng, cg, hgs⟩ := get_slice0 hv p
  generalize getP l p = G at *
  obtain ⟨⟨gi, gk, gl, gd, gp, ge, gn⟩, er⟩ := G
  dsimp only at hG h1 h2 h3 hgs
  subst hgs
  have H1 := Lib.hid h1
  have H2 := Lib.hid h2
  have H3 := Lib.hid h3
  clear h1 h2 h3 hv
  obtain ⟨⟨p0, p1, p2, p3⟩, _⟩ := bF.four
  go_enter Tryz.func37, Tryz.ntmps37
  go_wp2_with fail
  refine hG.mono ?_
  rintro e w1 ⟨rfl, b1⟩
  clear hG p0 p1 p2 p3
  have b2 := alloc_below w1 (.cells (ndC ⟨gi, gk, gl, gd, gp, .slice ag ng cg, gn⟩) 45)
  have bX := Blk.new w1 45 (ndC ⟨gi, gk, gl, gd, gp, .slice ag ng cg, gn⟩)
  have hB2 := (hB.trans (b1.mono hB.size)).trans (b2.mono (hB.trans (b1.mono hB.size)).size)
  obtain ⟨⟨x0, x1, x2, x3, x4, x5⟩, _⟩ := bX.six
  dsimp only at x0 x1 x2 x3 x4 x5
  clear b1 b2 hB bF bX
  by_cases her : er = 0
  · subst her
    by_cases hk : gk = 2
    · have HN := Lib.hid (H3.out rfl hk)
      subst hk
      clear H1 H2 H3
      go_wp2
      go_ret2
      exact ⟨by rw [HN.out]; rfl, hB2⟩
    · have HN := Lib.hid (H2.out rfl hk)
      clear H1 H2 H3
      go_wp2
      go_ret2
      exact ⟨by rw [HN.out]; rfl, hB2⟩
  · have HN := Lib.hid (H1.out her)
    clear H1 H2 H3
    go_wp2
    go_ret2
    exact ⟨by rw [HN.out]; rfl, hB2⟩

/-- Are paths short, and links' targets? -/
def shortL (l : List Nd) : Bool := (l.take 100).all (fun x => !(decide (x.kind = 3) && decide (300 < x.data.length)))
def shortB (l : List Nd) (base p : List UInt8) : Bool := shortL l && decide (base.length ≤ 1000) && decide (p.length ≤ 5000)
theorem short_no {l : List Nd} {base p : List UInt8} {k : Nat} (h : k < l.length) (h100 : k < 100) (hx : decide (l[k].kind = 3) = true) (h3 : decide (300 < l[k].data.length) = true) : shortB l base p = false := by
  have : shortL l = false := by
    unfold shortL
    refine all_no (k := k) (by simp; omega) ?_
    rw [List.getElem_take, hx, h3]; rfl
  unfold shortB
  rw [this]; rfl
theorem short_yes {l : List Nd} {base p : List UInt8} (h : ∀ j (hj : j < l.length), j < 100 → (decide (l[j].kind = 3) && decide (300 < l[j].data.length)) = false) : shortB l base p = (decide (base.length ≤ 1000) && decide (p.length ≤ 5000)) := by
  have : shortL l = true := by
    unfold shortL
    rw [List.all_eq_true]
    intro x hx
    obtain ⟨j, hj, rfl⟩ := List.getElem_of_mem hx
    simp at hj
    rw [List.getElem_take, h j (by omega) (by omega)]; rfl
  unfold shortB
  rw [this, Bool.true_and]

set_option maxHeartbeats 4000000 in
theorem refShort_any (mi mb nx : Int) (l : List Nd) (base p : List UInt8) (v : Value) (w : World) (hv : Nds w v l) :
    Calls Tryz.prog 26 #[.agg (fsC mi mb nx v), .string ⟨base.toArray⟩, .string ⟨p.toArray⟩] w fun e w' => e = .returned (.bool (shortB l base p)) ∧ Below w.heap.size w w' := by
  obtain ⟨a, ca, rfl, hc, hm, _, hna, HA0⟩ := id hv
  unfold maxLen at hm
  have HA := Lib.hid HA0
  clear HA0 hv
  have b0 := Blk.new w 24 (fsC mi mb nx (.slice a l.length ca))
  have hB0 := alloc_below w (.cells (fsC mi mb nx (.slice a l.length ca)) 24)
  go_enter Tryz.func26, Tryz.ntmps26
  go_wp2
  go_loopg [7] 100 (fun g s7 wr => ∃ k : Nat, k + g = 100 ∧ s7 = .int .i64 k ∧ Aside (∀ j (hj : j < l.length), j < k → (decide (l[j].kind = 3) && decide (300 < l[j].data.length)) = false) ∧ Below w.heap.size w wr ∧ Aside (Blk wr w.heap.size 24 (fsC mi mb nx (.slice a l.length ca))))
  case atStart => exact ⟨0, by omega, rfl, fun j hj h => absurd h (by omega), hB0, b0⟩
  case round =>
    clear b0 hB0
    obtain ⟨k, hkg, rfl, HT, hbw, HB⟩ := hrel
    have p3 := HB.out.four.1.2.2.2
    by_cases hlt : k < l.length
    · by_cases h100 : k < 100
      · obtain ⟨G, rfl⟩ : ∃ G, gk = G + 1 := ⟨gk - 1, by omega⟩
        obtain ⟨b, o, rfl, hb, hcl⟩ := HA.out (by omega)
        obtain ⟨c0, c1, c2, c3, c4, c5⟩ := (hcl k hlt).below hbw hb
        clear hcl
        have hno := short_no (base := base) (p := p) hlt h100
        have hye : (decide (l[k].kind = 3) && decide (300 < l[k].data.length)) = false → ∀ j (hj : j < l.length), j < k + 1 → (decide (l[j].kind = 3) && decide (300 < l[j].data.length)) = false := fun h j hj h' => by
          rcases Nat.lt_or_ge j k with h2 | h2
          · exact HT.out j hj h2
          · obtain rfl : j = k := by omega
            exact h
        generalize l[k] = y at *
        obtain ⟨yi, yk, yl, yd, yp, ye, yn⟩ := y
        dsimp only at c0 c1 c2 c3 c4 c5 hno hye
        by_cases h3 : yk = 3
        · subst h3
          by_cases h4 : 300 < yd.length
          · have HN := Lib.hid (hno (by simp) (by simp; omega))
            clear hye hno HT
            go_wp2
            go_ret
            exact ⟨ret_bool (by rw [HN.out]), hbw⟩
          · have HT2 := Lib.hid (hye (by simp; omega))
            clear hye hno HT
            go_wp2
            go_roundg G
            case measure => omega
            case rel => exact ⟨k + 1, by omega, by go_num, HT2.out, hbw, HB.out⟩
        · have HT2 := Lib.hid (hye (by simp [h3]))
          clear hye hno HT
          go_wp2
          go_roundg G
          case measure => omega
          case rel => exact ⟨k + 1, by omega, by go_num, HT2.out, hbw, HB.out⟩
      · have HY := Lib.hid (short_yes (base := base) (p := p) (l := l) fun j hj h => HT.out j hj (by omega))
        by_cases hb1 : base.length ≤ 1000
        · go_wp2
          go_ret
          exact ⟨ret_bool (by rw [HY.out]; first | (rw [decide_eq_false hb1]; rfl) | (rw [decide_eq_true hb1, Bool.true_and]; first | rfl | (simp; try omega))), hbw⟩
        · go_wp2
          go_ret
          exact ⟨ret_bool (by rw [HY.out]; first | (rw [decide_eq_false hb1]; rfl) | (rw [decide_eq_true hb1, Bool.true_and]; first | rfl | (simp; try omega))), hbw⟩
    · have HY := Lib.hid (short_yes (base := base) (p := p) (l := l) fun j hj h => HT.out j hj (by omega))
      by_cases hb1 : base.length ≤ 1000
      · go_wp2
        go_ret
        exact ⟨ret_bool (by rw [HY.out]; first | (rw [decide_eq_false hb1]; rfl) | (rw [decide_eq_true hb1, Bool.true_and]; first | rfl | (simp; try omega))), hbw⟩
      · go_wp2
        go_ret
        exact ⟨ret_bool (by rw [HY.out]; first | (rw [decide_eq_false hb1]; rfl) | (rw [decide_eq_true hb1, Bool.true_and]; first | rfl | (simp; try omega))), hbw⟩
end Go.Proofs.YtobepdmpacdakaaGreat
