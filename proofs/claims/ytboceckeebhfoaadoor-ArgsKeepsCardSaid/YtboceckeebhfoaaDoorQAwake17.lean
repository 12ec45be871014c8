import Derived.Test.YtboceckeebhfoaaDoorQWalkQ17
set_option linter.unusedVariables false
set_option linter.unusedSimpArgs false
/- Walks: awake, the answers that the document fixes for layer 17. -/
set_option linter.unusedVariables false
set_option linter.unusedSimpArgs false
namespace Go.Proofs.YtboceckeebhfoaaDoor
open Go.RowKit

theorem aw_read (l : List (List UInt8)) (c : CmdV) (s : List UInt8) (h : readA l = (c, s)) (v : Value) (w : World) (hv : StrsC w v l) (hl : l.length ≤ 900) (he : ∀ y ∈ l, y.length ≤ 1000) (hL : Laid17 w) :
    Calls Tryd.prog 10 #[v] w fun e w' => ∃ a cc, e = .returned (.tuple #[.agg (cmdC c (.slice a c.ops.length cc)), .string ⟨s.toArray⟩]) ∧ Strs w' (.slice a c.ops.length cc) c.ops ∧ Below w.heap.size w w' := by
  refine (Read17_any l v w hv hl he hL).mono ?_
  rintro e w' ⟨vo, rfl, ho, hb⟩
  rw [h] at ho ⊢
  have hs := own_strs ho
  obtain ⟨a, cc, rfl⟩ := strs_slice17 hs
  exact ⟨a, cc, rfl, hs, hb⟩
theorem aw_name (k : Int) (x : List UInt8) (h : nameK k = x) (w : World) (hL : Laid17 w) : Calls Tryd.prog 13 #[.int .i64 k] w fun e w' => e = .returned (.string ⟨x.toArray⟩) ∧ Below w.heap.size w w' := by
  have := Name17_any k w hL
  rw [h] at this; exact this
theorem aw_has (c : CmdV) (a : Option Addr) (n m : Nat) (x : UInt8) (r : Bool) (h : inB c.opts x = r) (w : World) (hc : c.opts.length ≤ 1000) : Calls Tryd.prog 15 #[.agg (cmdC c (.slice a n m)), .int .u8 (x.toNat : Int)] w fun e w' => e = .returned (.bool r) ∧ Below w.heap.size w w' := by
  have := Has17_any c (.slice a n m) x w hc ⟨a, n, m, rfl⟩
  rw [h] at this; exact this
theorem aw_same (a : CmdV) (va vb : Value) (w : World) (ha : Strs w va a.ops) (hb : Strs w vb a.ops) : Calls Tryd.prog 12 #[.agg (cmdC a va), .agg (cmdC a vb)] w fun e w' => e = .returned (.bool true) ∧ Below w.heap.size w w' := by
  have := refSameC_any a a va vb w ha hb
  rw [show decide (a = a) = true from decide_eq_true rfl] at this; exact this

set_option maxHeartbeats 8000000 in
set_option maxRecDepth 100000 in
theorem awake17 (w : World) (hL : Laid17 w) : Calls Tryd.prog 8 #[] w fun e w' => e = .returned (.bool true) ∧ Below w.heap.size w w' := by
  have HL := Lib.hid hL
  clear hL
  have hB := Below.refl w.heap.size w
  go_enter Tryd.func8, Tryd.ntmps8
  have n1 := lit_strs w 9 #[.string ⟨#[99, 112]⟩, .string ⟨#[45, 114, 102]⟩, .string ⟨#[97]⟩, .string ⟨#[98]⟩] [[99, 112], [45, 114, 102], [97], [98]] rfl (by decide) 4 rfl
  have g1 := (Below.refl w.heap.size w).alloc (Nat.le_refl _) (.cells #[.string ⟨#[99, 112]⟩, .string ⟨#[45, 114, 102]⟩, .string ⟨#[97]⟩, .string ⟨#[98]⟩] 9)
  replace hB := hB.trans (g1.mono hB.size)
  clear g1
  go_wp2_with fail
  refine (aw_read [[99, 112], [45, 114, 102], [97], [98]] ⟨5, [102, 114], [[97], [98]]⟩ [] (by decide +kernel) _ _ n1 (by decide) (by decide) (HL.out.next hB)).mono ?_
  rintro e x1 ⟨a1, c1, rfl, s1, g1⟩
  replace hB := hB.trans (g1.mono hB.size)
  clear g1 n1
  have B1 := Blk.new x1 26 (cmdC ⟨5, [102, 114], [[97], [98]]⟩ (.slice a1 2 c1))
  have g1 := (Below.refl x1.heap.size x1).alloc (Nat.le_refl _) (.cells (cmdC ⟨5, [102, 114], [[97], [98]]⟩ (.slice a1 2 c1)) 26)
  replace hB := hB.trans (g1.mono hB.size)
  replace s1 := s1.below g1
  clear g1
  generalize hy1 : x1.alloc (.cells (cmdC ⟨5, [102, 114], [[97], [98]]⟩ (.slice a1 2 c1)) 26) = y1 at *
  have n2 := lit_strs y1 9 #[.string ⟨#[109, 118]⟩, .string ⟨#[97]⟩] [[109, 118], [97]] rfl (by decide) 2 rfl
  have g2 := (Below.refl y1.heap.size y1).alloc (Nat.le_refl _) (.cells #[.string ⟨#[109, 118]⟩, .string ⟨#[97]⟩] 9)
  replace hB := hB.trans (g2.mono hB.size)
  replace B1 := B1.next g2
  replace s1 := s1.below g2
  clear g2
  go_wp2_with fail
  refine (aw_read [[109, 118], [97]] ⟨0, [], []⟩ [109, 118, 58, 32, 109, 105, 115, 115, 105, 110, 103, 32, 100, 101, 115, 116, 105, 110, 97, 116, 105, 111, 110, 32, 111, 112, 101, 114, 97, 110, 100, 32, 97, 102, 116, 101, 114, 32, 34, 97, 34] (by decide +kernel) _ _ n2 (by decide) (by decide) (HL.out.next hB)).mono ?_
  rintro e x2 ⟨a2, c2, rfl, s2, g2⟩
  replace hB := hB.trans (g2.mono hB.size)
  replace B1 := B1.next g2
  replace s1 := s1.below g2
  clear g2 n2 s2
  have B2 := Blk.new x2 26 (cmdC ⟨0, [], []⟩ (.slice a2 0 c2))
  have g2 := (Below.refl x2.heap.size x2).alloc (Nat.le_refl _) (.cells (cmdC ⟨0, [], []⟩ (.slice a2 0 c2)) 26)
  replace hB := hB.trans (g2.mono hB.size)
  replace B1 := B1.next g2
  replace s1 := s1.below g2
  clear g2
  clear B2
  generalize hy2 : x2.alloc (.cells (cmdC ⟨0, [], []⟩ (.slice a2 0 c2)) 26) = y2 at *
  have n3 := lit_strs y2 9 #[.string ⟨#[114, 109]⟩, .string ⟨#[45, 120]⟩] [[114, 109], [45, 120]] rfl (by decide) 2 rfl
  have g3 := (Below.refl y2.heap.size y2).alloc (Nat.le_refl _) (.cells #[.string ⟨#[114, 109]⟩, .string ⟨#[45, 120]⟩] 9)
  replace hB := hB.trans (g3.mono hB.size)
  replace B1 := B1.next g3
  replace s1 := s1.below g3
  clear g3
  go_wp2_with fail
  refine (aw_read [[114, 109], [45, 120]] ⟨0, [], []⟩ [114, 109, 58, 32, 105, 110, 118, 97, 108, 105, 100, 32, 111, 112, 116, 105, 111, 110, 32, 34, 120, 34] (by decide +kernel) _ _ n3 (by decide) (by decide) (HL.out.next hB)).mono ?_
  rintro e x3 ⟨a3, c3, rfl, s3, g3⟩
  replace hB := hB.trans (g3.mono hB.size)
  replace B1 := B1.next g3
  replace s1 := s1.below g3
  clear g3 n3 s3
  have B3 := Blk.new x3 26 (cmdC ⟨0, [], []⟩ (.slice a3 0 c3))
  have g3 := (Below.refl x3.heap.size x3).alloc (Nat.le_refl _) (.cells (cmdC ⟨0, [], []⟩ (.slice a3 0 c3)) 26)
  replace hB := hB.trans (g3.mono hB.size)
  replace B1 := B1.next g3
  replace s1 := s1.below g3
  clear g3
  clear B3
  generalize hy3 : x3.alloc (.cells (cmdC ⟨0, [], []⟩ (.slice a3 0 c3)) 26) = y3 at *
  go_wp2_with fail
  refine (aw_read [] ⟨0, [], []⟩ [109, 105, 115, 115, 105, 110, 103, 32, 99, 111, 109, 109, 97, 110, 100] (by decide +kernel) _ _ (StrsC.nil_ _) (by decide) (by decide) (HL.out.next hB)).mono ?_
  rintro e x4 ⟨a4, c4, rfl, s4, g4⟩
  replace hB := hB.trans (g4.mono hB.size)
  replace B1 := B1.next g4
  replace s1 := s1.below g4
  clear g4 s4
  have B4 := Blk.new x4 26 (cmdC ⟨0, [], []⟩ (.slice a4 0 c4))
  have g4 := (Below.refl x4.heap.size x4).alloc (Nat.le_refl _) (.cells (cmdC ⟨0, [], []⟩ (.slice a4 0 c4)) 26)
  replace hB := hB.trans (g4.mono hB.size)
  replace B1 := B1.next g4
  replace s1 := s1.below g4
  clear g4
  clear B4
  generalize hy4 : x4.alloc (.cells (cmdC ⟨0, [], []⟩ (.slice a4 0 c4)) 26) = y4 at *
  have n5 := lit_strs y4 9 #[.string ⟨#[114, 109]⟩, .string ⟨#[45, 45]⟩, .string ⟨#[45, 114]⟩] [[114, 109], [45, 45], [45, 114]] rfl (by decide) 3 rfl
  have g5 := (Below.refl y4.heap.size y4).alloc (Nat.le_refl _) (.cells #[.string ⟨#[114, 109]⟩, .string ⟨#[45, 45]⟩, .string ⟨#[45, 114]⟩] 9)
  replace hB := hB.trans (g5.mono hB.size)
  replace B1 := B1.next g5
  replace s1 := s1.below g5
  clear g5
  go_wp2_with fail
  refine (aw_read [[114, 109], [45, 45], [45, 114]] ⟨2, [], [[45, 114]]⟩ [] (by decide +kernel) _ _ n5 (by decide) (by decide) (HL.out.next hB)).mono ?_
  rintro e x5 ⟨a5, c5, rfl, s5, g5⟩
  replace hB := hB.trans (g5.mono hB.size)
  replace B1 := B1.next g5
  replace s1 := s1.below g5
  clear g5 n5
  have B5 := Blk.new x5 26 (cmdC ⟨2, [], [[45, 114]]⟩ (.slice a5 1 c5))
  have g5 := (Below.refl x5.heap.size x5).alloc (Nat.le_refl _) (.cells (cmdC ⟨2, [], [[45, 114]]⟩ (.slice a5 1 c5)) 26)
  replace hB := hB.trans (g5.mono hB.size)
  replace B1 := B1.next g5
  replace s1 := s1.below g5
  replace s5 := s5.below g5
  clear g5
  generalize hy5 : x5.alloc (.cells (cmdC ⟨2, [], [[45, 114]]⟩ (.slice a5 1 c5)) 26) = y5 at *
  clear hy1 hy2 hy3 hy4
  obtain ⟨⟨p0, p1, p2⟩, _⟩ := B1.tri
  dsimp only at p0 p1 p2
  have m1 := lit_strs y5 9 #[.string ⟨#[97]⟩, .string ⟨#[98]⟩] [[97], [98]] rfl (by decide) 2 rfl
  have g1 := (Below.refl y5.heap.size y5).alloc (Nat.le_refl _) (.cells #[.string ⟨#[97]⟩, .string ⟨#[98]⟩] 9)
  replace hB := hB.trans (g1.mono hB.size)
  replace B1 := B1.next g1
  replace B5 := B5.next g1
  replace s1 := s1.below g1
  replace s5 := s5.below g1
  clear g1
  go_wp2_with fail
  refine (aw_same ⟨5, [102, 114], [[97], [98]]⟩ _ _ _ s1 m1.1).mono ?_
  rintro e z1 ⟨rfl, g1⟩
  replace hB := hB.trans (g1.mono hB.size)
  replace B1 := B1.next g1
  replace B5 := B5.next g1
  replace s5 := s5.below g1
  clear g1 m1 s1 p0 p1 p2
  obtain ⟨⟨p0, p1, p2⟩, _⟩ := B5.tri
  dsimp only at p0 p1 p2
  have m2 := lit_strs z1 9 #[.string ⟨#[45, 114]⟩] [[45, 114]] rfl (by decide) 1 rfl
  have g1 := (Below.refl z1.heap.size z1).alloc (Nat.le_refl _) (.cells #[.string ⟨#[45, 114]⟩] 9)
  replace hB := hB.trans (g1.mono hB.size)
  replace B1 := B1.next g1
  replace s5 := s5.below g1
  clear g1
  go_wp2_with fail
  refine (aw_same ⟨2, [], [[45, 114]]⟩ _ _ _ s5 m2.1).mono ?_
  rintro e z2 ⟨rfl, g1⟩
  replace hB := hB.trans (g1.mono hB.size)
  replace B1 := B1.next g1
  clear g1 m2 s5 p0 p1 p2 B5
  go_wp2_with fail
  refine (aw_name 3 [108, 110] (by decide) _ (HL.out.next hB)).mono ?_
  rintro e z3 ⟨rfl, g1⟩
  replace hB := hB.trans (g1.mono hB.size)
  replace B1 := B1.next g1
  clear g1
  go_wp2_with fail
  refine (aw_name 9 [] (by decide) _ (HL.out.next hB)).mono ?_
  rintro e z4 ⟨rfl, g1⟩
  replace hB := hB.trans (g1.mono hB.size)
  replace B1 := B1.next g1
  clear g1
  obtain ⟨⟨p0, p1, p2⟩, _⟩ := B1.tri
  dsimp only at p0 p1 p2
  go_wp2_with fail
  refine (aw_has ⟨5, [102, 114], [[97], [98]]⟩ a1 2 c1 114 true (by decide) _ (by decide)).mono ?_
  rintro e z5 ⟨rfl, g1⟩
  replace hB := hB.trans (g1.mono hB.size)
  replace B1 := B1.next g1
  clear g1 p0 p1 p2
  obtain ⟨⟨p0, p1, p2⟩, _⟩ := B1.tri
  dsimp only at p0 p1 p2
  go_wp2_with fail
  refine (aw_has ⟨5, [102, 114], [[97], [98]]⟩ a1 2 c1 82 false (by decide) _ (by decide)).mono ?_
  rintro e z6 ⟨rfl, g1⟩
  replace hB := hB.trans (g1.mono hB.size)
  go_wp2
  go_ret
  exact ⟨rfl, hB⟩
end Go.Proofs.YtboceckeebhfoaaDoor
