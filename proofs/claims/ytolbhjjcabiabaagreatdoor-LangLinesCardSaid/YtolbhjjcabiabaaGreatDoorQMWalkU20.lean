/- Texts put together: WalkC20, QuoH, HeldAid, Pure19b, Pure20f, Here, More, WalkU20. -/
import Derived.Test.YtolbhjjcabiabaaGreatDoorQMWalkB20
import Derived.Test.YtolbhjjcabiabaaGreatDoorQMWalkB03
import Derived.Deep.RegionHeld3
import Derived.Lib.SlicesCompact
import Derived.Laws.AppendOwn
import Derived.Laws.OwnMore
import Derived.Lib.IndexLaws
set_option linter.unusedVariables false
set_option linter.unusedSimpArgs false
/- Walks: the document's Line (printed by tools/line20.py). -/
set_option linter.unusedVariables false
set_option linter.unusedSimpArgs false
namespace Go.Proofs.YtolbhjjcabiabaaGreatDoor
open Go.RowKit
attribute [local go_sem] ByteArray.mk_append_mk

theorem line20_1 (n : Nat) (A B D : List UInt8) : lineO ⟨1, (n : Int), A, B, D⟩ = ([109, 107, 100, 105, 114, 32] : List UInt8) ++ quoteB A := by
  simp [lineO, lineW, slotK, pairK, joinQ, wordK]
set_option maxHeartbeats 4000000 in
set_option maxRecDepth 100000 in
theorem refLine1_any (n : Nat) (A B D : List UInt8) (w : World) (ha : A.length ≤ 100000) (hb : B.length ≤ 100000) (hd : D.length ≤ 100000) (hn : n ≤ 1099511627776) :
    Calls Tryz.prog 14 #[.agg (opC ⟨1, (n : Int), A, B, D⟩)] w fun e w' => e = .returned (.string ⟨(lineO ⟨1, (n : Int), A, B, D⟩).toArray⟩) ∧ Below w.heap.size w w' := by
  have HM := Lib.hid (line20_1 n A B D)
  have bO := Blk.new w 23 (opC ⟨1, (n : Int), A, B, D⟩)
  have hB : Below w.heap.size w (w.alloc (.cells (opC ⟨1, (n : Int), A, B, D⟩) 23)) := (Below.refl _ w).alloc (Nat.le_refl _) _
  obtain ⟨p0, p1, p2, p3, p4⟩ := bO.five
  dsimp only at p0 p1 p2 p3 p4
  have HD := Lib.hid hd
  have HA := Lib.hid ha
  have HBB := Lib.hid hb
  have HNN := Lib.hid hn
  clear ha hb hd hn
  go_enter Tryz.func14, Tryz.ntmps14
  go_wp2_with fail
  refine (refQuote_any A _ (by have := HA.out; omega)).mono ?_
  rintro e w1 ⟨rfl, b1⟩
  replace bO := bO.next b1
  replace hB := hB.trans (b1.mono hB.size)
  clear b1 p0 p1 p2 p3 p4
  obtain ⟨p0, p1, p2, p3, p4⟩ := bO.five
  dsimp only at p0 p1 p2 p3 p4
  have hql1 : (quoteB A).length ≤ 400002 := by have := quoteB_len A; have := HA.out; omega
  generalize quoteB A = QA at *
  go_wp2_with fail
  refine (refQuote_any B _ (by have := HBB.out; omega)).mono ?_
  rintro e w2 ⟨rfl, b2⟩
  replace bO := bO.next b2
  replace hB := hB.trans (b2.mono hB.size)
  clear b2 p0 p1 p2 p3 p4
  obtain ⟨p0, p1, p2, p3, p4⟩ := bO.five
  dsimp only at p0 p1 p2 p3 p4
  have hql2 : (quoteB B).length ≤ 400002 := by have := quoteB_len B; have := HBB.out; omega
  generalize quoteB B = QB at *
  have hn0 : ¬ ((n : Int) < 0) := by omega
  go_wp2_with fail
  refine (refDec_any n _ (by have := HNN.out; omega)).mono ?_
  rintro e w3 ⟨rfl, b3⟩
  replace bO := bO.next b3
  replace hB := hB.trans (b3.mono hB.size)
  clear b3 p0 p1 p2 p3 p4
  obtain ⟨p0, p1, p2, p3, p4⟩ := bO.five
  dsimp only at p0 p1 p2 p3 p4
  have hdl : (decB n).length ≤ 13 := decF_len 13 20 _ (by have := HNN.out; omega) (by decide)
  generalize decB n = DN at *
  go_wp2
  go_ret
  exact ⟨by rw [HM.out]; simp, hB⟩
theorem line20_2 (n : Nat) (A B D : List UInt8) : lineO ⟨2, (n : Int), A, B, D⟩ = ([99, 111, 112, 121, 32] : List UInt8) ++ quoteB A ++ [32] ++ quoteB B := by
  simp [lineO, lineW, slotK, pairK, joinQ, wordK]
set_option maxHeartbeats 4000000 in
set_option maxRecDepth 100000 in
theorem refLine2_any (n : Nat) (A B D : List UInt8) (w : World) (ha : A.length ≤ 100000) (hb : B.length ≤ 100000) (hd : D.length ≤ 100000) (hn : n ≤ 1099511627776) :
    Calls Tryz.prog 14 #[.agg (opC ⟨2, (n : Int), A, B, D⟩)] w fun e w' => e = .returned (.string ⟨(lineO ⟨2, (n : Int), A, B, D⟩).toArray⟩) ∧ Below w.heap.size w w' := by
  have HM := Lib.hid (line20_2 n A B D)
  have bO := Blk.new w 23 (opC ⟨2, (n : Int), A, B, D⟩)
  have hB : Below w.heap.size w (w.alloc (.cells (opC ⟨2, (n : Int), A, B, D⟩) 23)) := (Below.refl _ w).alloc (Nat.le_refl _) _
  obtain ⟨p0, p1, p2, p3, p4⟩ := bO.five
  dsimp only at p0 p1 p2 p3 p4
  have HD := Lib.hid hd
  have HA := Lib.hid ha
  have HBB := Lib.hid hb
  have HNN := Lib.hid hn
  clear ha hb hd hn
  go_enter Tryz.func14, Tryz.ntmps14
  go_wp2_with fail
  refine (refQuote_any A _ (by have := HA.out; omega)).mono ?_
  rintro e w1 ⟨rfl, b1⟩
  replace bO := bO.next b1
  replace hB := hB.trans (b1.mono hB.size)
  clear b1 p0 p1 p2 p3 p4
  obtain ⟨p0, p1, p2, p3, p4⟩ := bO.five
  dsimp only at p0 p1 p2 p3 p4
  have hql1 : (quoteB A).length ≤ 400002 := by have := quoteB_len A; have := HA.out; omega
  generalize quoteB A = QA at *
  go_wp2_with fail
  refine (refQuote_any B _ (by have := HBB.out; omega)).mono ?_
  rintro e w2 ⟨rfl, b2⟩
  replace bO := bO.next b2
  replace hB := hB.trans (b2.mono hB.size)
  clear b2 p0 p1 p2 p3 p4
  obtain ⟨p0, p1, p2, p3, p4⟩ := bO.five
  dsimp only at p0 p1 p2 p3 p4
  have hql2 : (quoteB B).length ≤ 400002 := by have := quoteB_len B; have := HBB.out; omega
  generalize quoteB B = QB at *
  have hn0 : ¬ ((n : Int) < 0) := by omega
  go_wp2_with fail
  refine (refDec_any n _ (by have := HNN.out; omega)).mono ?_
  rintro e w3 ⟨rfl, b3⟩
  replace bO := bO.next b3
  replace hB := hB.trans (b3.mono hB.size)
  clear b3 p0 p1 p2 p3 p4
  obtain ⟨p0, p1, p2, p3, p4⟩ := bO.five
  dsimp only at p0 p1 p2 p3 p4
  have hdl : (decB n).length ≤ 13 := decF_len 13 20 _ (by have := HNN.out; omega) (by decide)
  generalize decB n = DN at *
  go_wp2
  go_ret
  exact ⟨by rw [HM.out]; simp, hB⟩
theorem line20_3 (n : Nat) (A B D : List UInt8) : lineO ⟨3, (n : Int), A, B, D⟩ = ([119, 114, 105, 116, 101, 32] : List UInt8) ++ decB n ++ [32] ++ quoteB A ++ [32] ++ quoteB B := by
  simp [lineO, lineW, slotK, pairK, joinQ, wordK]
set_option maxHeartbeats 4000000 in
set_option maxRecDepth 100000 in
theorem refLine3_any (n : Nat) (A B D : List UInt8) (w : World) (ha : A.length ≤ 100000) (hb : B.length ≤ 100000) (hd : D.length ≤ 100000) (hn : n ≤ 1099511627776) :
    Calls Tryz.prog 14 #[.agg (opC ⟨3, (n : Int), A, B, D⟩)] w fun e w' => e = .returned (.string ⟨(lineO ⟨3, (n : Int), A, B, D⟩).toArray⟩) ∧ Below w.heap.size w w' := by
  have HM := Lib.hid (line20_3 n A B D)
  have bO := Blk.new w 23 (opC ⟨3, (n : Int), A, B, D⟩)
  have hB : Below w.heap.size w (w.alloc (.cells (opC ⟨3, (n : Int), A, B, D⟩) 23)) := (Below.refl _ w).alloc (Nat.le_refl _) _
  obtain ⟨p0, p1, p2, p3, p4⟩ := bO.five
  dsimp only at p0 p1 p2 p3 p4
  have HD := Lib.hid hd
  have HA := Lib.hid ha
  have HBB := Lib.hid hb
  have HNN := Lib.hid hn
  clear ha hb hd hn
  go_enter Tryz.func14, Tryz.ntmps14
  go_wp2_with fail
  refine (refQuote_any A _ (by have := HA.out; omega)).mono ?_
  rintro e w1 ⟨rfl, b1⟩
  replace bO := bO.next b1
  replace hB := hB.trans (b1.mono hB.size)
  clear b1 p0 p1 p2 p3 p4
  obtain ⟨p0, p1, p2, p3, p4⟩ := bO.five
  dsimp only at p0 p1 p2 p3 p4
  have hql1 : (quoteB A).length ≤ 400002 := by have := quoteB_len A; have := HA.out; omega
  generalize quoteB A = QA at *
  go_wp2_with fail
  refine (refQuote_any B _ (by have := HBB.out; omega)).mono ?_
  rintro e w2 ⟨rfl, b2⟩
  replace bO := bO.next b2
  replace hB := hB.trans (b2.mono hB.size)
  clear b2 p0 p1 p2 p3 p4
  obtain ⟨p0, p1, p2, p3, p4⟩ := bO.five
  dsimp only at p0 p1 p2 p3 p4
  have hql2 : (quoteB B).length ≤ 400002 := by have := quoteB_len B; have := HBB.out; omega
  generalize quoteB B = QB at *
  have hn0 : ¬ ((n : Int) < 0) := by omega
  go_wp2_with fail
  refine (refDec_any n _ (by have := HNN.out; omega)).mono ?_
  rintro e w3 ⟨rfl, b3⟩
  replace bO := bO.next b3
  replace hB := hB.trans (b3.mono hB.size)
  clear b3 p0 p1 p2 p3 p4
  obtain ⟨p0, p1, p2, p3, p4⟩ := bO.five
  dsimp only at p0 p1 p2 p3 p4
  have hdl : (decB n).length ≤ 13 := decF_len 13 20 _ (by have := HNN.out; omega) (by decide)
  generalize decB n = DN at *
  go_wp2
  go_ret
  exact ⟨by rw [HM.out]; simp, hB⟩
theorem line20_4 (n : Nat) (A B D : List UInt8) : lineO ⟨4, (n : Int), A, B, D⟩ = ([115, 121, 109, 32] : List UInt8) ++ quoteB D ++ [32] ++ quoteB A := by
  simp [lineO, lineW, slotK, pairK, joinQ, wordK]
set_option maxHeartbeats 4000000 in
set_option maxRecDepth 100000 in
theorem refLine4_any (n : Nat) (A B D : List UInt8) (w : World) (ha : A.length ≤ 100000) (hb : B.length ≤ 100000) (hd : D.length ≤ 100000) (hn : n ≤ 1099511627776) :
    Calls Tryz.prog 14 #[.agg (opC ⟨4, (n : Int), A, B, D⟩)] w fun e w' => e = .returned (.string ⟨(lineO ⟨4, (n : Int), A, B, D⟩).toArray⟩) ∧ Below w.heap.size w w' := by
  have HM := Lib.hid (line20_4 n A B D)
  have bO := Blk.new w 23 (opC ⟨4, (n : Int), A, B, D⟩)
  have hB : Below w.heap.size w (w.alloc (.cells (opC ⟨4, (n : Int), A, B, D⟩) 23)) := (Below.refl _ w).alloc (Nat.le_refl _) _
  obtain ⟨p0, p1, p2, p3, p4⟩ := bO.five
  dsimp only at p0 p1 p2 p3 p4
  have HD := Lib.hid hd
  have HA := Lib.hid ha
  have HBB := Lib.hid hb
  have HNN := Lib.hid hn
  clear ha hb hd hn
  go_enter Tryz.func14, Tryz.ntmps14
  go_wp2_with fail
  refine (refQuote_any A _ (by have := HA.out; omega)).mono ?_
  rintro e w1 ⟨rfl, b1⟩
  replace bO := bO.next b1
  replace hB := hB.trans (b1.mono hB.size)
  clear b1 p0 p1 p2 p3 p4
  obtain ⟨p0, p1, p2, p3, p4⟩ := bO.five
  dsimp only at p0 p1 p2 p3 p4
  have hql1 : (quoteB A).length ≤ 400002 := by have := quoteB_len A; have := HA.out; omega
  generalize quoteB A = QA at *
  go_wp2_with fail
  refine (refQuote_any B _ (by have := HBB.out; omega)).mono ?_
  rintro e w2 ⟨rfl, b2⟩
  replace bO := bO.next b2
  replace hB := hB.trans (b2.mono hB.size)
  clear b2 p0 p1 p2 p3 p4
  obtain ⟨p0, p1, p2, p3, p4⟩ := bO.five
  dsimp only at p0 p1 p2 p3 p4
  have hql2 : (quoteB B).length ≤ 400002 := by have := quoteB_len B; have := HBB.out; omega
  generalize quoteB B = QB at *
  have hn0 : ¬ ((n : Int) < 0) := by omega
  go_wp2_with fail
  refine (refDec_any n _ (by have := HNN.out; omega)).mono ?_
  rintro e w3 ⟨rfl, b3⟩
  replace bO := bO.next b3
  replace hB := hB.trans (b3.mono hB.size)
  clear b3 p0 p1 p2 p3 p4
  obtain ⟨p0, p1, p2, p3, p4⟩ := bO.five
  dsimp only at p0 p1 p2 p3 p4
  have hdl : (decB n).length ≤ 13 := decF_len 13 20 _ (by have := HNN.out; omega) (by decide)
  generalize decB n = DN at *
  go_wp2_with fail
  refine (refQuote_any D _ (by have := HD.out; omega)).mono ?_
  rintro e w4 ⟨rfl, b4⟩
  have hql4 : (quoteB D).length ≤ 400002 := by have := quoteB_len D; have := HD.out; omega
  replace hB := hB.trans (b4.mono hB.size)
  generalize quoteB D = QD at *
  go_wp2
  go_ret
  exact ⟨by rw [HM.out]; simp, hB⟩
theorem line20_5 (n : Nat) (A B D : List UInt8) : lineO ⟨5, (n : Int), A, B, D⟩ = ([108, 105, 110, 107, 32] : List UInt8) ++ quoteB A ++ [32] ++ quoteB B := by
  simp [lineO, lineW, slotK, pairK, joinQ, wordK]
set_option maxHeartbeats 4000000 in
set_option maxRecDepth 100000 in
theorem refLine5_any (n : Nat) (A B D : List UInt8) (w : World) (ha : A.length ≤ 100000) (hb : B.length ≤ 100000) (hd : D.length ≤ 100000) (hn : n ≤ 1099511627776) :
    Calls Tryz.prog 14 #[.agg (opC ⟨5, (n : Int), A, B, D⟩)] w fun e w' => e = .returned (.string ⟨(lineO ⟨5, (n : Int), A, B, D⟩).toArray⟩) ∧ Below w.heap.size w w' := by
  have HM := Lib.hid (line20_5 n A B D)
  have bO := Blk.new w 23 (opC ⟨5, (n : Int), A, B, D⟩)
  have hB : Below w.heap.size w (w.alloc (.cells (opC ⟨5, (n : Int), A, B, D⟩) 23)) := (Below.refl _ w).alloc (Nat.le_refl _) _
  obtain ⟨p0, p1, p2, p3, p4⟩ := bO.five
  dsimp only at p0 p1 p2 p3 p4
  have HD := Lib.hid hd
  have HA := Lib.hid ha
  have HBB := Lib.hid hb
  have HNN := Lib.hid hn
  clear ha hb hd hn
  go_enter Tryz.func14, Tryz.ntmps14
  go_wp2_with fail
  refine (refQuote_any A _ (by have := HA.out; omega)).mono ?_
  rintro e w1 ⟨rfl, b1⟩
  replace bO := bO.next b1
  replace hB := hB.trans (b1.mono hB.size)
  clear b1 p0 p1 p2 p3 p4
  obtain ⟨p0, p1, p2, p3, p4⟩ := bO.five
  dsimp only at p0 p1 p2 p3 p4
  have hql1 : (quoteB A).length ≤ 400002 := by have := quoteB_len A; have := HA.out; omega
  generalize quoteB A = QA at *
  go_wp2_with fail
  refine (refQuote_any B _ (by have := HBB.out; omega)).mono ?_
  rintro e w2 ⟨rfl, b2⟩
  replace bO := bO.next b2
  replace hB := hB.trans (b2.mono hB.size)
  clear b2 p0 p1 p2 p3 p4
  obtain ⟨p0, p1, p2, p3, p4⟩ := bO.five
  dsimp only at p0 p1 p2 p3 p4
  have hql2 : (quoteB B).length ≤ 400002 := by have := quoteB_len B; have := HBB.out; omega
  generalize quoteB B = QB at *
  have hn0 : ¬ ((n : Int) < 0) := by omega
  go_wp2_with fail
  refine (refDec_any n _ (by have := HNN.out; omega)).mono ?_
  rintro e w3 ⟨rfl, b3⟩
  replace bO := bO.next b3
  replace hB := hB.trans (b3.mono hB.size)
  clear b3 p0 p1 p2 p3 p4
  obtain ⟨p0, p1, p2, p3, p4⟩ := bO.five
  dsimp only at p0 p1 p2 p3 p4
  have hdl : (decB n).length ≤ 13 := decF_len 13 20 _ (by have := HNN.out; omega) (by decide)
  generalize decB n = DN at *
  go_wp2
  go_ret
  exact ⟨by rw [HM.out]; simp, hB⟩
theorem line20_6 (n : Nat) (A B D : List UInt8) : lineO ⟨6, (n : Int), A, B, D⟩ = ([109, 111, 118, 101, 32] : List UInt8) ++ quoteB A ++ [32] ++ quoteB B := by
  simp [lineO, lineW, slotK, pairK, joinQ, wordK]
set_option maxHeartbeats 4000000 in
set_option maxRecDepth 100000 in
theorem refLine6_any (n : Nat) (A B D : List UInt8) (w : World) (ha : A.length ≤ 100000) (hb : B.length ≤ 100000) (hd : D.length ≤ 100000) (hn : n ≤ 1099511627776) :
    Calls Tryz.prog 14 #[.agg (opC ⟨6, (n : Int), A, B, D⟩)] w fun e w' => e = .returned (.string ⟨(lineO ⟨6, (n : Int), A, B, D⟩).toArray⟩) ∧ Below w.heap.size w w' := by
  have HM := Lib.hid (line20_6 n A B D)
  have bO := Blk.new w 23 (opC ⟨6, (n : Int), A, B, D⟩)
  have hB : Below w.heap.size w (w.alloc (.cells (opC ⟨6, (n : Int), A, B, D⟩) 23)) := (Below.refl _ w).alloc (Nat.le_refl _) _
  obtain ⟨p0, p1, p2, p3, p4⟩ := bO.five
  dsimp only at p0 p1 p2 p3 p4
  have HD := Lib.hid hd
  have HA := Lib.hid ha
  have HBB := Lib.hid hb
  have HNN := Lib.hid hn
  clear ha hb hd hn
  go_enter Tryz.func14, Tryz.ntmps14
  go_wp2_with fail
  refine (refQuote_any A _ (by have := HA.out; omega)).mono ?_
  rintro e w1 ⟨rfl, b1⟩
  replace bO := bO.next b1
  replace hB := hB.trans (b1.mono hB.size)
  clear b1 p0 p1 p2 p3 p4
  obtain ⟨p0, p1, p2, p3, p4⟩ := bO.five
  dsimp only at p0 p1 p2 p3 p4
  have hql1 : (quoteB A).length ≤ 400002 := by have := quoteB_len A; have := HA.out; omega
  generalize quoteB A = QA at *
  go_wp2_with fail
  refine (refQuote_any B _ (by have := HBB.out; omega)).mono ?_
  rintro e w2 ⟨rfl, b2⟩
  replace bO := bO.next b2
  replace hB := hB.trans (b2.mono hB.size)
  clear b2 p0 p1 p2 p3 p4
  obtain ⟨p0, p1, p2, p3, p4⟩ := bO.five
  dsimp only at p0 p1 p2 p3 p4
  have hql2 : (quoteB B).length ≤ 400002 := by have := quoteB_len B; have := HBB.out; omega
  generalize quoteB B = QB at *
  have hn0 : ¬ ((n : Int) < 0) := by omega
  go_wp2_with fail
  refine (refDec_any n _ (by have := HNN.out; omega)).mono ?_
  rintro e w3 ⟨rfl, b3⟩
  replace bO := bO.next b3
  replace hB := hB.trans (b3.mono hB.size)
  clear b3 p0 p1 p2 p3 p4
  obtain ⟨p0, p1, p2, p3, p4⟩ := bO.five
  dsimp only at p0 p1 p2 p3 p4
  have hdl : (decB n).length ≤ 13 := decF_len 13 20 _ (by have := HNN.out; omega) (by decide)
  generalize decB n = DN at *
  go_wp2
  go_ret
  exact ⟨by rw [HM.out]; simp, hB⟩
theorem line20_7 (n : Nat) (A B D : List UInt8) : lineO ⟨7, (n : Int), A, B, D⟩ = ([115, 116, 97, 115, 104, 32] : List UInt8) ++ decB n ++ [32] ++ quoteB A := by
  simp [lineO, lineW, slotK, pairK, joinQ, wordK]
set_option maxHeartbeats 4000000 in
set_option maxRecDepth 100000 in
theorem refLine7_any (n : Nat) (A B D : List UInt8) (w : World) (ha : A.length ≤ 100000) (hb : B.length ≤ 100000) (hd : D.length ≤ 100000) (hn : n ≤ 1099511627776) :
    Calls Tryz.prog 14 #[.agg (opC ⟨7, (n : Int), A, B, D⟩)] w fun e w' => e = .returned (.string ⟨(lineO ⟨7, (n : Int), A, B, D⟩).toArray⟩) ∧ Below w.heap.size w w' := by
  have HM := Lib.hid (line20_7 n A B D)
  have bO := Blk.new w 23 (opC ⟨7, (n : Int), A, B, D⟩)
  have hB : Below w.heap.size w (w.alloc (.cells (opC ⟨7, (n : Int), A, B, D⟩) 23)) := (Below.refl _ w).alloc (Nat.le_refl _) _
  obtain ⟨p0, p1, p2, p3, p4⟩ := bO.five
  dsimp only at p0 p1 p2 p3 p4
  have HD := Lib.hid hd
  have HA := Lib.hid ha
  have HBB := Lib.hid hb
  have HNN := Lib.hid hn
  clear ha hb hd hn
  go_enter Tryz.func14, Tryz.ntmps14
  go_wp2_with fail
  refine (refQuote_any A _ (by have := HA.out; omega)).mono ?_
  rintro e w1 ⟨rfl, b1⟩
  replace bO := bO.next b1
  replace hB := hB.trans (b1.mono hB.size)
  clear b1 p0 p1 p2 p3 p4
  obtain ⟨p0, p1, p2, p3, p4⟩ := bO.five
  dsimp only at p0 p1 p2 p3 p4
  have hql1 : (quoteB A).length ≤ 400002 := by have := quoteB_len A; have := HA.out; omega
  generalize quoteB A = QA at *
  go_wp2_with fail
  refine (refQuote_any B _ (by have := HBB.out; omega)).mono ?_
  rintro e w2 ⟨rfl, b2⟩
  replace bO := bO.next b2
  replace hB := hB.trans (b2.mono hB.size)
  clear b2 p0 p1 p2 p3 p4
  obtain ⟨p0, p1, p2, p3, p4⟩ := bO.five
  dsimp only at p0 p1 p2 p3 p4
  have hql2 : (quoteB B).length ≤ 400002 := by have := quoteB_len B; have := HBB.out; omega
  generalize quoteB B = QB at *
  have hn0 : ¬ ((n : Int) < 0) := by omega
  go_wp2_with fail
  refine (refDec_any n _ (by have := HNN.out; omega)).mono ?_
  rintro e w3 ⟨rfl, b3⟩
  replace bO := bO.next b3
  replace hB := hB.trans (b3.mono hB.size)
  clear b3 p0 p1 p2 p3 p4
  obtain ⟨p0, p1, p2, p3, p4⟩ := bO.five
  dsimp only at p0 p1 p2 p3 p4
  have hdl : (decB n).length ≤ 13 := decF_len 13 20 _ (by have := HNN.out; omega) (by decide)
  generalize decB n = DN at *
  go_wp2
  go_ret
  exact ⟨by rw [HM.out]; simp, hB⟩
theorem line20_8 (n : Nat) (A B D : List UInt8) : lineO ⟨8, (n : Int), A, B, D⟩ = ([101, 114, 97, 115, 101, 32] : List UInt8) ++ quoteB A := by
  simp [lineO, lineW, slotK, pairK, joinQ, wordK]
set_option maxHeartbeats 4000000 in
set_option maxRecDepth 100000 in
theorem refLine8_any (n : Nat) (A B D : List UInt8) (w : World) (ha : A.length ≤ 100000) (hb : B.length ≤ 100000) (hd : D.length ≤ 100000) (hn : n ≤ 1099511627776) :
    Calls Tryz.prog 14 #[.agg (opC ⟨8, (n : Int), A, B, D⟩)] w fun e w' => e = .returned (.string ⟨(lineO ⟨8, (n : Int), A, B, D⟩).toArray⟩) ∧ Below w.heap.size w w' := by
  have HM := Lib.hid (line20_8 n A B D)
  have bO := Blk.new w 23 (opC ⟨8, (n : Int), A, B, D⟩)
  have hB : Below w.heap.size w (w.alloc (.cells (opC ⟨8, (n : Int), A, B, D⟩) 23)) := (Below.refl _ w).alloc (Nat.le_refl _) _
  obtain ⟨p0, p1, p2, p3, p4⟩ := bO.five
  dsimp only at p0 p1 p2 p3 p4
  have HD := Lib.hid hd
  have HA := Lib.hid ha
  have HBB := Lib.hid hb
  have HNN := Lib.hid hn
  clear ha hb hd hn
  go_enter Tryz.func14, Tryz.ntmps14
  go_wp2_with fail
  refine (refQuote_any A _ (by have := HA.out; omega)).mono ?_
  rintro e w1 ⟨rfl, b1⟩
  replace bO := bO.next b1
  replace hB := hB.trans (b1.mono hB.size)
  clear b1 p0 p1 p2 p3 p4
  obtain ⟨p0, p1, p2, p3, p4⟩ := bO.five
  dsimp only at p0 p1 p2 p3 p4
  have hql1 : (quoteB A).length ≤ 400002 := by have := quoteB_len A; have := HA.out; omega
  generalize quoteB A = QA at *
  go_wp2_with fail
  refine (refQuote_any B _ (by have := HBB.out; omega)).mono ?_
  rintro e w2 ⟨rfl, b2⟩
  replace bO := bO.next b2
  replace hB := hB.trans (b2.mono hB.size)
  clear b2 p0 p1 p2 p3 p4
  obtain ⟨p0, p1, p2, p3, p4⟩ := bO.five
  dsimp only at p0 p1 p2 p3 p4
  have hql2 : (quoteB B).length ≤ 400002 := by have := quoteB_len B; have := HBB.out; omega
  generalize quoteB B = QB at *
  have hn0 : ¬ ((n : Int) < 0) := by omega
  go_wp2_with fail
  refine (refDec_any n _ (by have := HNN.out; omega)).mono ?_
  rintro e w3 ⟨rfl, b3⟩
  replace bO := bO.next b3
  replace hB := hB.trans (b3.mono hB.size)
  clear b3 p0 p1 p2 p3 p4
  obtain ⟨p0, p1, p2, p3, p4⟩ := bO.five
  dsimp only at p0 p1 p2 p3 p4
  have hdl : (decB n).length ≤ 13 := decF_len 13 20 _ (by have := HNN.out; omega) (by decide)
  generalize decB n = DN at *
  go_wp2
  go_ret
  exact ⟨by rw [HM.out]; simp, hB⟩
theorem line20_9 (n : Nat) (A B D : List UInt8) : lineO ⟨9, (n : Int), A, B, D⟩ = ([114, 101, 116, 117, 114, 110, 32] : List UInt8) ++ decB n ++ [32] ++ quoteB A := by
  simp [lineO, lineW, slotK, pairK, joinQ, wordK]
set_option maxHeartbeats 4000000 in
set_option maxRecDepth 100000 in
theorem refLine9_any (n : Nat) (A B D : List UInt8) (w : World) (ha : A.length ≤ 100000) (hb : B.length ≤ 100000) (hd : D.length ≤ 100000) (hn : n ≤ 1099511627776) :
    Calls Tryz.prog 14 #[.agg (opC ⟨9, (n : Int), A, B, D⟩)] w fun e w' => e = .returned (.string ⟨(lineO ⟨9, (n : Int), A, B, D⟩).toArray⟩) ∧ Below w.heap.size w w' := by
  have HM := Lib.hid (line20_9 n A B D)
  have bO := Blk.new w 23 (opC ⟨9, (n : Int), A, B, D⟩)
  have hB : Below w.heap.size w (w.alloc (.cells (opC ⟨9, (n : Int), A, B, D⟩) 23)) := (Below.refl _ w).alloc (Nat.le_refl _) _
  obtain ⟨p0, p1, p2, p3, p4⟩ := bO.five
  dsimp only at p0 p1 p2 p3 p4
  have HD := Lib.hid hd
  have HA := Lib.hid ha
  have HBB := Lib.hid hb
  have HNN := Lib.hid hn
  clear ha hb hd hn
  go_enter Tryz.func14, Tryz.ntmps14
  go_wp2_with fail
  refine (refQuote_any A _ (by have := HA.out; omega)).mono ?_
  rintro e w1 ⟨rfl, b1⟩
  replace bO := bO.next b1
  replace hB := hB.trans (b1.mono hB.size)
  clear b1 p0 p1 p2 p3 p4
  obtain ⟨p0, p1, p2, p3, p4⟩ := bO.five
  dsimp only at p0 p1 p2 p3 p4
  have hql1 : (quoteB A).length ≤ 400002 := by have := quoteB_len A; have := HA.out; omega
  generalize quoteB A = QA at *
  go_wp2_with fail
  refine (refQuote_any B _ (by have := HBB.out; omega)).mono ?_
  rintro e w2 ⟨rfl, b2⟩
  replace bO := bO.next b2
  replace hB := hB.trans (b2.mono hB.size)
  clear b2 p0 p1 p2 p3 p4
  obtain ⟨p0, p1, p2, p3, p4⟩ := bO.five
  dsimp only at p0 p1 p2 p3 p4
  have hql2 : (quoteB B).length ≤ 400002 := by have := quoteB_len B; have := HBB.out; omega
  generalize quoteB B = QB at *
  have hn0 : ¬ ((n : Int) < 0) := by omega
  go_wp2_with fail
  refine (refDec_any n _ (by have := HNN.out; omega)).mono ?_
  rintro e w3 ⟨rfl, b3⟩
  replace bO := bO.next b3
  replace hB := hB.trans (b3.mono hB.size)
  clear b3 p0 p1 p2 p3 p4
  obtain ⟨p0, p1, p2, p3, p4⟩ := bO.five
  dsimp only at p0 p1 p2 p3 p4
  have hdl : (decB n).length ≤ 13 := decF_len 13 20 _ (by have := HNN.out; omega) (by decide)
  generalize decB n = DN at *
  go_wp2
  go_ret
  exact ⟨by rw [HM.out]; simp, hB⟩
theorem line20_10 (n : Nat) (A B D : List UInt8) : lineO ⟨10, (n : Int), A, B, D⟩ = ([114, 101, 115, 116, 111, 114, 101, 32] : List UInt8) ++ decB n ++ [32] ++ quoteB A := by
  simp [lineO, lineW, slotK, pairK, joinQ, wordK]
set_option maxHeartbeats 4000000 in
set_option maxRecDepth 100000 in
theorem refLine10_any (n : Nat) (A B D : List UInt8) (w : World) (ha : A.length ≤ 100000) (hb : B.length ≤ 100000) (hd : D.length ≤ 100000) (hn : n ≤ 1099511627776) :
    Calls Tryz.prog 14 #[.agg (opC ⟨10, (n : Int), A, B, D⟩)] w fun e w' => e = .returned (.string ⟨(lineO ⟨10, (n : Int), A, B, D⟩).toArray⟩) ∧ Below w.heap.size w w' := by
  have HM := Lib.hid (line20_10 n A B D)
  have bO := Blk.new w 23 (opC ⟨10, (n : Int), A, B, D⟩)
  have hB : Below w.heap.size w (w.alloc (.cells (opC ⟨10, (n : Int), A, B, D⟩) 23)) := (Below.refl _ w).alloc (Nat.le_refl _) _
  obtain ⟨p0, p1, p2, p3, p4⟩ := bO.five
  dsimp only at p0 p1 p2 p3 p4
  have HD := Lib.hid hd
  have HA := Lib.hid ha
  have HBB := Lib.hid hb
  have HNN := Lib.hid hn
  clear ha hb hd hn
  go_enter Tryz.func14, Tryz.ntmps14
  go_wp2_with fail
  refine (refQuote_any A _ (by have := HA.out; omega)).mono ?_
  rintro e w1 ⟨rfl, b1⟩
  replace bO := bO.next b1
  replace hB := hB.trans (b1.mono hB.size)
  clear b1 p0 p1 p2 p3 p4
  obtain ⟨p0, p1, p2, p3, p4⟩ := bO.five
  dsimp only at p0 p1 p2 p3 p4
  have hql1 : (quoteB A).length ≤ 400002 := by have := quoteB_len A; have := HA.out; omega
  generalize quoteB A = QA at *
  go_wp2_with fail
  refine (refQuote_any B _ (by have := HBB.out; omega)).mono ?_
  rintro e w2 ⟨rfl, b2⟩
  replace bO := bO.next b2
  replace hB := hB.trans (b2.mono hB.size)
  clear b2 p0 p1 p2 p3 p4
  obtain ⟨p0, p1, p2, p3, p4⟩ := bO.five
  dsimp only at p0 p1 p2 p3 p4
  have hql2 : (quoteB B).length ≤ 400002 := by have := quoteB_len B; have := HBB.out; omega
  generalize quoteB B = QB at *
  have hn0 : ¬ ((n : Int) < 0) := by omega
  go_wp2_with fail
  refine (refDec_any n _ (by have := HNN.out; omega)).mono ?_
  rintro e w3 ⟨rfl, b3⟩
  replace bO := bO.next b3
  replace hB := hB.trans (b3.mono hB.size)
  clear b3 p0 p1 p2 p3 p4
  obtain ⟨p0, p1, p2, p3, p4⟩ := bO.five
  dsimp only at p0 p1 p2 p3 p4
  have hdl : (decB n).length ≤ 13 := decF_len 13 20 _ (by have := HNN.out; omega) (by decide)
  generalize decB n = DN at *
  go_wp2
  go_ret
  exact ⟨by rw [HM.out]; simp, hB⟩
set_option maxHeartbeats 4000000 in
set_option maxRecDepth 100000 in
theorem refLine0_any (k : Int) (n : Nat) (A B D : List UInt8) (w : World) (ha : A.length ≤ 100000) (hb : B.length ≤ 100000) (hd : D.length ≤ 100000) (hn : n ≤ 1099511627776) (hk : ¬ (1 ≤ k ∧ k ≤ 10)) :
    Calls Tryz.prog 14 #[.agg (opC ⟨k, (n : Int), A, B, D⟩)] w fun e w' => e = .returned (.string ⟨(lineO ⟨k, (n : Int), A, B, D⟩).toArray⟩) ∧ Below w.heap.size w w' := by
  have HM : Hid (lineO ⟨k, (n : Int), A, B, D⟩ = []) := Lib.hid (by unfold lineO; rw [if_neg hk])
  have hne : ∀ j : Int, 1 ≤ j → j ≤ 10 → (k == j) = false := fun j h1 h2 => by rw [beq_eq_false_iff_ne]; intro e; exact hk ⟨by omega, by omega⟩
  have k1 := hne 1 (by decide) (by decide)
  have k2 := hne 2 (by decide) (by decide)
  have k3 := hne 3 (by decide) (by decide)
  have k4 := hne 4 (by decide) (by decide)
  have k5 := hne 5 (by decide) (by decide)
  have k6 := hne 6 (by decide) (by decide)
  have k7 := hne 7 (by decide) (by decide)
  have k8 := hne 8 (by decide) (by decide)
  have k9 := hne 9 (by decide) (by decide)
  have k10 := hne 10 (by decide) (by decide)
  clear hne hk
  have bO := Blk.new w 23 (opC ⟨k, (n : Int), A, B, D⟩)
  have hB : Below w.heap.size w (w.alloc (.cells (opC ⟨k, (n : Int), A, B, D⟩) 23)) := (Below.refl _ w).alloc (Nat.le_refl _) _
  obtain ⟨p0, p1, p2, p3, p4⟩ := bO.five
  dsimp only at p0 p1 p2 p3 p4
  have HD := Lib.hid hd
  have HA := Lib.hid ha
  have HBB := Lib.hid hb
  have HNN := Lib.hid hn
  clear ha hb hd hn
  go_enter Tryz.func14, Tryz.ntmps14
  go_wp2_with fail
  refine (refQuote_any A _ (by have := HA.out; omega)).mono ?_
  rintro e w1 ⟨rfl, b1⟩
  replace bO := bO.next b1
  replace hB := hB.trans (b1.mono hB.size)
  clear b1 p0 p1 p2 p3 p4
  obtain ⟨p0, p1, p2, p3, p4⟩ := bO.five
  dsimp only at p0 p1 p2 p3 p4
  have hql1 : (quoteB A).length ≤ 400002 := by have := quoteB_len A; have := HA.out; omega
  generalize quoteB A = QA at *
  go_wp2_with fail
  refine (refQuote_any B _ (by have := HBB.out; omega)).mono ?_
  rintro e w2 ⟨rfl, b2⟩
  replace bO := bO.next b2
  replace hB := hB.trans (b2.mono hB.size)
  clear b2 p0 p1 p2 p3 p4
  obtain ⟨p0, p1, p2, p3, p4⟩ := bO.five
  dsimp only at p0 p1 p2 p3 p4
  have hql2 : (quoteB B).length ≤ 400002 := by have := quoteB_len B; have := HBB.out; omega
  generalize quoteB B = QB at *
  have hn0 : ¬ ((n : Int) < 0) := by omega
  go_wp2_with fail
  refine (refDec_any n _ (by have := HNN.out; omega)).mono ?_
  rintro e w3 ⟨rfl, b3⟩
  replace bO := bO.next b3
  replace hB := hB.trans (b3.mono hB.size)
  clear b3 p0 p1 p2 p3 p4
  obtain ⟨p0, p1, p2, p3, p4⟩ := bO.five
  dsimp only at p0 p1 p2 p3 p4
  have hdl : (decB n).length ≤ 13 := decF_len 13 20 _ (by have := HNN.out; omega) (by decide)
  generalize decB n = DN at *
  go_wp2
  go_ret
  exact ⟨by rw [HM.out]; rfl, hB⟩
theorem refLine_any (o : OpV) (w : World) (ha : o.a.length ≤ 100000) (hb : o.b.length ≤ 100000) (hd : o.data.length ≤ 100000) (hn0 : 0 ≤ o.slot) (hn : o.slot ≤ 1099511627776) :
    Calls Tryz.prog 14 #[.agg (opC o)] w fun e w' => e = .returned (.string ⟨(lineO o).toArray⟩) ∧ Below w.heap.size w w' := by
  obtain ⟨k, z, A, B, D⟩ := o
  dsimp only at ha hb hd hn0 hn
  obtain ⟨n, rfl⟩ : ∃ n : Nat, z = n := ⟨z.toNat, by omega⟩
  replace hn : n ≤ 1099511627776 := by omega
  by_cases hk : 1 ≤ k ∧ k ≤ 10
  · rcases word_cases hk.1 hk.2 with rfl | rfl | rfl | rfl | rfl | rfl | rfl | rfl | rfl | rfl
    · exact refLine1_any n A B D w ha hb hd hn
    · exact refLine2_any n A B D w ha hb hd hn
    · exact refLine3_any n A B D w ha hb hd hn
    · exact refLine4_any n A B D w ha hb hd hn
    · exact refLine5_any n A B D w ha hb hd hn
    · exact refLine6_any n A B D w ha hb hd hn
    · exact refLine7_any n A B D w ha hb hd hn
    · exact refLine8_any n A B D w ha hb hd hn
    · exact refLine9_any n A B D w ha hb hd hn
    · exact refLine10_any n A B D w ha hb hd hn
  · exact refLine0_any k n A B D w ha hb hd hn hk
end Go.Proofs.YtolbhjjcabiabaaGreatDoor

/- Walks: the document's own Split. -/
set_option linter.unusedVariables false
set_option linter.unusedSimpArgs false
namespace Go.Proofs.YtolbhjjcabiabaaGreatDoor
open Go.RowKit

theorem rcut_keep {l pc : List UInt8} {ws : List (List UInt8)} {i : Nat} {ins : Bool} (h : i < l.length) (hc : ¬ (l[i] = 32 ∧ ins = false)) (hX : cutF false l = ws ++ consHead pc (cutF ins (l.drop i))) :
    cutF false l = ws ++ consHead (pc ++ [l[i]]) (cutF (if l[i] = 34 then !ins else ins) (l.drop (i + 1))) := by
  rw [hX, consHead_append, List.drop_eq_getElem_cons h, cutF, if_neg hc]
theorem rcut_at {l pc : List UInt8} {ws : List (List UInt8)} {i : Nat} (h : i < l.length) (hc : l[i] = 32) (hX : cutF false l = ws ++ consHead pc (cutF false (l.drop i))) :
    cutF false l = ws ++ pc :: cutF false (l.drop (i + 1)) := by
  rw [hX, List.drop_eq_getElem_cons h, cutF, if_pos ⟨hc, rfl⟩]; simp [consHead]
theorem rcut_end {l pc : List UInt8} {ws : List (List UInt8)} {ins : Bool} (hX : cutF false l = ws ++ consHead pc (cutF ins (l.drop l.length))) : cutF false l = ws ++ [pc] := by
  rw [hX, List.drop_length]; simp [cutF, consHead]
theorem take1_drop (l : List UInt8) (i : Nat) (h : i < l.length) : (l.drop i).take 1 = [l[i]] := by rw [List.drop_eq_getElem_cons h]; rfl
def RSplit (l : List UInt8) (ws : List (List UInt8)) (pc : List UInt8) (ins : Bool) (i : Nat) : Prop :=
  (i ≤ l.length → cutF false l = ws ++ consHead pc (cutF ins (l.drop i))) ∧ (i = l.length + 1 → cutF false l = ws) ∧ ∀ x ∈ ws, wordB x = true

set_option maxRecDepth 100000 in
set_option maxHeartbeats 2000000 in
theorem refSplit_any (l : List UInt8) (w : World) (hl : l.length ≤ 100000) : Calls Tryz.prog 24 #[.string ⟨l.toArray⟩] w (StrsPost w (splitB l)) := by
  by_cases hn : l = []
  · subst hn
    go_enter Tryz.func24, Tryz.ntmps24
    go_wp2
    go_ret2
    exact ⟨_, rfl, World.ownsRow_nil _ _ _ _, Below.refl _ _⟩
  · obtain ⟨is, hsi, hs0, hs1, hs2⟩ := info_parts Tryz.infoSQ
    have hne : l.isEmpty = false := by simpa using hn
    go_enter Tryz.func24, Tryz.ntmps24
    go_wp2
    go_loopg [4, 5, 6, 7] (l.length + 1) (fun g s4 s5 s6 s7 wr => ∃ (ws : List (List UInt8)) (pc : List UInt8) (ins : Bool) (i : Nat), s5 = .string ⟨pc.toArray⟩ ∧ s6 = .bool ins ∧ s7 = .int .i64 i ∧ i + g = l.length + 1 ∧ ws.length + pc.length ≤ i ∧ wr.ownsRow w.heap.size 9 1 s4 ws.length (strsV ws) ∧ Aside (RSplit l ws pc ins i) ∧ Below w.heap.size w wr)
    case atStart => exact ⟨[], [], false, 0, rfl, rfl, rfl, by omega, by simp, World.ownsRow_nil _ _ _ _, ⟨fun _ => by simp [consHead_nil _ (cutF_ne _ _)], fun h => absurd h (by omega), by simp⟩, Below.refl _ _⟩
    case round =>
      obtain ⟨ws, pc, ins, i, rfl, rfl, rfl, hig, hlen, hown, HR, hb⟩ := hrel
      by_cases hle : i ≤ l.length
      · obtain ⟨G, rfl⟩ : ∃ G, gk = G + 1 := ⟨gk - 1, by omega⟩
        by_cases hlt : i < l.length
        · have hne1 : ((i : Int) == (l.length : Int)) = false := by simp; omega
          cases h34 : ((l[i].toNat : Int) == 34)
          · have k34 : ¬ l[i] = 34 := by intro e; rw [e] at h34; exact absurd h34 (by decide)
            cases h32 : ((l[i].toNat : Int) == 32)
            · have k32 : ¬ l[i] = 32 := by intro e; rw [e] at h32; exact absurd h32 (by decide)
              have HK := Lib.hid (rcut_keep hlt (fun h => k32 h.1) (HR.out.1 hle))
              go_wp2
              go_roundg G
              case measure => omega
              case rel => exact ⟨ws, pc ++ [l[i]], ins, i + 1, by simp [take1_drop l i hlt], rfl, by go_num, by omega, by simp; omega, hown, ⟨fun _ => by (have := HK.out; rw [if_neg k34] at this; exact this), fun h => absurd h (by omega), HR.out.2.2⟩, hb⟩
            · have k32 : l[i] = 32 := UInt8.toNat_inj.1 (by simp at h32; simp; omega)
              cases ins
              · have HK := Lib.hid (rcut_at hlt k32 (HR.out.1 hle))
                have hH := HR.out.2.2
                have HW0 := Lib.hid hH
                clear hH k32 k34
                go_wp2_with fail
                refine (refUnquote_any pc _ (by omega)).mono ?_
                rintro e w2 ⟨rfl, hB⟩
                have hb2 := hb.trans (hB.mono hb.size)
                have hown2 := own_keep hown hB
                clear hB hown hb
                unfold unqV
                cases hu : (unquoteB pc).isSome
                · go_wp2_with fail
                  refine (refPlainQ_any pc _ (by omega)).mono ?_
                  rintro e w3 ⟨rfl, rfl⟩
                  cases hp : plainQ pc
                  · have HS := Lib.hid (split_no hn HK.out (show wordB pc = false by simp [wordB, hu, hp]))
                    clear HK hown2 HR
                    go_wp2
                    go_ret2
                    exact StrsPost.none_ HS.out rfl hb2
                  · have HW := Lib.hid (show wordB pc = true by simp [wordB, hp])
                    go_wp2_with (at_builtin; refine wpList_append_new rfl (.tmp 44) (.tmp 46) 49 9 rfl Tryz.underlying49 hsi hs0 hs1 hs2 rfl (by decide) (by decide) w.heap.size _ 1 rfl rfl hown2 rfl (by simp [Value.oneCell']) (by omega) hb2.size ?_; intro v4 w4 hown4 hb4)
                    go_roundg G
                    case measure => omega
                    case rel =>
                      exact ⟨ws ++ [pc], [], false, i + 1, rfl, rfl, by go_num, by omega, by simp; omega, by simpa [strsV] using hown4, ⟨fun _ => by rw [HK.out]; simp [consHead_nil _ (cutF_ne _ _)], fun h => absurd h (by omega), fun x hx => by
                        rcases List.mem_append.1 hx with h | h
                        · exact HW0.out x h
                        · rw [List.mem_singleton.1 h]; exact HW.out⟩, hb2.trans hb4⟩
                · have HW := Lib.hid (show wordB pc = true by simp [wordB, hu])
                  go_wp2_with (at_builtin; refine wpList_append_new rfl (.tmp 44) (.tmp 46) 49 9 rfl Tryz.underlying49 hsi hs0 hs1 hs2 rfl (by decide) (by decide) w.heap.size _ 1 rfl rfl hown2 rfl (by simp [Value.oneCell']) (by omega) hb2.size ?_; intro v4 w4 hown4 hb4)
                  go_roundg G
                  case measure => omega
                  case rel =>
                    exact ⟨ws ++ [pc], [], false, i + 1, rfl, rfl, by go_num, by omega, by simp; omega, by simpa [strsV] using hown4, ⟨fun _ => by rw [HK.out]; simp [consHead_nil _ (cutF_ne _ _)], fun h => absurd h (by omega), fun x hx => by
                      rcases List.mem_append.1 hx with h | h
                      · exact HW0.out x h
                      · rw [List.mem_singleton.1 h]; exact HW.out⟩, hb2.trans hb4⟩
              · have HK := Lib.hid (rcut_keep hlt (by simp) (HR.out.1 hle))
                go_wp2
                go_roundg G
                case measure => omega
                case rel => exact ⟨ws, pc ++ [l[i]], true, i + 1, by simp [take1_drop l i hlt], rfl, by go_num, by omega, by simp; omega, hown, ⟨fun _ => by (have := HK.out; rw [if_neg k34] at this; exact this), fun h => absurd h (by omega), HR.out.2.2⟩, hb⟩
          · have h32 : ((l[i].toNat : Int) == 32) = false := by simp at h34 ⊢; omega
            have k34 : l[i] = 34 := UInt8.toNat_inj.1 (by simp at h34; simp; omega)
            have HK := Lib.hid (rcut_keep hlt (fun h => by rw [k34] at h; exact absurd h.1 (by decide)) (HR.out.1 hle))
            have K34 := Lib.hid k34
            clear k34
            go_wp2
            go_roundg G
            case measure => omega
            case rel => exact ⟨ws, pc ++ [l[i]], !ins, i + 1, by simp [take1_drop l i hlt], rfl, by go_num, by omega, by simp; omega, hown, ⟨fun _ => by (have := HK.out; rw [if_pos K34.out] at this; exact this), fun h => absurd h (by omega), HR.out.2.2⟩, hb⟩
        · obtain rfl : i = l.length := by omega
          have HK := Lib.hid (rcut_end (HR.out.1 hle))
          have hH := HR.out.2.2
          have HW0 := Lib.hid hH
          clear hH
          go_wp2_with fail
          refine (refUnquote_any pc _ (by omega)).mono ?_
          rintro e w2 ⟨rfl, hB⟩
          have hb2 := hb.trans (hB.mono hb.size)
          have hown2 := own_keep hown hB
          clear hB hown hb
          unfold unqV
          cases hu : (unquoteB pc).isSome
          · go_wp2_with fail
            refine (refPlainQ_any pc _ (by omega)).mono ?_
            rintro e w3 ⟨rfl, rfl⟩
            cases hp : plainQ pc
            · have HS := Lib.hid (split_no (t := []) hn HK.out (show wordB pc = false by simp [wordB, hu, hp]))
              clear HK hown2 HR
              go_wp2
              go_ret2
              exact StrsPost.none_ HS.out rfl hb2
            · have HW := Lib.hid (show wordB pc = true by simp [wordB, hp])
              go_wp2_with (at_builtin; refine wpList_append_new rfl (.tmp 44) (.tmp 46) 49 9 rfl Tryz.underlying49 hsi hs0 hs1 hs2 rfl (by decide) (by decide) w.heap.size _ 1 rfl rfl hown2 rfl (by simp [Value.oneCell']) (by omega) hb2.size ?_; intro v4 w4 hown4 hb4)
              go_roundg G
              case measure => omega
              case rel =>
                exact ⟨ws ++ [pc], [], ins, l.length + 1, rfl, rfl, by go_num, by omega, by simp; omega, by simpa [strsV] using hown4, ⟨fun h => absurd h (by omega), fun _ => HK.out, fun x hx => by
                  rcases List.mem_append.1 hx with h | h
                  · exact HW0.out x h
                  · rw [List.mem_singleton.1 h]; exact HW.out⟩, hb2.trans hb4⟩
          · have HW := Lib.hid (show wordB pc = true by simp [wordB, hu])
            go_wp2_with (at_builtin; refine wpList_append_new rfl (.tmp 44) (.tmp 46) 49 9 rfl Tryz.underlying49 hsi hs0 hs1 hs2 rfl (by decide) (by decide) w.heap.size _ 1 rfl rfl hown2 rfl (by simp [Value.oneCell']) (by omega) hb2.size ?_; intro v4 w4 hown4 hb4)
            go_roundg G
            case measure => omega
            case rel =>
              exact ⟨ws ++ [pc], [], ins, l.length + 1, rfl, rfl, by go_num, by omega, by simp; omega, by simpa [strsV] using hown4, ⟨fun h => absurd h (by omega), fun _ => HK.out, fun x hx => by
                rcases List.mem_append.1 hx with h | h
                · exact HW0.out x h
                · rw [List.mem_singleton.1 h]; exact HW.out⟩, hb2.trans hb4⟩
      · obtain rfl : i = l.length + 1 := by omega
        have HS := Lib.hid (split_yes hn (HR.out.2.1 rfl) HR.out.2.2)
        go_wp2
        go_ret2
        exact ⟨_, by rw [HS.out]; rfl, by rw [HS.out]; exact hown, hb⟩
end Go.Proofs.YtolbhjjcabiabaaGreatDoor

/- A drawn region's operations, taken one by one: its destination given outright; one that no guard wants is passed over. -/
set_option linter.unusedVariables false
set_option linter.unusedSimpArgs false
namespace Go.Proofs.YtolbhjjcabiabaaGreatDoor

section
variable {P : Program} {ops : Array Oper} {Q : Exit → Act → World → Prop} {md : Region.Mode} {S : World → Prop}
theorem heldTake (i : Nat) (d : Option Tmp) {oi : Oper} {v : Value} {fuel : Nat} {listed : Array Bool} {a : Act} {w : World} (hi : ops[i]? = some oi) (hd : oi.dst = d)
    (hs : Region.noSelect ops = true) (hf : Region.free md ops listed i = true) (hr : (Region.ready md ops listed).contains i = true)
    (hQ : ∀ c a w, Q (.panic c) (a.put d v) w → Q (.panic c) a w) (hw : Region.wanted oi (yielded ops a.tmps) = true) (hv : ∀ w, S w → (execOp a.eval oi).run P w = .ok (.value v) w) (hS : S w)
    (h : wpAnyH P md ops Q S fuel (listed.setIfInBounds i true) (a.put d v) w) : wpAnyH P md ops Q S (fuel + 1) listed a w := by
  subst hd
  exact wpAnyH_take hi hs hf hr hQ (.inl ⟨hw, hv⟩) hS h
theorem heldSkip (i : Nat) (d : Option Tmp) {oi : Oper} {fuel : Nat} {listed : Array Bool} {a : Act} {w : World} (hi : ops[i]? = some oi) (hd : oi.dst = d)
    (hs : Region.noSelect ops = true) (hf : Region.free md ops listed i = true) (hr : (Region.ready md ops listed).contains i = true)
    (hQ : ∀ c a w, Q (.panic c) (a.put d undef) w → Q (.panic c) a w) (hw : Region.wanted oi (yielded ops a.tmps) = false) (hS : S w)
    (h : wpAnyH P md ops Q S fuel (listed.setIfInBounds i true) (a.put d undef) w) : wpAnyH P md ops Q S (fuel + 1) listed a w := by
  subst hd
  exact wpAnyH_take hi hs hf hr hQ (.inr ⟨hw, rfl⟩) hS h
end
end Go.Proofs.YtolbhjjcabiabaaGreatDoor

/- Slots that rise; plans and undo plans told by their operations and their slots. No program's function. -/
set_option linter.unusedVariables false
set_option linter.unusedSimpArgs false
namespace Go.Proofs.YtolbhjjcabiabaaGreatDoor
open Go.Lib

def riseL (a : Int) : List Int → Bool
  | [] => true
  | x :: t => decide (a < x) && riseL x t
def fallL (a : Int) : List Int → Bool
  | [] => true
  | x :: t => decide (x < a) && fallL x t
/-- Each is greater than the one ahead of it. -/
def adjB : List Int → Bool
  | [] => true
  | x :: t => riseL x t
theorem riseL_iff (L : List Int) : ∀ a, riseL a L = true ↔ ∀ j, j < L.length → (a :: L).getD j 0 < L.getD j 0 := by
  induction L with
  | nil => intro a; simp [riseL]
  | cons x t ih =>
    intro a
    rw [riseL, Bool.and_eq_true, decide_eq_true_eq, ih x]
    constructor
    · rintro ⟨h1, h2⟩ j hj
      cases j with
      | zero => exact h1
      | succ j => exact h2 j (by simp at hj; omega)
    · intro h
      exact ⟨h 0 (by simp), fun j hj => h (j + 1) (by simp; omega)⟩
theorem fallL_iff (L : List Int) : ∀ a, fallL a L = true ↔ ∀ j, j < L.length → L.getD j 0 < (a :: L).getD j 0 := by
  induction L with
  | nil => intro a; simp [fallL]
  | cons x t ih =>
    intro a
    rw [fallL, Bool.and_eq_true, decide_eq_true_eq, ih x]
    constructor
    · rintro ⟨h1, h2⟩ j hj
      cases j with
      | zero => exact h1
      | succ j => exact h2 j (by simp at hj; omega)
    · intro h
      exact ⟨h 0 (by simp), fun j hj => h (j + 1) (by simp; omega)⟩
theorem adjB_iff (L : List Int) : adjB L = true ↔ ∀ j, j + 1 < L.length → L.getD j 0 < L.getD (j + 1) 0 := by
  cases L with
  | nil => simp [adjB]
  | cons x t =>
    rw [adjB, riseL_iff]
    exact ⟨fun h j hj => h j (by simp at hj; omega), fun h j hj => h j (by simp; omega)⟩
theorem adjB_rev (L : List Int) : adjB L.reverse = true ↔ ∀ j, j + 1 < L.length → L.getD (j + 1) 0 < L.getD j 0 := by
  rw [adjB_iff, List.length_reverse]
  constructor
  · intro h j hj
    have := h (L.length - 2 - j) (by omega)
    rw [List.getD_eq_getElem?_getD, List.getD_eq_getElem?_getD, List.getElem?_reverse (by omega), List.getElem?_reverse (by omega)] at this
    rw [List.getD_eq_getElem?_getD, List.getD_eq_getElem?_getD]
    rw [show L.length - 1 - (L.length - 2 - j) = j + 1 by omega, show L.length - 1 - (L.length - 2 - j + 1) = j by omega] at this
    exact this
  · intro h j hj
    rw [List.getD_eq_getElem?_getD, List.getD_eq_getElem?_getD, List.getElem?_reverse (by omega), List.getElem?_reverse (by omega)]
    have := h (L.length - 1 - (j + 1)) (by omega)
    rw [List.getD_eq_getElem?_getD, List.getD_eq_getElem?_getD, show L.length - 1 - (j + 1) + 1 = L.length - 1 - j by omega] at this
    exact this
/-- None is less than the one ahead of it. -/
def sortB19 (L : List Int) : Bool := (List.range (L.length - 1)).all fun j => decide (L.getD j 0 ≤ L.getD (j + 1) 0)
theorem sortB19_iff (L : List Int) : sortB19 L = true ↔ ∀ j, j + 1 < L.length → L.getD j 0 ≤ L.getD (j + 1) 0 := by
  unfold sortB19
  rw [List.all_eq_true]
  constructor
  · intro h j hj; simpa using h j (List.mem_range.2 (by omega))
  · intro h j hj; simpa using h j (by have := List.mem_range.1 hj; omega)
theorem keeps_list19 (L : List Int) (j : Nat) (h : j + 1 < L.length) : keeps L.toArray (j + 1) = true ↔ L.getD (j + 1) 0 ≠ L.getD j 0 := by
  unfold keeps
  have e1 : (L.toArray)[j + 1]! = L.getD (j + 1) 0 := by
    rw [getElem!_pos L.toArray (j + 1) (by simpa using h), List.getD_eq_getElem?_getD, List.getElem?_eq_getElem h]; simp
  have e2 : (L.toArray)[j + 1 - 1]! = L.getD j 0 := by
    rw [Nat.add_sub_cancel, getElem!_pos L.toArray j (by simp; omega), List.getD_eq_getElem?_getD, List.getElem?_eq_getElem (show j < L.length by omega)]; simp
  rw [e1, e2]
  simp
theorem compact_len19 (L : List Int) : (compact L).length = L.length ↔ ∀ j, j + 1 < L.length → L.getD (j + 1) 0 ≠ L.getD j 0 := by
  constructor
  · intro h j hj
    unfold compact compactUpTo at h
    rw [List.length_map] at h
    have h2 : ((List.range L.length).filter (keeps L.toArray)).length = (List.range L.length).length := by rw [h, List.length_range]
    rw [List.length_filter_eq_length_iff] at h2
    exact (keeps_list19 L j hj).1 (h2 (j + 1) (List.mem_range.2 hj))
  · intro h
    rw [compact_all L (fun j hj => ?_)]
    cases j with
    | zero => exact keeps_lt_one _ 0 (by omega)
    | succ j => exact (keeps_list19 L j hj).2 (h j hj)
theorem rise_yes19 {L : List Int} (hs : sortB19 L = true) : adjB L = decide ((compact L).length = L.length) := by
  rw [sortB19_iff] at hs
  rw [Bool.eq_iff_iff, decide_eq_true_eq, adjB_iff, compact_len19]
  exact ⟨fun h j hj => by have := h j hj; omega, fun h j hj => by have := h j hj; have := hs j hj; omega⟩
theorem rise_no19 {L : List Int} (hs : sortB19 L = false) : adjB L = false := by
  rw [Bool.eq_false_iff]
  intro h
  rw [adjB_iff] at h
  have : sortB19 L = true := (sortB19_iff L).2 fun j hj => by have := h j hj; omega
  rw [this] at hs
  cases hs

theorem plan_parts19 (l : List OpV) : ∀ last, planB last l = ((l.all fun o => mayO o && decide (o.kind ≤ 7)) && riseL last (slotsO l)) := by
  induction l with
  | nil => intro _; rfl
  | cons o t ih =>
    intro last
    rw [planB, slotsO, List.all_cons]
    by_cases hs : slotK o.kind = true
    · rw [if_pos hs, if_pos hs, ih, List.singleton_append, riseL]
      generalize (mayO o && decide (o.kind ≤ 7)) = a
      generalize (t.all fun o => mayO o && decide (o.kind ≤ 7)) = b
      cases a <;> cases b <;> simp
    · rw [if_neg hs, if_neg hs, ih, List.nil_append]
      simp only [Bool.and_assoc]
theorem undo_parts19 (l : List OpV) : ∀ last, undoB last l = ((l.all fun o => mayO o && (decide (6 ≤ o.kind) && !(o.kind == 7))) && fallL last (slotsO l)) := by
  induction l with
  | nil => intro _; rfl
  | cons o t ih =>
    intro last
    rw [undoB, slotsO, List.all_cons]
    by_cases hs : slotK o.kind = true
    · rw [if_pos hs, if_pos hs, ih, List.singleton_append, fallL]
      generalize (mayO o && (decide (6 ≤ o.kind) && !(o.kind == 7))) = a
      generalize (t.all fun o => mayO o && (decide (6 ≤ o.kind) && !(o.kind == 7))) = b
      cases a <;> cases b <;> simp
    · rw [if_neg hs, if_neg hs, ih, List.nil_append]
      simp only [Bool.and_assoc]
theorem slots_from {l : List OpV} {x : Int} (h : x ∈ slotsO l) : ∃ o ∈ l, slotK o.kind = true ∧ o.slot = x := by
  induction l with
  | nil => cases h
  | cons o t ih =>
    rw [slotsO, List.mem_append] at h
    rcases h with h | h
    · by_cases hs : slotK o.kind = true
      · rw [if_pos hs, List.mem_singleton] at h
        exact ⟨o, by simp, hs, h.symm⟩
      · rw [if_neg hs] at h; cases h
    · obtain ⟨u, hu, h1, h2⟩ := ih h
      exact ⟨u, by simp [hu], h1, h2⟩
theorem may_kind19 {o : OpV} (h : mayO o = true) : 1 ≤ o.kind ∧ o.kind ≤ 10 := by
  unfold mayO at h
  simp only [Bool.and_eq_true, decide_eq_true_eq] at h
  exact h.1.1
/-- As the program asks it. -/
theorem plan_is19 (l : List OpV) : planO l = ((l.all fun o => decide (1 ≤ o.kind ∧ o.kind ≤ 7) && mayO o) && adjB (slotsO l)) := by
  unfold planO
  rw [plan_parts19, show (fun o : OpV => decide (1 ≤ o.kind ∧ o.kind ≤ 7) && mayO o) = fun o => mayO o && decide (o.kind ≤ 7) from funext fun o => by
    cases hm : mayO o
    · simp
    · have := may_kind19 hm
      rw [Bool.and_true, Bool.true_and]
      exact decide_eq_decide.2 (by omega)]
  cases ha : l.all fun o => mayO o && decide (o.kind ≤ 7)
  · rfl
  · rw [Bool.true_and, Bool.true_and]
    cases hS : slotsO l with
    | nil => rfl
    | cons x t =>
      obtain ⟨o, ho, hs, rfl⟩ := slots_from (l := l) (x := x) (by rw [hS]; simp)
      have hm := List.all_eq_true.1 ha o ho
      rw [Bool.and_eq_true] at hm
      have := may_slot hm.1 hs
      rw [riseL, adjB, decide_eq_true (by omega), Bool.true_and]
theorem undo_is19 (l : List OpV) : undoO l = ((l.all fun o => (o.kind == 6 || (o.kind == 8 || (o.kind == 9 || o.kind == 10))) && mayO o) && adjB (slotsO l).reverse) := by
  unfold undoO
  rw [undo_parts19, show (fun o : OpV => (o.kind == 6 || (o.kind == 8 || (o.kind == 9 || o.kind == 10))) && mayO o) = fun o => mayO o && (decide (6 ≤ o.kind) && !(o.kind == 7)) from funext fun o => by
    cases hm : mayO o
    · simp
    · have := may_kind19 hm
      rw [Bool.and_true, Bool.true_and, Bool.eq_iff_iff]
      simp only [Bool.or_eq_true, beq_iff_eq, Bool.and_eq_true, decide_eq_true_eq, Bool.not_eq_true', beq_eq_false_iff_ne]
      omega]
  cases ha : l.all fun o => mayO o && (decide (6 ≤ o.kind) && !(o.kind == 7))
  · rfl
  · rw [Bool.true_and, Bool.true_and, Bool.eq_iff_iff, fallL_iff, adjB_rev]
    constructor
    · intro h j hj
      exact h (j + 1) hj
    · intro h j hj
      cases j with
      | zero =>
        have hx : (slotsO l).getD 0 0 ∈ slotsO l := by
          rw [List.getD_eq_getElem?_getD, List.getElem?_eq_getElem hj]
          exact List.getElem_mem hj
        obtain ⟨o, ho, hs, he⟩ := slots_from hx
        have hm := List.all_eq_true.1 ha o ho
        rw [Bool.and_eq_true] at hm
        have := may_slot hm.1 hs
        rw [← he]
        show o.slot < 2147483648
        omega
      | succ j => exact h j hj
end Go.Proofs.YtolbhjjcabiabaaGreatDoor

/- Texts, read line by line by one reader: the program's way, which tells what the document's does. No program's function. -/
set_option linter.unusedVariables false
set_option linter.unusedSimpArgs false
namespace Go.Proofs.YtolbhjjcabiabaaGreatDoor

/-- What was read so far. -/
structure RdS where
  begun : Bool
  many : Int
  ops : List OpV
  last : List OpV
  plan : Bool
  undo : Bool
def startR : RdS := ⟨false, 0, [], [], true, true⟩
/-- One operation more. -/
def addR (st : RdS) (o : OpV) : Option RdS :=
  if ((st.plan && planO (st.last ++ [o])) || (st.undo && undoO (st.last ++ [o]))) = true then
    some ⟨st.begun, st.many, st.ops ++ [o], if o.slot = 0 then st.last else [o], st.plan && planO (st.last ++ [o]), st.undo && undoO (st.last ++ [o])⟩
  else none
/-- A line without its end, and whether it was ended. -/
def textR (x : List UInt8) : List UInt8 := if x.getLast? = some 10 then x.dropLast else x
def endedR (x : List UInt8) : Bool := x.getLast? == some 10
def takeR (st : RdS) (x : List UInt8) : Option RdS :=
  if (st.begun && ((st.ops.length : Int) == st.many)) = true then (if x = [] then some st else none)
  else if endedR x = false then none
  else if st.begun = false then (countP (textR x)).map (fun (n : Nat) => { st with many := (n : Int), begun := true })
  else (readO (textR x)).bind (addR st)
def runR (st : RdS) : List (Nat × List UInt8) → RdS ⊕ Nat
  | [] => .inl st
  | (p, x) :: t => match takeR st x with
    | none => .inr p
    | some st' => runR st' t
/-- A text's lines, each with its end, and the byte where it begins; the last one is what isn't ended. -/
def chunksF : Nat → List UInt8 → Nat → List (Nat × List UInt8)
  | 0, _, _ => []
  | f + 1, r, p => match cutO r with
    | none => [(p, r)]
    | some (a, b) => (p, a ++ [10]) :: chunksF f b (p + a.length + 1)
def chunksO (s : List UInt8) : List (Nat × List UInt8) := chunksF (s.length + 1) s 0
/-- The last slotted operation is known. -/
def LastR (l last : List OpV) : Prop := (last = [] ∧ ∀ z, lastO z l = z) ∨ ∃ x, last = [x] ∧ x ∈ l ∧ slotK x.kind = true ∧ ∀ z, lastO z l = x.slot
structure GoodR (st : RdS) (want : Int) (l : List OpV) : Prop where
  ops : st.ops = l
  plan : st.plan = planO l
  undo : st.undo = undoO l
  either : eitherO l = true
  last : LastR l st.last
  not : st.begun = false → want < 0 ∧ l = [] ∧ st.last = []
  yes : st.begun = true → want = st.many ∧ 0 ≤ want
theorem good_start : GoodR startR (-1) [] := ⟨rfl, rfl, rfl, rfl, .inl ⟨rfl, fun _ => rfl⟩, fun _ => ⟨by decide, rfl, rfl⟩, fun h => by cases h⟩
theorem plan_last {l last : List OpV} {o : OpV} (h : LastR l last) : planO (l ++ [o]) = (planO l && planO (last ++ [o])) := by
  unfold planO
  rw [plan_append]
  cases hp : planB 0 l
  · rfl
  · rcases h with ⟨rfl, hz⟩ | ⟨x, rfl, hx, hs, hz⟩
    · rw [hz]; rfl
    · rw [hz, Bool.true_and, Bool.true_and]
      obtain ⟨h1, h2⟩ := plan_each hp x hx
      have h3 := plan_above hp x hx hs
      show _ = planB 0 (x :: [o])
      conv => rhs; rw [planB]
      rw [h1, decide_eq_true h2, if_pos hs, decide_eq_true h3]; rfl
theorem undo_last {l last : List OpV} {o : OpV} (h : LastR l last) : undoO (l ++ [o]) = (undoO l && undoO (last ++ [o])) := by
  unfold undoO
  rw [undo_append]
  cases hp : undoB 2147483648 l
  · rfl
  · rcases h with ⟨rfl, hz⟩ | ⟨x, rfl, hx, hs, hz⟩
    · rw [hz]; rfl
    · rw [hz, Bool.true_and, Bool.true_and]
      obtain ⟨h1, h2⟩ := undo_each hp x hx
      have h3 := undo_below hp x hx hs
      show _ = undoB 2147483648 (x :: [o])
      conv => rhs; rw [undoB]
      rw [h1, decide_eq_true h2.1, show (x.kind == 7) = false from by simpa using h2.2, if_pos hs, decide_eq_true h3]; rfl
theorem last_next {l last : List OpV} {o : OpV} (h : LastR l last) (ho : mayO o = true) : LastR (l ++ [o]) (if o.slot = 0 then last else [o]) := by
  cases hs : slotK o.kind
  · have h0 : o.slot = 0 := (may_none ho).1 hs
    rw [if_pos h0]
    have e : ∀ z, lastO z (l ++ [o]) = lastO z l := fun z => by
      rw [last_append]
      simp [lastO, hs]
    rcases h with ⟨rfl, hz⟩ | ⟨x, rfl, hx, hsx, hz⟩
    · exact .inl ⟨rfl, fun z => by rw [e, hz]⟩
    · exact .inr ⟨x, rfl, by simp [hx], hsx, fun z => by rw [e, hz]⟩
  · have h0 := may_slot ho hs
    rw [if_neg (by omega)]
    exact .inr ⟨o, rfl, by simp, hs, fun z => by rw [last_append]; simp [lastO, hs]⟩
theorem good_add {st : RdS} {want : Int} {l : List OpV} (h : GoodR st want l) (hb : st.begun = true) {o : OpV} (ho : mayO o = true) :
    (eitherO (l ++ [o]) = true → ∃ st', addR st o = some st' ∧ GoodR st' want (l ++ [o])) ∧ (eitherO (l ++ [o]) = false → addR st o = none) := by
  have hp := plan_last (o := o) h.last
  have hu := undo_last (o := o) h.last
  rw [← h.plan] at hp
  rw [← h.undo] at hu
  unfold addR
  rw [← hp, ← hu]
  constructor
  · intro he
    unfold eitherO at he
    rw [if_pos he]
    exact ⟨_, rfl, ⟨by rw [h.ops], rfl, rfl, by unfold eitherO; exact he, last_next h.last ho, fun e => (by rw [hb] at e; cases e), h.yes⟩⟩
  · intro he
    unfold eitherO at he
    rw [if_neg (by rw [he]; decide)]
theorem ended_line (a : List UInt8) : endedR (a ++ [10]) = true ∧ textR (a ++ [10]) = a := by
  unfold endedR textR
  rw [List.getLast?_append]
  simp
theorem ended_not {r : List UInt8} (h : (10 : UInt8) ∉ r) : endedR r = false := by
  unfold endedR
  cases hr : r.getLast? with
  | none => rfl
  | some c =>
    have hc := List.mem_of_getLast? hr
    rw [beq_eq_false_iff_ne]
    rintro e
    cases e
    exact h hc
theorem cut_none_no {r : List UInt8} (h : cutO r = none) : (10 : UInt8) ∉ r := by
  intro hm
  obtain ⟨a, b, e, hna⟩ : ∃ a b, r = a ++ 10 :: b ∧ (10 : UInt8) ∉ a := by
    clear h
    induction r with
    | nil => cases hm
    | cons c t ih =>
      by_cases hc : c = 10
      · exact ⟨[], t, by rw [hc]; rfl, fun h => nomatch h⟩
      · rcases List.mem_cons.1 hm with e | hm
        · exact absurd e.symm hc
        · obtain ⟨a, b, e, hn⟩ := ih hm
          exact ⟨c :: a, b, by rw [e]; rfl, fun h => (List.mem_cons.1 h).elim (fun e => hc e.symm) hn⟩
  rw [e, cut_at20 _ hna] at h
  cases h
def outR : RdS ⊕ Nat → List OpV × Int × Int
  | .inl st => (st.ops, 0, 0)
  | .inr p => ([], (p : Int), 12)
theorem run_get (f : Nat) : ∀ (r : List UInt8) (p : Nat) (st : RdS) (want : Int) (l : List OpV), GoodR st want l → r.length + 1 ≤ f → outR (runR st (chunksF f r p)) = getR (f + 1) r p want l := by
  induction f with
  | zero => intro r p st want l _ hf; omega
  | succ f ih =>
    intro r p st want l h hf
    rw [getR]
    by_cases hw : 0 ≤ want ∧ (l.length : Int) = want
    · have hb : st.begun = true := by
        cases hb : st.begun
        · have := (h.not hb).1; omega
        · rfl
      have hfull : (st.begun && ((st.ops.length : Int) == st.many)) = true := by
        rw [hb, h.ops, ← (h.yes hb).1, hw.2]; simp
      rw [if_pos hw]
      rw [chunksF]
      by_cases hr : r = []
      · subst hr
        rw [if_pos rfl]
        show outR (match takeR st [] with | none => _ | some st' => _) = _
        unfold takeR
        rw [if_pos hfull, if_pos rfl]
        show (st.ops, (0 : Int), (0 : Int)) = _
        rw [h.ops]
      · rw [if_neg hr]
        cases hc : cutO r with
        | none =>
          show outR (match takeR st r with | none => _ | some st' => _) = _
          unfold takeR
          rw [if_pos hfull, if_neg hr]; rfl
        | some q =>
          obtain ⟨a, b⟩ := q
          show outR (match takeR st (a ++ [10]) with | none => _ | some st' => _) = _
          unfold takeR
          rw [if_pos hfull, if_neg (by simp)]; rfl
    · rw [if_neg hw]
      have hnf : ¬ (st.begun && ((st.ops.length : Int) == st.many)) = true := by
        rw [Bool.and_eq_true, h.ops]
        rintro ⟨hb, he⟩
        obtain ⟨h1, h2⟩ := h.yes hb
        exact hw ⟨h2, by rw [h1]; simpa using he⟩
      rw [chunksF]
      cases hc : cutO r with
      | none =>
        show outR (match takeR st r with | none => _ | some st' => _) = _
        unfold takeR
        rw [if_neg hnf, if_pos (ended_not (cut_none_no hc))]; rfl
      | some q =>
        obtain ⟨line, rest⟩ := q
        obtain ⟨e1, _⟩ := cut_some hc
        have hl : r.length = line.length + 1 + rest.length := by rw [e1]; simp; omega
        obtain ⟨t1, t2⟩ := ended_line line
        dsimp only
        show outR (match takeR st (line ++ [10]) with | none => _ | some st' => _) = _
        unfold takeR
        rw [if_neg hnf, if_neg (by rw [t1]; decide), t2]
        by_cases hneg : want < 0
        · have hb : st.begun = false := by
            cases hb : st.begun
            · rfl
            · have := (h.yes hb).2; omega
          obtain ⟨_, hl0, hla⟩ := h.not hb
          subst hl0
          rw [if_pos hneg, if_pos hb, count_eq]
          by_cases hcn : line.length < 6 ∨ line.take 5 ≠ planW ∨ numB20 (line.drop 5) < 0
          · rw [if_pos hcn, if_pos hcn]; rfl
          · rw [if_neg hcn, if_neg hcn]
            have h0 : 0 ≤ numB20 (line.drop 5) := Int.not_lt.1 fun c => hcn (.inr (.inr c))
            dsimp only [Option.map_some]
            exact ih rest _ _ _ [] ⟨h.ops, h.plan, h.undo, rfl, h.last, fun e => (by cases e), fun _ => ⟨by dsimp only; omega, h0⟩⟩ (by omega)
        · have hb : st.begun = true := by
            cases hb : st.begun
            · exact absurd (h.not hb).1 hneg
            · rfl
          rw [if_neg hneg, if_neg (by rw [hb]; decide)]
          cases hr : readO line with
          | none => rfl
          | some o =>
            obtain ⟨hm, _⟩ := (read_iff _ _).1 hr
            dsimp only [Option.bind_some]
            cases he : eitherO (l ++ [o])
            · rw [(good_add h hb hm).2 he]; rfl
            · obtain ⟨st', ha, hg⟩ := (good_add h hb hm).1 he
              rw [ha, if_pos rfl]
              exact ih rest _ st' want (l ++ [o]) hg (by omega)
theorem run_all (s : List UInt8) : outR (runR startR (chunksO s)) = getO s := run_get (s.length + 1) s 0 startR (-1) [] good_start (Nat.le_refl _)
theorem run_append (a b : List (Nat × List UInt8)) : ∀ st, runR st (a ++ b) = match runR st a with | .inl st' => runR st' b | .inr p => .inr p := by
  induction a with
  | nil => intro st; rfl
  | cons x t ih =>
    intro st
    obtain ⟨p, y⟩ := x
    rw [List.cons_append, runR, runR]
    cases takeR st y with
    | none => rfl
    | some st' => exact ih st'
end Go.Proofs.YtolbhjjcabiabaaGreatDoor

/- append onto an own row: the answer's block is the row's own, or new. A shorter part of an own row is an own row. -/
set_option linter.unusedVariables false
set_option linter.unusedSimpArgs false
namespace Go.Proofs.YtolbhjjcabiabaaGreatDoor
open Go.RowKit

theorem own_take {w : World} {base : Nat} {e : TypeId} {size g cap n : Nat} {xs : List Value} (h : w.ownsRow base e size (.slice (some ⟨g, 0, none⟩) n cap) n xs) (k : Nat) (hk : k ≤ n) :
    w.ownsRow base e size (.slice (some ⟨g, 0, none⟩) k cap) k (xs.take (k * size)) := by
  obtain ⟨h1, h2⟩ := h
  have hkn : k * size ≤ n * size := Nat.mul_le_mul_right _ hk
  rcases h2 with ⟨h0, _⟩ | ⟨g', cap', cur, hv, hg, hh, hn, hcap, hsz, htake⟩
  · cases h0
  · cases hv
    refine ⟨by rw [List.length_take, h1]; omega, .inr ⟨g, cap, cur, rfl, hg, hh, by omega, hcap, hsz, ?_⟩⟩
    rw [← htake, List.take_take, Nat.min_eq_left hkn]

section
variable {P : Program} {w : World}
theorem run_append_here (base : Nat) (t ty e : TypeId) (i : TypeInfo) (z : Value) (size bytes : Nat) (ht : P.underlying t = some (.slice e)) (hi : P.info? e = some i) (hz : i.zero = some z)
    (hsize : i.size = size) (hby : i.bytes = bytes) (hzs : z.cells.size = size) (hsz : 0 < size)
    (v : Value) (n : Nat) (xs : List Value) (hown : w.ownsRow base e size v n xs)
    (a : Addr) (m c : Nat) (news : List Value) (hl : news.length = m * size) (hnews : ∀ j u, news[j]? = some u → w.cell? (a.add j) = some u) (h1 : ∀ u ∈ news, u.oneCell' = true)
    (h63 : n + m ≤ maxLen) (hbytes : (n + m) * bytes ≤ 140737488355328) (hbase : base ≤ w.heap.size) :
    ∃ v' w', (Builtin.append_ #[t, t] ty #[v, .slice (some a) m c]).run P w = .ok v' w' ∧ w'.ownsRow base e size v' (n + m) (xs ++ news) ∧ w.grownBy w' v.ownBlock ∧ ∀ g, v'.ownBlock = some g → v.ownBlock = some g ∨ w.heap.size ≤ g := by
  obtain ⟨v', w', hr, h2, h3, _⟩ := run_append_own (P := P) w base t ty e i z size bytes ht hi hz hsize hby hzs hsz v n xs hown a m c news hl hnews h1 h63 hbytes hbase
  refine ⟨v', w', hr, h2, h3, ?_⟩
  rcases hown.2 with ⟨rfl, rfl⟩ | ⟨g, cap, cur, rfl, hbg, hg, hnc, hcm, hcs, htake⟩
  · have hx : xs = [] := List.eq_nil_of_length_eq_zero (by simpa using hown.1)
    subst hx
    obtain ⟨v2, w2, hr2, k2, _⟩ := run_append_own (P := P) w w.heap.size t ty e i z size bytes ht hi hz hsize hby hzs hsz _ 0 [] (World.ownsRow_nil _ _ _ _) a m c news hl hnews h1 h63 hbytes (Nat.le_refl _)
    rw [hr] at hr2
    cases hr2
    exact fun g hg => .inr (k2.lt g hg).1
  · subst hsize hby
    by_cases hroom : n + m ≤ cap
    · have hfit : n * i.size + news.length ≤ cur.size := by rw [hl, hcs, ← Nat.add_mul]; exact Nat.mul_le_mul_right _ hroom
      have hr2 := run_append_room (P := P) w t ty e i ht hi g n cap cur hg a m c news hl hnews h1 hroom hfit
      rw [hr] at hr2
      cases hr2
      exact fun g' hg' => .inl hg'
    · have hsmall : n + m ≤ 9223372036854775807 := by simp only [maxLen] at h63; omega
      have hr2 := run_append_grow (P := P) w t ty e i z ht hi hz ⟨g, 0, none⟩ n cap xs hown.1 (hown.cells (g := g) rfl) a m c news hl hnews (by omega) (by omega) (growslice_fits (by omega) hbytes)
      rw [hr] at hr2
      cases hr2
      exact fun g' hg' => by simp [Value.ownBlock] at hg'; right; omega

theorem wp_append_here {o : Oper} {a : Act} {K : Act → World → Prop} {Q : Exit → Act → World → Prop} (s x : Operand) (t : TypeId)
    (ho : o.op = .call { callee := .builtin .append, args := #[s, x], argTypes := #[t, t] })
    (base : Nat) (e : TypeId) (i : TypeInfo) (z : Value) (size bytes : Nat) (ht : P.underlying t = some (.slice e)) (hi : P.info? e = some i) (hz : i.zero = some z)
    (hsize : i.size = size) (hby : i.bytes = bytes) (hzs : z.cells.size = size) (hsz : 0 < size)
    (v : Value) (n : Nat) (xs : List Value) (hs : a.eval s = v) (hown : w.ownsRow base e size v n xs)
    (ad : Addr) (m c : Nat) (news : List Value) (hx : a.eval x = .slice (some ad) m c) (hl : news.length = m * size) (hnews : ∀ j u, news[j]? = some u → w.cell? (ad.add j) = some u) (h1 : ∀ u ∈ news, u.oneCell' = true)
    (h63 : n + m ≤ maxLen) (hbytes : (n + m) * bytes ≤ 140737488355328) (hbase : base ≤ w.heap.size)
    (h : ∀ v' w', w'.ownsRow base e size v' (n + m) (xs ++ news) → w.grownBy w' v.ownBlock → (∀ g, v'.ownBlock = some g → v.ownBlock = some g ∨ w.heap.size ≤ g) → K (a.put o.dst v') w') : o.wp P a w K Q := by
  obtain ⟨v', w', hr, h2, h3, h4⟩ := run_append_here (P := P) (w := w) base t o.type e i z size bytes ht hi hz hsize hby hzs hsz v n xs hown ad m c news hl hnews h1 h63 hbytes hbase
  unfold Oper.wp execOp
  simp only [ho, resolve, invoke, builtin, Sem.run_bind, Sem.run_pure, Result.andThen_ok, List.map_toArray, List.map_cons, List.map_nil, hs, hx, hr]
  exact h v' w' h2 h3 h4

/-- As one step of a region that draws its order. -/
theorem step_append_here {ops : Array Oper} {o : Oper} {a : Act} {K : Act → World → Prop} {Q : Exit → Act → World → Prop} {E : Prop} (hgd : o.guard = none) (s x : Operand) (t e : TypeId)
    (ho : o.op = .call { callee := .builtin .append, args := #[s, x], argTypes := #[t, t] })
    {i : TypeInfo} {z : Value} {size bytes : Nat} (ht : P.underlying t = some (.slice e)) (hi : P.info? e = some i) (hz : i.zero = some z)
    (hsize : i.size = size) (hby : i.bytes = bytes) (hzs : z.cells.size = size) (hsz : 0 < size) (hbs : bytes ≤ 128)
    (base : Nat) {v : Value} {n : Nat} {xs : List Value} (ad : Addr) (m : Nat) (news : List Value) (hs : a.eval s = v) (hx : a.eval x = .slice (some ad) m m) (hown : w.ownsRow base e size v n xs)
    (hm : news.length = m * size) (hnews : ∀ j u, news[j]? = some u → w.cell? (ad.add j) = some u) (h1 : ∀ u ∈ news, u.oneCell' = true) (hb : n + m ≤ 1099511627776) (hbase : base ≤ w.heap.size)
    (hK : ∀ v' w', w'.ownsRow base e size v' (n + m) (xs ++ news) → w.grownBy w' v.ownBlock → (∀ g, v'.ownBlock = some g → v.ownBlock = some g ∨ w.heap.size ≤ g) → K (a.put o.dst v') w') :
    if Region.wanted o (yielded ops a.tmps) = true then Oper.wp P o a w K Q else E := by
  rw [if_pos (by simp [Region.wanted, hgd])]
  refine wp_append_here s x t ho base e i z size bytes ht hi hz hsize hby hzs hsz v n xs hs hown ad m m news hx hm hnews h1 (by unfold maxLen; omega) ?_ hbase hK
  calc (n + m) * bytes ≤ 1099511627776 * 128 := Nat.mul_le_mul hb hbs
    _ ≤ 140737488355328 := by decide

/-- As one operation of a list, behind a block just made for what is appended. -/
theorem wpList_append_here {ops : Array Oper} {rest : List Oper} {o : Oper} {a : Act} {Q : Exit → Act → World → Prop} (hgd : o.guard = none) (s x : Operand) (t e : TypeId)
    (ho : o.op = .call { callee := .builtin .append, args := #[s, x], argTypes := #[t, t] })
    {i : TypeInfo} {z : Value} {size bytes : Nat} (ht : P.underlying t = some (.slice e)) (hi : P.info? e = some i) (hz : i.zero = some z)
    (hsize : i.size = size) (hby : i.bytes = bytes) (hzs : z.cells.size = size) (hsz : 0 < size) (hbs : bytes ≤ 128)
    (base : Nat) {v : Value} {n : Nat} {xs : List Value} (C : Array Value) (m : Nat) (hs : a.eval s = v) (hx : a.eval x = .slice (some ⟨w.heap.size, 0, none⟩) m m) (hown : w.ownsRow base e size v n xs)
    (hm : C.size = m * size) (h1 : ∀ u ∈ C.toList, u.oneCell' = true) (hb : n + m ≤ 1099511627776) (hbase : base ≤ w.heap.size)
    (hK : ∀ v' w', w'.ownsRow base e size v' (n + m) (xs ++ C.toList) → (w.alloc (.cells C e)).grownBy w' v.ownBlock → (∀ g, v'.ownBlock = some g → v.ownBlock = some g ∨ w.heap.size < g) → wpList P ops Q rest (a.put o.dst v') w') :
    wpList P ops Q (o :: rest) a (w.alloc (.cells C e)) := by
  refine wpList_plain hgd fun _ hKK => wp_append_here s x t ho base e i z size bytes ht hi hz hsize hby hzs hsz v n xs hs (hown.alloc _) ⟨w.heap.size, 0, none⟩ m m C.toList hx (by simpa using hm) (cells_block w C e) h1 (by unfold maxLen; omega) ?_ (by simp; omega) ?_
  · calc (n + m) * bytes ≤ 1099511627776 * 128 := Nat.mul_le_mul hb hbs
      _ ≤ 140737488355328 := by decide
  · intro v' w' h2 h3 h4
    exact hKK _ _ (hK v' w' h2 h3 (fun g hg => (h4 g hg).imp id (fun h => by simp at h; omega)))
end
end Go.Proofs.YtolbhjjcabiabaaGreatDoor

/- append onto an own row of whatever slice, nil or not: what else there is stays. -/
set_option linter.unusedVariables false
set_option linter.unusedSimpArgs false
namespace Go.Proofs.YtolbhjjcabiabaaGreatDoor
open Go.RowKit

theorem run_append_nil {P : Program} {w : World} (base : Nat) (t ty e : TypeId) (i : TypeInfo) (size : Nat) (ht : P.underlying t = some (.slice e)) (hi : P.info? e = some i)
    (v : Value) (n : Nat) (xs : List Value) (hown : w.ownsRow base e size v n xs) (c : Nat) :
    (Builtin.append_ #[t, t] ty #[v, .slice none 0 c]).run P w = .ok v w := by
  rcases hown.2 with ⟨rfl, rfl⟩ | ⟨g, cap, cur, rfl, _, _, hnc, _⟩
  · simp [Builtin.append_, run_underlying ht, sizeOf, typeInfo, hi, Builtin.lenOf, Builtin.firstCells]
  · simp [Builtin.append_, run_underlying ht, sizeOf, typeInfo, hi, Builtin.lenOf, Builtin.firstCells, hnc, storeCells]
theorem wp_append_more {P : Program} {w : World} {o : Oper} {a : Act} {K : Act → World → Prop} {Q : Exit → Act → World → Prop} (s x : Operand) (t e : TypeId)
    (ho : o.op = .call { callee := .builtin .append, args := #[s, x], argTypes := #[t, t] })
    {i : TypeInfo} {z : Value} {size bytes : Nat} (ht : P.underlying t = some (.slice e)) (hi : P.info? e = some i) (hz : i.zero = some z)
    (hsize : i.size = size) (hby : i.bytes = bytes) (hzs : z.cells.size = size) (hsz : 0 < size) (hbs : bytes ≤ 128)
    (base : Nat) {v : Value} {n : Nat} {xs : List Value} (ao : Option Addr) (m c : Nat) (news : List Value) (hs : a.eval s = v) (hx : a.eval x = .slice ao m c) (hown : w.ownsRow base e size v n xs) (hnone : ao = none → m = 0)
    (hm : news.length = m * size) (hc : ∀ ad, ao = some ad → ∀ j u, news[j]? = some u → w.cell? (ad.add j) = some u) (h1 : ∀ u ∈ news, u.oneCell' = true) (hb : n + m ≤ 1099511627776) (hbase : base ≤ w.heap.size)
    (hK : ∀ v' w', w'.ownsRow base e size v' (n + m) (xs ++ news) → w.grownBy w' v.ownBlock → (∀ g, v'.ownBlock = some g → v.ownBlock = some g ∨ w.heap.size ≤ g) → K (a.put o.dst v') w') : o.wp P a w K Q := by
  cases ao with
  | some ad =>
    refine wp_append_here s x t ho base e i z size bytes ht hi hz hsize hby hzs hsz v n xs hs hown ad m c news hx hm (hc ad rfl) h1 (by unfold maxLen; omega) ?_ hbase hK
    calc (n + m) * bytes ≤ 1099511627776 * 128 := Nat.mul_le_mul hb hbs
      _ ≤ 140737488355328 := by decide
  | none =>
    obtain rfl := hnone rfl
    have hnews : news = [] := List.eq_nil_of_length_eq_zero (by simpa using hm)
    subst hnews
    have hrun := run_append_nil (P := P) base t o.type e i size ht hi _ n xs hown c
    unfold Oper.wp
    simp [execOp, ho, resolve, invoke, builtin, hs, hx, hrun, Result.andThen]
    exact hK _ _ (by simpa using hown) ⟨rfl, rfl, rfl, Nat.le_refl _, fun _ _ _ => rfl⟩ (fun g hg => .inl hg)
/-- As one step of a region that draws its order. -/
theorem step_append_more {P : Program} {w : World} {ops : Array Oper} {o : Oper} {a : Act} {K : Act → World → Prop} {Q : Exit → Act → World → Prop} {E : Prop} (hgd : o.guard = none) (s x : Operand) (t e : TypeId)
    (ho : o.op = .call { callee := .builtin .append, args := #[s, x], argTypes := #[t, t] })
    {i : TypeInfo} {z : Value} {size bytes : Nat} (ht : P.underlying t = some (.slice e)) (hi : P.info? e = some i) (hz : i.zero = some z)
    (hsize : i.size = size) (hby : i.bytes = bytes) (hzs : z.cells.size = size) (hsz : 0 < size) (hbs : bytes ≤ 128)
    (base : Nat) {v : Value} {n : Nat} {xs : List Value} (ao : Option Addr) (m c : Nat) (news : List Value) (hs : a.eval s = v) (hx : a.eval x = .slice ao m c) (hown : w.ownsRow base e size v n xs) (hnone : ao = none → m = 0)
    (hm : news.length = m * size) (hc : ∀ ad, ao = some ad → ∀ j u, news[j]? = some u → w.cell? (ad.add j) = some u) (h1 : ∀ u ∈ news, u.oneCell' = true) (hb : n + m ≤ 1099511627776) (hbase : base ≤ w.heap.size)
    (hK : ∀ v' w', w'.ownsRow base e size v' (n + m) (xs ++ news) → w.grownBy w' v.ownBlock → (∀ g, v'.ownBlock = some g → v.ownBlock = some g ∨ w.heap.size ≤ g) → K (a.put o.dst v') w') :
    if Region.wanted o (yielded ops a.tmps) = true then Oper.wp P o a w K Q else E := by
  rw [if_pos (by simp [Region.wanted, hgd])]
  exact wp_append_more s x t e ho ht hi hz hsize hby hzs hsz hbs base ao m c news hs hx hown hnone hm hc h1 hb hbase hK
/-- As one operation of a list. -/
theorem wpList_append_more {P : Program} {w : World} {ops : Array Oper} {rest : List Oper} {o : Oper} {a : Act} {Q : Exit → Act → World → Prop} (hgd : o.guard = none) (s x : Operand) (t e : TypeId)
    (ho : o.op = .call { callee := .builtin .append, args := #[s, x], argTypes := #[t, t] })
    {i : TypeInfo} {z : Value} {size bytes : Nat} (ht : P.underlying t = some (.slice e)) (hi : P.info? e = some i) (hz : i.zero = some z)
    (hsize : i.size = size) (hby : i.bytes = bytes) (hzs : z.cells.size = size) (hsz : 0 < size) (hbs : bytes ≤ 128)
    (base : Nat) {v : Value} {n : Nat} {xs : List Value} (ao : Option Addr) (m c : Nat) (news : List Value) (hs : a.eval s = v) (hx : a.eval x = .slice ao m c) (hown : w.ownsRow base e size v n xs) (hnone : ao = none → m = 0)
    (hm : news.length = m * size) (hc : ∀ ad, ao = some ad → ∀ j u, news[j]? = some u → w.cell? (ad.add j) = some u) (h1 : ∀ u ∈ news, u.oneCell' = true) (hb : n + m ≤ 1099511627776) (hbase : base ≤ w.heap.size)
    (hK : ∀ v' w', w'.ownsRow base e size v' (n + m) (xs ++ news) → w.grownBy w' v.ownBlock → (∀ g, v'.ownBlock = some g → v.ownBlock = some g ∨ w.heap.size ≤ g) → wpList P ops Q rest (a.put o.dst v') w') :
    wpList P ops Q (o :: rest) a w :=
  wpList_plain hgd fun _ hKK => wp_append_more s x t e ho ht hi hz hsize hby hzs hsz hbs base ao m c news hs hx hown hnone hm hc h1 hb hbase (fun v' w' h2 h3 h4 => hKK _ _ (hK v' w' h2 h3 h4))
end Go.Proofs.YtolbhjjcabiabaaGreatDoor

/- The iterator over a text's lines: what it hands out, to whatever loop body. -/
set_option linter.unusedVariables false
set_option linter.unusedSimpArgs false
namespace Go.Proofs.YtolbhjjcabiabaaGreatDoor
open Go.RowKit Go.Shelf
attribute [local go_sem] Oper.semAt_some

/-- A line of no more than so many bytes, and the byte where it begins. -/
abbrev Chk : Type := { c : Nat × List UInt8 // c.2.length ≤ 90000 }
abbrev chkV (c : Chk) : Array Value := #[.int .i64 (c.1.1 : Int), .string ⟨c.1.2.toArray⟩]
theorem chunks_len (f : Nat) : ∀ (r : List UInt8) (p : Nat), (chunksF f r p).length ≤ r.length + 1 := by
  induction f with
  | zero => intro r p; simp [chunksF]
  | succ f ih =>
    intro r p
    rw [chunksF]
    cases hc : cutO r with
    | none => simp
    | some q =>
      obtain ⟨a, b⟩ := q
      obtain ⟨e1, _⟩ := cut_some hc
      have hl : r.length = a.length + 1 + b.length := by rw [e1]; simp; omega
      have := ih b (p + a.length + 1)
      simp
      omega
theorem index_none20 {r : List UInt8} (h : Lib.indexByte r 10 = -1) : cutO r = none := by
  refine cut_none fun hm => ?_
  obtain ⟨k, hk⟩ := List.mem_iff_getElem?.1 hm
  exact Lib.indexByte_none h k hk
theorem index_some20 {r : List UInt8} {k : Nat} (h : Lib.indexByte r 10 = (k : Int)) : k < r.length ∧ cutO r = some (r.take k, r.drop (k + 1)) ∧ r.take k ++ [10] = r.take (k + 1) := by
  obtain ⟨h1, h2⟩ := Lib.indexByte_some h
  obtain ⟨hk, h10⟩ := List.getElem?_eq_some_iff.1 h1
  have hn : (10 : UInt8) ∉ r.take k := by
    intro hm
    obtain ⟨j, hj, e⟩ := List.getElem_of_mem hm
    rw [List.length_take] at hj
    rw [List.getElem_take] at e
    exact h2 j (by omega) (by rw [List.getElem?_eq_getElem (by omega), e])
  have e1 : r = r.take k ++ 10 :: r.drop (k + 1) := by
    conv => lhs; rw [← List.take_append_drop k r, List.drop_eq_getElem_cons hk, h10]
  refine ⟨hk, ?_, by rw [List.take_succ_eq_append_getElem hk, h10]⟩
  conv => lhs; rw [e1]
  exact cut_at20 _ hn
theorem extract20 (s : List UInt8) (a b : Nat) : (ByteArray.mk s.toArray).extract a b = ⟨((s.drop a).take (b - a)).toArray⟩ := by
  rw [ByteArray.extract_mk]
theorem extract_all20 (s : List UInt8) (p : Nat) : (ByteArray.mk s.toArray).extract p s.length = ⟨(s.drop p).toArray⟩ := by
  rw [extract20, List.take_of_length_le (by rw [List.length_drop]; exact Nat.le_refl _)]
theorem extract_line20 (s : List UInt8) (p k : Nat) : (ByteArray.mk s.toArray).extract p (p + (k + 1)) = ⟨((s.drop p).take (k + 1)).toArray⟩ := by
  rw [extract20, Nat.add_sub_cancel_left]
set_option maxRecDepth 100000 in
set_option maxHeartbeats 4000000 in
theorem lines1_in (l B : Nat) (s : List UInt8) (hs : s.length ≤ 4000000) (hln : ∀ c ∈ chunksO s, c.2.length ≤ 90000) (J Jx : List Chk → World → Prop)
    (hY : ∀ pre x W, J pre W → pre.length < s.length + 2 → YieldAt Fence.wide (3 - 1 - 1) Tryz.prog l (chkV x) W fun e W' =>
      (e = .returned (.bool true) ∧ J (pre ++ [x]) W' ∧ W'.heap[B]? = W.heap[B]?) ∨ (e = .returned (.bool false) ∧ Jx (pre ++ [x]) W'))
    (W : World) (hc : W.cell? ⟨B, 0, none⟩ = some (.string ⟨s.toArray⟩)) (h0 : J [] W) :
    CallsIn Fence.wide (3 - 1) Tryz.prog 66 #[.func (.yield l) #[] #[], .pointer (some ⟨B, 0, none⟩)] W fun e W' => (∃ v, e = .returned v) ∧
      ((∃ ys : List Chk, ys.map (·.1) = chunksO s ∧ J ys W') ∨ (∃ pre : List Chk, pre.map (·.1) <+: chunksO s ∧ Jx pre W')) := by
  have HLN := Lib.hid hln
  clear hln
  refine callsIn_of_wp Tryz.func66 rfl trivial ?_ rfl
  simp only [Tryz.ntmps66, List.size_toArray, List.length_cons, List.length_nil, Nat.reduceAdd, Nat.reduceSub, Array.replicate_succ, Array.replicate_zero, List.push_toArray, List.append_toArray, List.nil_append, List.cons_append]
  gi_wp2
  gi_loopw [3] (fun s3 wr => ∃ (pre : List Chk) (p f : Nat), s3 = .int .i64 (p : Int) ∧ p ≤ s.length ∧ pre.length ≤ p ∧ Aside ((s.drop p).length + 1 ≤ f ∧ chunksO s = pre.map (·.1) ++ chunksF f (s.drop p) p) ∧ J pre wr ∧ wr.cell? ⟨B, 0, none⟩ = some (.string ⟨s.toArray⟩)) (fun s3 _ => s.length + 1 - (intOf s3).toNat)
  case atStart => exact ⟨[], 0, s.length + 1, rfl, Nat.zero_le _, Nat.zero_le _, ⟨by simp, rfl⟩, h0, hc⟩
  case round =>
    obtain ⟨pre, p, f, rfl, hp, hpl, HN, hJ, hc1⟩ := hrel
    obtain ⟨f, rfl⟩ : ∃ f', f = f' + 1 := ⟨f - 1, by have := HN.out.1; omega⟩
    have hix := Tryz.strings_Index_one ⟨(s.drop p).toArray⟩ 10 wr
    simp only at hix
    have k0 : (0 : Int) ≤ (p : Int) := by omega
    have k1 : (p : Int) ≤ (s.length : Int) := by omega
    cases hi : decide (Lib.indexByte (s.drop p) 10 < 0)
    · obtain ⟨k, hk⟩ : ∃ k : Nat, Lib.indexByte (s.drop p) 10 = (k : Int) := ⟨(Lib.indexByte (s.drop p) 10).toNat, by have := of_decide_eq_false hi; omega⟩
      obtain ⟨i1, i2, i3⟩ := index_some20 hk
      rw [hk] at hix
      clear hi
      have hx1 := extract_all20 s p
      have hx2 := extract_line20 s p k
      have hkl : p + (k + 1) ≤ s.length := by rw [List.length_drop] at i1; omega
      have HC : Hid (chunksO s = (pre.map (·.1) ++ [(p, (s.drop p).take (k + 1))]) ++ chunksF f (s.drop (p + k + 1)) (p + k + 1)) := Lib.hid (by
        rw [HN.out.2, chunksF, i2]
        dsimp only
        rw [i3, List.length_take, List.drop_drop, List.append_assoc, Nat.min_eq_left (by omega)]; rfl)
      have hcl := HLN.out (p, (s.drop p).take (k + 1)) (by rw [HC.out]; simp)
      have HF : Hid ((s.drop (p + k + 1)).length + 1 ≤ f) := Lib.hid (by
        have := HN.out.1
        rw [List.length_drop] at this ⊢
        omega)
      clear i1 i2 i3 HN
      obtain ⟨fn, tmps, assign, body, hy0, hR⟩ := hY pre ⟨(p, (s.drop p).take (k + 1)), hcl⟩ wr hJ (by omega)
      have hy : (Instr.yield l #[.int .i64 (p : Int), .string ⟨((s.drop p).take (k + 1)).toArray⟩]).run Tryz.prog wr = .ok (.round l fn tmps assign body) wr := hy0
      clear hy0
      generalize hdd : (s.drop p).take (k + 1) = line at *
      gi_wp2_with fail
      refine ⟨trivial, ?_⟩
      gi_at_call 67
      refine (callsIn_wide.2 hix).mono ?_
      rintro e w' ⟨rfl, rfl⟩
      have w2 : ¬ ((k : Int) + 1 < 1) := by omega
      gi_wp2
      refine hR.mono ?_
      rintro e W3 (⟨rfl, hJ3, hk3⟩ | ⟨rfl, hJx3⟩)
      · have hc3 : W3.cell? ⟨B, 0, none⟩ = some (.string ⟨s.toArray⟩) := (World.cell?_of_block (a := ⟨B, 0, none⟩) hk3).trans hc1
        gi_wp2
        go_roundw
        case rel => exact ⟨pre ++ [⟨(p, line), hcl⟩], p + k + 1, f, by go_num, by omega, by simp; omega, ⟨HF.out, by rw [HC.out]; simp⟩, hJ3, hc3⟩
        case measure => simp [intOf]; omega
      · gi_wp2
        refine bodyPost_ret (results_none rfl _ _ _) rfl ?_
        exact ⟨⟨_, rfl⟩, .inr ⟨pre ++ [⟨(p, line), hcl⟩], by rw [HC.out]; simp, hJx3⟩⟩
    · have hk : Lib.indexByte (s.drop p) 10 = -1 := by
        have := Lib.indexByte_ge (s.drop p) 10
        have := of_decide_eq_true hi
        omega
      have i2 := index_none20 hk
      rw [hk] at hix
      have hx1 := extract_all20 s p
      have HC : Hid (chunksO s = pre.map (·.1) ++ [(p, s.drop p)]) := Lib.hid (by rw [HN.out.2, chunksF, i2])
      have hcl := HLN.out (p, s.drop p) (by rw [HC.out]; simp)
      clear i2 HN hi hk
      obtain ⟨fn, tmps, assign, body, hy0, hR⟩ := hY pre ⟨(p, s.drop p), hcl⟩ wr hJ (by omega)
      have hy : (Instr.yield l #[.int .i64 (p : Int), .string ⟨(s.drop p).toArray⟩]).run Tryz.prog wr = .ok (.round l fn tmps assign body) wr := hy0
      clear hy0
      generalize hdd : s.drop p = line at *
      gi_wp2_with fail
      refine ⟨trivial, ?_⟩
      gi_at_call 67
      refine (callsIn_wide.2 hix).mono ?_
      rintro e w' ⟨rfl, rfl⟩
      gi_wp2
      refine hR.mono ?_
      rintro e W3 (⟨rfl, hJ3, hk3⟩ | ⟨rfl, hJx3⟩)
      · gi_wp2
        refine bodyPost_ret (results_none rfl _ _ _) rfl ?_
        exact ⟨⟨_, rfl⟩, .inl ⟨pre ++ [⟨(p, line), hcl⟩], by rw [HC.out]; simp, hJ3⟩⟩
      · gi_wp2
        refine bodyPost_ret (results_none rfl _ _ _) rfl ?_
        exact ⟨⟨_, rfl⟩, .inr ⟨pre ++ [⟨(p, line), hcl⟩], by rw [HC.out]; simp, hJx3⟩⟩
theorem lines_in (s : List UInt8) (w : World) :
    CallsIn Fence.wide (3 - 1) Tryz.prog 41 #[.string ⟨s.toArray⟩] w fun e w' => e = .returned (.func (.func 66) #[] #[.pointer (some ⟨w.heap.size, 0, none⟩)]) ∧ w' = w.alloc (.cells #[.string ⟨s.toArray⟩] 9) := by
  refine callsIn_of_wp Tryz.func41 rfl trivial ?_ rfl
  simp only [Tryz.ntmps41, List.size_toArray, List.length_cons, List.length_nil, Nat.reduceAdd, Nat.reduceSub, Array.replicate_succ, Array.replicate_zero, List.push_toArray, List.append_toArray, List.nil_append, List.cons_append]
  gi_wp2
  go_ret
  exact ⟨rfl, rfl⟩
theorem lines_stops (B : Nat) (s : List UInt8) (hs : s.length ≤ 4000000) (hln : ∀ c ∈ chunksO s, c.2.length ≤ 90000) (w : World) (hB : B < w.heap.size) (hc : w.cell? ⟨B, 0, none⟩ = some (.string ⟨s.toArray⟩)) :
    SeqStopsK Fence.wide (3 - 1) Tryz.prog 66 #[.pointer (some ⟨B, 0, none⟩)] chkV (fun A A' => A'.heap[B]? = A.heap[B]?) (fun ys => ys.map (·.1) = chunksO s) (fun pre => pre.map (·.1) <+: chunksO s) (s.length + 2) w := fun l J Jx W hW hJ _ hY h0 =>
  lines1_in l B s hs hln J Jx hY W ((hW.cell (p := ⟨B, 0, none⟩) hB).trans hc) h0
end Go.Proofs.YtolbhjjcabiabaaGreatDoor
