import Derived.Test.YtolbhjjcabiabaaGreatDoorQMOpIn19
import Derived.Test.YtolbhjjcabiabaaGreatDoorQMWalkB03
import Derived.Lib.IndexLaws
import Derived.Deep.CutRange
import Derived.Deep.RegionHeld3
set_option linter.unusedVariables false
set_option linter.unusedSimpArgs false
/- The program's table of kinds; rises; paths other than the root. No walk yet but kindOf, fits and what fits asks. -/
set_option linter.unusedVariables false
set_option linter.unusedSimpArgs false
namespace Go.Proofs.YtolbhjjcabiabaaGreatDoor
open Go.RowKit

def kindK (k : Int) : Bool := decide (1 ≤ k ∧ k ≤ 10)
def planK (k : Int) : Bool := decide (1 ≤ k ∧ k ≤ 7)
def undoK (k : Int) : Bool := k == 6 || (k == 8 || (k == 9 || k == 10))
abbrev kC (k : Int) : Array Value := #[.bool (slotK k), .bool (k == 4), .bool (kindK k), .bool (pairK k), .bool (k == 6), .bool (planK k), .bool (undoK k)]
abbrev kZ : Array Value := #[.bool false, .bool false, .bool false, .bool false, .bool false, .bool false, .bool false]
theorem kC_not {k : Int} (h : ¬ (1 ≤ k ∧ k ≤ 10)) : kC k = kZ := by
  have h1 : slotK k = false := by unfold slotK; simp; omega
  have h2 : (k == 4) = false := by simp; omega
  have h3 : kindK k = false := decide_eq_false h
  have h4 : pairK k = false := by unfold pairK; simp; omega
  have h5 : (k == 6) = false := by simp; omega
  have h6 : planK k = false := decide_eq_false (by omega)
  have h7 : undoK k = false := by unfold undoK; simp; omega
  rw [kC, h1, h2, h3, h4, h5, h6, h7]
/-- What a kind has lies in memory. -/
def Laid19 (w : World) : Prop := 1 < w.heap.size ∧ ∀ i : Nat, i < 11 → w.cell? ⟨1, i * 7, none⟩ = some (.bool (slotK (i : Int))) ∧ w.cell? ⟨1, i * 7 + 1, none⟩ = some (.bool ((i : Int) == 4)) ∧
  w.cell? ⟨1, i * 7 + 2, none⟩ = some (.bool (kindK (i : Int))) ∧ w.cell? ⟨1, i * 7 + 3, none⟩ = some (.bool (pairK (i : Int))) ∧ w.cell? ⟨1, i * 7 + 4, none⟩ = some (.bool ((i : Int) == 6)) ∧
  w.cell? ⟨1, i * 7 + 5, none⟩ = some (.bool (planK (i : Int))) ∧ w.cell? ⟨1, i * 7 + 6, none⟩ = some (.bool (undoK (i : Int)))
theorem Laid19.below {w w' : World} {n : Nat} (h : Laid19 w) (hb : Below n w w') (hn : 1 < n) : Laid19 w' :=
  ⟨Nat.lt_of_lt_of_le h.1 hb.size, fun i hi => ⟨(hb.cell (p := ⟨1, i * 7, none⟩) hn).trans (h.2 i hi).1, (hb.cell (p := ⟨1, i * 7 + 1, none⟩) hn).trans (h.2 i hi).2.1, (hb.cell (p := ⟨1, i * 7 + 2, none⟩) hn).trans (h.2 i hi).2.2.1,
    (hb.cell (p := ⟨1, i * 7 + 3, none⟩) hn).trans (h.2 i hi).2.2.2.1, (hb.cell (p := ⟨1, i * 7 + 4, none⟩) hn).trans (h.2 i hi).2.2.2.2.1, (hb.cell (p := ⟨1, i * 7 + 5, none⟩) hn).trans (h.2 i hi).2.2.2.2.2.1, (hb.cell (p := ⟨1, i * 7 + 6, none⟩) hn).trans (h.2 i hi).2.2.2.2.2.2⟩⟩
theorem Laid19.next {w w' : World} (h : Laid19 w) (hb : Below w.heap.size w w') : Laid19 w' := h.below hb h.1
theorem Laid19.into {w w' : World} {n : Nat} (h : Laid19 w) (hb : Below n w w') (hn : w.heap.size ≤ n) : Laid19 w' := h.below hb (Nat.lt_of_lt_of_le h.1 hn)
theorem Blk.sevens {W : World} {B : Nat} {t : TypeId} {a b c d e f g : Value} (h : Blk W B t #[a, b, c, d, e, f, g]) :
    W.cell? ⟨B, 0, none⟩ = some a ∧ W.cell? ⟨B, 1, none⟩ = some b ∧ W.cell? ⟨B, 2, none⟩ = some c ∧ W.cell? ⟨B, 3, none⟩ = some d ∧ W.cell? ⟨B, 4, none⟩ = some e ∧ W.cell? ⟨B, 5, none⟩ = some f ∧ W.cell? ⟨B, 6, none⟩ = some g :=
  ⟨(h.cell 0).trans rfl, (h.cell 1).trans rfl, (h.cell 2).trans rfl, (h.cell 3).trans rfl, (h.cell 4).trans rfl, (h.cell 5).trans rfl, (h.cell 6).trans rfl⟩
set_option maxHeartbeats 2000000 in
theorem Blk.putSevens {W : World} {B : Nat} {t : TypeId} {a b c d e f g : Value} (h : Blk W B t #[a, b, c, d, e, f, g]) (p q r s u v x : Value) :
    ∃ W', ((((((W.setCell ⟨B, 0, none⟩ p).setCell ⟨B, 1, none⟩ q).setCell ⟨B, 2, none⟩ r).setCell ⟨B, 3, none⟩ s).setCell ⟨B, 4, none⟩ u).setCell ⟨B, 5, none⟩ v).setCell ⟨B, 6, none⟩ x = W' ∧ Blk W' B t #[p, q, r, s, u, v, x] ∧ W.grownBy W' (some B) := by
  have h0 := h.set 0 p
  have h1 := h0.set 1 q
  have h2 := h1.set 2 r
  have h3 := h2.set 3 s
  have h4 := h3.set 4 u
  have h5 := h4.set 5 v
  have h6 := h5.set 6 x
  have g0 := (grownBy_set W B 0 p).trans (grownBy_set _ B 1 q)
  have g1 := (g0.trans (grownBy_set _ B 2 r)).trans (grownBy_set _ B 3 s)
  have g2 := (g1.trans (grownBy_set _ B 4 u)).trans (grownBy_set _ B 5 v)
  exact ⟨_, rfl, h6, g2.trans (grownBy_set _ B 6 x)⟩
theorem grown_below19 {n : Nat} {w0 W W' : World} {B : Nat} (h : Below n w0 W) (hg : W.grownBy W' (some B)) (hn : n ≤ w0.heap.size) (hB : n ≤ B) : Below n w0 W' := h.grown hg (Nat.le_trans hn h.size) (fun k hk => by cases hk; exact hB)

set_option maxRecDepth 100000 in
theorem kindOf19_any (k n : Int) (A B D : List UInt8) (w : World) (hL : Laid19 w) :
    Calls Tryz.prog 48 #[.agg (opC ⟨k, n, A, B, D⟩)] w fun e w' => e = .returned (.tuple #[.agg (kC k), .bool (kindK k)]) ∧ Below w.heap.size w w' := by
  have bO := (Blk.new w 23 (opC ⟨k, n, A, B, D⟩)).alloc (.cells kZ 82)
  have bR := Blk.new (w.alloc (.cells (opC ⟨k, n, A, B, D⟩) 23)) 82 kZ
  rw [World.size_alloc] at bR
  have hB : Below w.heap.size w ((w.alloc (.cells (opC ⟨k, n, A, B, D⟩) 23)).alloc (.cells kZ 82)) := ((Below.refl _ w).alloc (Nat.le_refl _) _).alloc (by simp) _
  have hT := hL.next hB
  clear hL
  go_enter Tryz.func48, Tryz.ntmps48
  go_upto_region 1 with fail
  generalize hW0 : (w.alloc (.cells (opC ⟨k, n, A, B, D⟩) 23)).alloc (.cells kZ 82) = W0 at *
  clear hW0
  obtain ⟨p0, p1, p2, p3, p4⟩ := bO.five
  obtain ⟨r0, r1, r2, r3, r4, r5, r6⟩ := bR.sevens
  have e0 := bR.frozen 0
  have e1 := bR.frozen 1
  have e2 := bR.frozen 2
  have e3 := bR.frozen 3
  have e4 := bR.frozen 4
  have e5 := bR.frozen 5
  have e6 := bR.frozen 6
  dsimp only at p0 p1 p2 p3 p4
  clear bO
  by_cases h : 1 ≤ k ∧ k ≤ 10
  · have HK : Hid (kindK k = true) := Lib.hid (decide_eq_true h)
    obtain ⟨m, rfl⟩ : ∃ m : Nat, k = m := ⟨k.toNat, by omega⟩
    obtain ⟨t0, t1, t2, t3, t4, t5, t6⟩ := hT.2 m (by omega)
    clear hT
    have k1 : 1 ≤ m := by omega
    have k2 : m ≤ 10 := by omega
    obtain ⟨b0, h0⟩ : ∃ b, slotK (m : Int) = b := ⟨_, rfl⟩
    obtain ⟨b1, h1⟩ : ∃ b, ((m : Int) == 4) = b := ⟨_, rfl⟩
    obtain ⟨b3, h3⟩ : ∃ b, pairK (m : Int) = b := ⟨_, rfl⟩
    obtain ⟨b4, h4⟩ : ∃ b, ((m : Int) == 6) = b := ⟨_, rfl⟩
    obtain ⟨b5, h5⟩ : ∃ b, planK (m : Int) = b := ⟨_, rfl⟩
    obtain ⟨b6, h6⟩ : ∃ b, undoK (m : Int) = b := ⟨_, rfl⟩
    rw [h0] at t0
    rw [h1] at t1
    rw [HK.out] at t2
    rw [h3] at t3
    rw [h4] at t4
    rw [h5] at t5
    rw [h6] at t6
    have HC : Hid (kC (m : Int) = #[.bool b0, .bool b1, .bool true, .bool b3, .bool b4, .bool b5, .bool b6]) := Lib.hid (by rw [kC, h0, h1, HK.out, h3, h4, h5, h6])
    clear h0 h1 h3 h4 h5 h6
    obtain ⟨W', hW', hb7, hg7⟩ := bR.putSevens (.bool b0) (.bool b1) (.bool true) (.bool b3) (.bool b4) (.bool b5) (.bool b6)
    have hbl := grown_below19 hB hg7 (Nat.le_refl _) (by omega)
    clear h
    go_wp2
    obtain ⟨y0, y1, y2, y3, y4, y5, y6⟩ := hb7.sevens
    refine bodyPost_ret (v := .tuple #[.agg #[.bool b0, .bool b1, .bool true, .bool b3, .bool b4, .bool b5, .bool b6], .bool true]) (by simp [results, Tryz.f48, go_sem, y0, y1, y2, y3, y4, y5, y6]) rfl ?_
    exact ⟨by rw [HK.out, HC.out], hbl⟩
  · have HK : Hid (kindK k = false) := Lib.hid (decide_eq_false h)
    have HC := Lib.hid (kC_not h)
    obtain ⟨W', hW', hb7, hg7⟩ := bR.putSevens (.bool false) (.bool false) (.bool false) (.bool false) (.bool false) (.bool false) (.bool false)
    have hbl := grown_below19 hB hg7 (Nat.le_refl _) (by omega)
    clear hT
    by_cases h1 : k < 1
    · clear h
      go_wp2
      obtain ⟨y0, y1, y2, y3, y4, y5, y6⟩ := hb7.sevens
      refine bodyPost_ret (v := .tuple #[.agg kZ, .bool false]) (by simp [results, Tryz.f48, go_sem, y0, y1, y2, y3, y4, y5, y6]) rfl ?_
      exact ⟨by rw [HK.out, HC.out], hbl⟩
    · have h2 : 10 < k := by omega
      clear h
      go_wp2
      obtain ⟨y0, y1, y2, y3, y4, y5, y6⟩ := hb7.sevens
      refine bodyPost_ret (v := .tuple #[.agg kZ, .bool false]) (by simp [results, Tryz.f48, go_sem, y0, y1, y2, y3, y4, y5, y6]) rfl ?_
      exact ⟨by rw [HK.out, HC.out], hbl⟩

theorem isSlot19_any (n : Int) (w : World) : Calls Tryz.prog 50 #[.int .i64 n] w fun e w' => e = .returned (.bool (decide (1 ≤ n ∧ n ≤ 1073741824))) ∧ Below w.heap.size w w' := by
  by_cases h1 : 1 ≤ n
  · by_cases h2 : n ≤ 1073741824
    · have HN := Lib.hid (decide_eq_true (And.intro h1 h2))
      go_enter Tryz.func50, Tryz.ntmps50
      go_wp2
      go_ret
      exact ⟨ret_bool (by first | rfl | (simp <;> omega)), Below.refl _ _⟩
    · have HN : Hid (decide (1 ≤ n ∧ n ≤ 1073741824) = false) := Lib.hid (decide_eq_false (fun h => h2 h.2))
      go_enter Tryz.func50, Tryz.ntmps50
      go_wp2
      go_ret
      exact ⟨ret_bool (by first | rfl | (simp <;> omega)), Below.refl _ _⟩
  · have HN : Hid (decide (1 ≤ n ∧ n ≤ 1073741824) = false) := Lib.hid (decide_eq_false (fun h => h1 h.1))
    go_enter Tryz.func50, Tryz.ntmps50
    go_wp2
    go_ret
    exact ⟨ret_bool (by first | rfl | (simp <;> omega)), Below.refl _ _⟩

theorem IndexByte19_any (s : List UInt8) (w : World) :
    Calls Tryz.prog 78 #[.string ⟨s.toArray⟩, .int .u8 0] w fun e w' => e = .returned (.int .i64 (Lib.indexByte s 0)) ∧ w' = w := by
  have := Tryz.strings_IndexByte ⟨s.toArray⟩ 0 w
  exact this
theorem index0_19 (s : List UInt8) : decide (Lib.indexByte s 0 < 0) = s.all (fun c => !(c == 0)) := by
  rw [Bool.eq_iff_iff, decide_eq_true_eq, List.all_eq_true]
  constructor
  · intro h c hc
    obtain ⟨k, hk⟩ := List.mem_iff_getElem?.1 hc
    rw [Bool.not_eq_true', beq_eq_false_iff_ne]
    rintro rfl
    have hge := Lib.indexByte_ge s 0
    exact absurd hk (Lib.indexByte_none (by omega) k)
  · intro h
    rcases Int.lt_or_le (Lib.indexByte s 0) 0 with h2 | h2
    · exact h2
    · have := h 0 (List.mem_of_getElem? (Lib.indexByte_some (l := s) (c := 0) (o := (Lib.indexByte s 0).toNat) (by omega)).1)
      simp at this
theorem target_eq19 (s : List UInt8) : targetB s = (!(s == []) && (decide (s.length ≤ 4095) && s.all (fun c => !(c == 0)))) := by
  unfold targetB
  cases s with
  | nil => rfl
  | cons c t =>
    rw [show decide (1 ≤ (c :: t).length) = true from decide_eq_true (by simp), show ((c :: t) == ([] : List UInt8)) = false from rfl]
    simp only [Bool.true_and, Bool.not_false, Bool.and_comm]
theorem isTarget19_any (s : List UInt8) (w : World) (hl : s.length ≤ 1000000) : Calls Tryz.prog 52 #[.string ⟨s.toArray⟩] w fun e w' => e = .returned (.bool (targetB s)) ∧ Below w.heap.size w w' := by
  have HT := Lib.hid (target_eq19 s)
  cases h0 : (s == [])
  · have h0e : s.isEmpty = false := by cases s <;> simp_all
    by_cases h1 : s.length ≤ 4095
    · have HI := Lib.hid (index0_19 s)
      have hX := fun W => IndexByte19_any s W
      generalize Lib.indexByte s 0 = ix at *
      have h1' := Lib.hid (decide_eq_true h1)
      have h0' := Lib.hid h0
      go_enter Tryz.func52, Tryz.ntmps52
      go_wp2_with fail
      refine (hX _).mono ?_
      rintro e w2 ⟨rfl, rfl⟩
      go_wp2
      go_ret
      exact ⟨ret_bool (by rw [HT.out, h0'.out, h1'.out, ← HI.out]; rfl), Below.refl _ _⟩
    · have HN : Hid (targetB s = false) := Lib.hid (by rw [HT.out, decide_eq_false h1]; simp)
      go_enter Tryz.func52, Tryz.ntmps52
      go_wp2
      go_ret
      exact ⟨ret_bool (by rw [HN.out]), Below.refl _ _⟩
  · have h0e : s.isEmpty = true := by cases s <;> simp_all
    have HN : Hid (targetB s = false) := Lib.hid (by rw [HT.out, h0]; rfl)
    go_enter Tryz.func52, Tryz.ntmps52
    go_wp2
    go_ret
    exact ⟨ret_bool (by rw [HN.out]), Below.refl _ _⟩

theorem place_eq19 (p : List UInt8) : placeB p = ((plainB p).isSome && !(p == [47])) := by
  unfold placeB
  cases h : plainB p with
  | none => rfl
  | some ns =>
    obtain ⟨h1, h2, _⟩ := plainB_yes h
    subst h1
    simp only [Option.isSome_some, Option.getD_some, Bool.true_and]
    cases ns with
    | nil => rfl
    | cons n r =>
      have hn := (h2 n (by simp)).2
      cases n with
      | nil => exact absurd rfl hn
      | cons c t => simp [joinB, interB]
theorem under_place19 {p q : List UInt8} (hp : placeB p = true) (hq : placeB q = true) : liesB p q = underN p q := by
  rw [place_eq19, Bool.and_eq_true] at hp hq
  obtain ⟨a, ha⟩ := Option.isSome_iff_exists.1 hp.1
  obtain ⟨b, hb⟩ := Option.isSome_iff_exists.1 hq.1
  obtain ⟨a1, a2, a3⟩ := plainB_yes ha
  obtain ⟨b1, b2, b3⟩ := plainB_yes hb
  unfold underN
  rw [a3, b3, ← under_prefix a2 b2, a1, b1]
theorem isPath19_any (p : List UInt8) (w : World) (hp : p.length ≤ 100000) : Calls Tryz.prog 53 #[.string ⟨p.toArray⟩] w fun e w' => e = .returned (.bool (placeB p)) ∧ Below w.heap.size w w' := by
  have HT := Lib.hid (place_eq19 p)
  have hP := Plain_any p w hp
  cases hb : (plainB p).isSome
  · have HN : Hid (placeB p = false) := Lib.hid (by rw [HT.out, hb]; rfl)
    go_enter Tryz.func53, Tryz.ntmps53
    go_wp2_with fail
    refine hP.mono ?_
    rintro e w1 ⟨v, rfl, hs, b1⟩
    rw [hb]
    obtain ⟨a, ca, rfl, _, _⟩ := hs
    clear hP hb
    go_wp2
    go_ret
    exact ⟨ret_bool (by rw [HN.out]), b1⟩
  · cases hr : (p == [47])
    · have HN : Hid (placeB p = true) := Lib.hid (by rw [HT.out, hb, hr]; rfl)
      go_enter Tryz.func53, Tryz.ntmps53
      go_wp2_with fail
      refine hP.mono ?_
      rintro e w1 ⟨v, rfl, hs, b1⟩
      rw [hb]
      obtain ⟨a, ca, rfl, _, _⟩ := hs
      clear hP hb
      go_wp2
      go_ret
      exact ⟨ret_bool (by rw [HN.out]), b1⟩
    · have HN : Hid (placeB p = false) := Lib.hid (by rw [HT.out, hb, hr]; rfl)
      go_enter Tryz.func53, Tryz.ntmps53
      go_wp2_with fail
      refine hP.mono ?_
      rintro e w1 ⟨v, rfl, hs, b1⟩
      rw [hb]
      obtain ⟨a, ca, rfl, _, _⟩ := hs
      clear hP hb
      go_wp2
      go_ret
      exact ⟨ret_bool (by rw [HN.out]), b1⟩

theorem fitsI_any (b : Bool) (n : Int) (w : World) :
    Calls Tryz.prog 49 #[.bool b, .int .i64 n, .func (.func 50) #[] #[]] w fun e w' => e = .returned (.bool (if b = true then decide (1 ≤ n ∧ n ≤ 1073741824) else n == 0)) ∧ Below w.heap.size w w' := by
  cases b
  · go_enter Tryz.func49, Tryz.ntmps49
    go_wp2
    go_ret
    exact ⟨rfl, Below.refl _ _⟩
  · go_enter Tryz.func49, Tryz.ntmps49
    go_wp2_with fail; refine (isSlot19_any n _).mono ?_; rintro e w1 ⟨rfl, b1⟩
    go_wp2
    go_ret
    exact ⟨rfl, b1⟩
theorem fitsT_any (b : Bool) (s : List UInt8) (w : World) (hl : s.length ≤ 1000000) :
    Calls Tryz.prog 51 #[.bool b, .string ⟨s.toArray⟩, .func (.func 52) #[] #[]] w fun e w' => e = .returned (.bool (if b = true then targetB s else s == [])) ∧ Below w.heap.size w w' := by
  cases b
  · cases h0 : (s == [])
    · have h0e : s.isEmpty = false := by cases s <;> simp_all
      go_enter Tryz.func51, Tryz.ntmps51
      go_wp2
      go_ret
      exact ⟨ret_bool (by simp), Below.refl _ _⟩
    · have h0e : s.isEmpty = true := by cases s <;> simp_all
      go_enter Tryz.func51, Tryz.ntmps51
      go_wp2
      go_ret
      exact ⟨ret_bool (by simp), Below.refl _ _⟩
  · go_enter Tryz.func51, Tryz.ntmps51
    go_wp2_with fail; refine (isTarget19_any s _ hl).mono ?_; rintro e w1 ⟨rfl, b1⟩
    go_wp2
    go_ret
    exact ⟨rfl, b1⟩
theorem fitsP_any (b : Bool) (s : List UInt8) (w : World) (hl : s.length ≤ 100000) :
    Calls Tryz.prog 51 #[.bool b, .string ⟨s.toArray⟩, .func (.func 53) #[] #[]] w fun e w' => e = .returned (.bool (if b = true then placeB s else s == [])) ∧ Below w.heap.size w w' := by
  cases b
  · cases h0 : (s == [])
    · have h0e : s.isEmpty = false := by cases s <;> simp_all
      go_enter Tryz.func51, Tryz.ntmps51
      go_wp2
      go_ret
      exact ⟨ret_bool (by simp), Below.refl _ _⟩
    · have h0e : s.isEmpty = true := by cases s <;> simp_all
      go_enter Tryz.func51, Tryz.ntmps51
      go_wp2
      go_ret
      exact ⟨ret_bool (by simp), Below.refl _ _⟩
  · go_enter Tryz.func51, Tryz.ntmps51
    go_wp2_with fail; refine (isPath19_any s _ hl).mono ?_; rintro e w1 ⟨rfl, b1⟩
    go_wp2
    go_ret
    exact ⟨rfl, b1⟩
end Go.Proofs.YtolbhjjcabiabaaGreatDoor
