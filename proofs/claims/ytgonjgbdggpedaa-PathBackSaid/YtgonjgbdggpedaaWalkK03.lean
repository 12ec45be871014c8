/- Walks: the statements' own same, awake. -/
import Derived.Test.YtgonjgbdggpedaaWalkJ03
import Derived.Test.YtgonjgbdggpedaaWalkC03
import Derived.Test.YtgonjgbdggpedaaSame
import Derived.Test.YtgonjgbdggpedaaFew
import Derived.Laws.OwnMore
namespace Go.Proofs.Ytgonjgbdggpedaa
open Go.RowKit

theorem same_any (a1 s1 a2 s2 : Bool) (l1 l2 : List (List UInt8)) (v1 v2 : Value) (w : World) (h1 : Strs w v1 l1) (h2 : Strs w v2 l2) :
    Calls Try.prog 10 #[.agg (pathV a1 v1 s1), .agg (pathV a2 v2 s2)] w fun e w' => e = .returned (.bool (a1 == a2 && s1 == s2 && decide (l1 = l2))) ∧ Below w.heap.size w w' := by
  have hB0 : ∀ o1 o2, Below w.heap.size w ((w.alloc o1).alloc o2) := fun o1 o2 => ((Below.refl _ w).alloc (Nat.le_refl _) _).alloc (by simp) _
  have H1 := Lib.hid h1
  have H2 := Lib.hid h2
  obtain ⟨x1, c1, rfl, _, _⟩ := h1
  obtain ⟨x2, c2, rfl, _, _⟩ := h2
  cases ha : (a1 == a2)
  · go_enter Try.func10, Try.ntmps10
    go_wp2
    go_ret
    exact ⟨ret_bool rfl, hB0 _ _⟩
  · cases hs : (s1 == s2)
    · go_enter Try.func10, Try.ntmps10
      go_wp2
      go_ret
      exact ⟨ret_bool rfl, hB0 _ _⟩
    · go_enter Try.func10, Try.ntmps10
      go_wp2_with fail; refine (Same_any l1 l2 _ _ _ (H1.out.below (hB0 _ _)) (H2.out.below (hB0 _ _))).mono ?_; rintro e w1 ⟨rfl, b1⟩
      go_wp2
      go_ret
      exact ⟨ret_bool rfl, (hB0 _ _).trans (b1.mono (hB0 _ _).size)⟩

theorem aw_read (l : List UInt8) (a s : Bool) (ns : List (List UInt8)) (w : World) (hl : l.length ≤ 1000000) (h : (absB l, namesB l, slashB l) = (a, ns, s)) :
    Calls Try.prog 11 #[.string ⟨l.toArray⟩] w fun e w' => ∃ v, e = .returned (.agg (pathV a v s)) ∧ Strs w' v ns ∧ Below w.heap.size w w' := by
  refine (Read_any l hl w).mono ?_
  rintro e w' ⟨v, rfl, hown, hB⟩
  simp only [Prod.mk.injEq] at h
  obtain ⟨ha, hn, hs⟩ := h
  have hst := own_strs hown
  rw [hn] at hst
  rw [ha, hs]
  exact ⟨v, rfl, hst, hB⟩
theorem aw_plain (l : List UInt8) (ns : List (List UInt8)) (w : World) (hl : l.length ≤ 100000) (h : plainB l = some ns) :
    Calls Try.prog 24 #[.string ⟨l.toArray⟩] w fun e w' => ∃ v, e = .returned (.tuple #[v, .bool true]) ∧ Strs w' v ns ∧ Below w.heap.size w w' := by
  refine (Plain_any l w hl).mono ?_
  rintro e w' ⟨v, rfl, hs, hB⟩
  rw [h] at hs ⊢
  exact ⟨v, rfl, hs, hB⟩
theorem aw_plain_no (l : List UInt8) (w : World) (hl : l.length ≤ 100000) (h : plainB l = none) :
    Calls Try.prog 24 #[.string ⟨l.toArray⟩] w fun e w' => ∃ v, e = .returned (.tuple #[v, .bool false]) ∧ Strs w' v [] ∧ Below w.heap.size w w' := by
  refine (Plain_any l w hl).mono ?_
  rintro e w' ⟨v, rfl, hs, hB⟩
  rw [h] at hs ⊢
  exact ⟨v, rfl, hs, hB⟩
theorem aw_base (l x : List UInt8) (w : World) (hl : l.length ≤ 1000000) (h : baseB l = x) :
    Calls Try.prog 13 #[.string ⟨l.toArray⟩] w fun e w' => e = .returned (.string ⟨x.toArray⟩) ∧ Below w.heap.size w w' := by
  have := Base_any l hl w; rw [h] at this; exact this
theorem aw_may (l : List UInt8) (b : Bool) (w : World) (hl : l.length ≤ 1000000) (h : mayB l = b) :
    Calls Try.prog 20 #[.string ⟨l.toArray⟩] w fun e w' => e = .returned (.bool b) ∧ Below w.heap.size w w' := by
  have := May_any l w hl; rw [h] at this; exact this
theorem aw_long (l : List UInt8) (b : Bool) (w : World) (hl : l.length ≤ 1000000) (h : longB l = b) :
    Calls Try.prog 22 #[.string ⟨l.toArray⟩] w fun e w' => e = .returned (.bool b) ∧ Below w.heap.size w w' := by
  have := Long_any l hl w; rw [h] at this; exact this
theorem aw_under (p q : List UInt8) (b : Bool) (w : World) (hp : p.length ≤ 1000000) (hq : q.length ≤ 1000000) (h : underB p q = b) :
    Calls Try.prog 27 #[.string ⟨p.toArray⟩, .string ⟨q.toArray⟩] w fun e w' => e = .returned (.bool b) ∧ w = w' := by
  have := Under_any p q w hp hq; rw [h] at this; exact this

theorem made_zeros (n : Nat) : (madeCells (Value.int .u8 0).cells (n * 1)).toList = bytesV (List.replicate n 0) := by
  rw [Nat.mul_one, show (Value.int .u8 0).cells = #[.int .u8 0] from rfl, toList_madeCells_one]; simp [bytesV]
theorem zeros (n : Nat) (hn : n ≤ 1000000) (w : World) : ∃ w3, (Instr.makeSlice 36 (.int .i64 (n : Int)) (.int .i64 (n : Int))).run Try.prog w = .ok (.slice (some ⟨w.heap.size, 0, none⟩) n n) w3 ∧
    (convert 36 9 (.slice (some ⟨w.heap.size, 0, none⟩) n n)).run Try.prog w3 = .ok (.string ⟨(List.replicate n 0).toArray⟩) w3 ∧ Below w.heap.size w w3 := by
  obtain ⟨i0, hi, hz0, hz1, hz2⟩ := info_parts Try.infoByte
  obtain ⟨w3, hr, hown, hg⟩ := run_make_full (P := Try.prog) w w.heap.size 36 5 i0 (.int .u8 0) 1 Try.underlying36 hi hz0 hz1 .i64 .i64 n (by rw [hz2]; omega) (by unfold maxLen; omega) (Nat.le_refl _)
  rw [made_zeros] at hown
  exact ⟨w3, hr, run_own_string (P := Try.prog) (l := List.replicate n 0) 36 9 Try.underlying36 Try.underlying5 Try.underlying9 hown, (Below.refl w.heap.size w).grown hg (Nat.le_refl _) (fun k hk => by cases hk)⟩

set_option maxHeartbeats 4000000 in
set_option maxRecDepth 100000 in
theorem awake_any (w : World) : Calls Try.prog 9 #[] w fun e w' => e = .returned (.bool true) ∧ Below w.heap.size w w' := by
  go_enter Try.func9, Try.ntmps9
  go_wp2_with fail; refine (aw_read [47, 97, 47, 47, 98, 47] true true [[97], [98]] _ (by decide) (by decide +kernel)).mono ?_; rintro e w1 ⟨v, rfl, s1, h1⟩
  obtain ⟨ax, cx, rfl, mx, HX⟩ := s1
  have s1 : Strs w1 (.slice ax 2 cx) [[97], [98]] := ⟨ax, cx, rfl, mx, HX⟩
  clear HX mx
  have x1 := Blk.new w1 26 (pathV true (.slice ax 2 cx) true)
  have t1 : Below w1.heap.size w1 (w1.alloc (.cells (pathV true (.slice ax 2 cx) true) 26)) := (Below.refl _ w1).alloc (Nat.le_refl _) _
  replace s1 := s1.below t1
  replace h1 := h1.trans (t1.mono h1.size)
  clear t1
  go_wp2_with fail
  generalize w1.alloc (.cells (pathV true (.slice ax 2 cx) true) 26) = W at *
  refine (aw_plain [47, 97, 47, 98] [[97], [98]] _ (by decide) (by decide +kernel)).mono ?_
  rintro e W2 ⟨v, rfl, ⟨a2, c2, rfl, _, _⟩, b⟩
  replace s1 := s1.below b
  replace x1 := x1.next b
  replace h1 := h1.trans (b.mono h1.size)
  clear b
  go_wp2_with fail
  refine (aw_plain_no [47, 97, 47] _ (by decide) (by decide +kernel)).mono ?_
  rintro e W2 ⟨v, rfl, ⟨a3, c3, rfl, _, _⟩, b⟩
  replace s1 := s1.below b
  replace x1 := x1.next b
  replace h1 := h1.trans (b.mono h1.size)
  clear b
  go_wp2_with fail
  refine (aw_plain_no [47, 97, 47, 46, 46] _ (by decide) (by decide +kernel)).mono ?_
  rintro e W2 ⟨v, rfl, ⟨a4, c4, rfl, _, _⟩, b⟩
  replace s1 := s1.below b
  replace x1 := x1.next b
  replace h1 := h1.trans (b.mono h1.size)
  clear b
  go_wp2_with fail
  refine (aw_plain [47] [] _ (by decide) (by decide +kernel)).mono ?_
  rintro e W2 ⟨v, rfl, ⟨a5, c5, rfl, _, _⟩, b⟩
  replace s1 := s1.below b
  replace x1 := x1.next b
  replace h1 := h1.trans (b.mono h1.size)
  clear b
  have g0 := x1.cell 0
  have g1 := x1.cell 1
  have g2 := x1.cell 2
  simp [pathV] at g0 g1 g2
  go_wp2_with fail

  have bz : Below W2.heap.size W2 (W2.alloc (.cells #[.string ⟨#[97]⟩, .string ⟨#[98]⟩] 9)) := (Below.refl _ W2).alloc (Nat.le_refl _) _
  have sz : Strs (W2.alloc (.cells #[.string ⟨#[97]⟩, .string ⟨#[98]⟩] 9)) (.slice (some ⟨W2.heap.size, 0, none⟩) 2 2) [[97], [98]] := new_strs W2 _ _ [[97], [98]] 2 2 rfl rfl (by decide)
  replace s1 := s1.below bz
  replace x1 := x1.next bz
  replace h1 := h1.trans (bz.mono h1.size)
  clear bz g0 g1 g2
  refine (Same_any [[97], [98]] [[97], [98]] _ _ _ s1 sz).mono ?_
  rintro e W2 ⟨rfl, b⟩
  replace s1 := s1.below b
  replace x1 := x1.next b
  replace h1 := h1.trans (b.mono h1.size)
  clear b
  have g0 := x1.cell 0
  have g1 := x1.cell 1
  have g2 := x1.cell 2
  simp [pathV] at g0 g1 g2
  go_wp2_with fail
  refine (Put_any true true [[97], [98]] _ _ s1 (by decide) (by decide)).mono ?_
  rintro e W2 ⟨rfl, b⟩
  replace s1 := s1.below b
  replace x1 := x1.next b
  replace h1 := h1.trans (b.mono h1.size)
  clear b
  clear s1 x1 g0 g1 g2
  rw [show putB true [[97], [98]] true = [47, 97, 47, 98, 47] from by decide]
  go_wp2_with fail
  refine (aw_base [97, 47, 98, 47, 47] [98] _ (by decide) (by decide +kernel)).mono ?_
  rintro e W2 ⟨rfl, b⟩
  replace h1 := h1.trans (b.mono h1.size)
  clear b
  go_wp2_with fail
  refine (aw_base [47] [47] _ (by decide) (by decide +kernel)).mono ?_
  rintro e W2 ⟨rfl, b⟩
  replace h1 := h1.trans (b.mono h1.size)
  clear b
  go_wp2_with fail
  refine (aw_base [] [] _ (by decide) (by decide +kernel)).mono ?_
  rintro e W2 ⟨rfl, b⟩
  replace h1 := h1.trans (b.mono h1.size)
  clear b
  go_wp2_with fail
  refine (aw_may [97] true _ (by decide) (by decide +kernel)).mono ?_
  rintro e W2 ⟨rfl, b⟩
  replace h1 := h1.trans (b.mono h1.size)
  clear b
  go_wp2_with fail
  refine (aw_may [46, 46] false _ (by decide) (by decide +kernel)).mono ?_
  rintro e W2 ⟨rfl, b⟩
  replace h1 := h1.trans (b.mono h1.size)
  clear b
  obtain ⟨w3, hm, hcv, b⟩ := zeros 256 (by decide) W2
  replace h1 := h1.trans (b.mono h1.size)
  clear b
  simp only [Int.cast_ofNat_Int] at hm
  go_wp2_with fail
  clear hm hcv

  refine (aw_long (List.replicate 256 0) true _ (by decide) (by decide +kernel)).mono ?_
  rintro e W2 ⟨rfl, b⟩
  replace h1 := h1.trans (b.mono h1.size)
  clear b
  go_wp2_with fail
  refine (aw_long [97] false _ (by decide) (by decide +kernel)).mono ?_
  rintro e W2 ⟨rfl, b⟩
  replace h1 := h1.trans (b.mono h1.size)
  clear b
  go_wp2_with fail

  have bz : Below W2.heap.size W2 (W2.alloc (.cells #[.string ⟨#[97]⟩, .string ⟨#[98]⟩] 9)) := (Below.refl _ W2).alloc (Nat.le_refl _) _
  have sz2 : Strs (W2.alloc (.cells #[.string ⟨#[97]⟩, .string ⟨#[98]⟩] 9)) (.slice (some ⟨W2.heap.size, 0, none⟩) 2 2) [[97], [98]] := new_strs W2 _ _ [[97], [98]] 2 2 rfl rfl (by decide)
  replace h1 := h1.trans (bz.mono h1.size)
  clear bz
  refine (Join_any [[97], [98]] _ _ sz2 (by decide) (by decide)).mono ?_
  rintro e W2 ⟨rfl, b⟩
  replace h1 := h1.trans (b.mono h1.size)
  clear b
  rw [show joinB [[97], [98]] = [47, 97, 47, 98] from by decide]
  go_wp2_with fail
  refine (aw_under [47, 97, 47, 98] [47, 97] true _ (by decide) (by decide) (by decide +kernel)).mono ?_
  rintro e W2 ⟨rfl, rfl⟩
  go_wp2_with fail
  refine (aw_under [47, 97, 98] [47, 97] false _ (by decide) (by decide) (by decide +kernel)).mono ?_
  rintro e W2 ⟨rfl, rfl⟩
  go_wp2_with fail
  refine (aw_under [47, 97] [47] true _ (by decide) (by decide) (by decide +kernel)).mono ?_
  rintro e W2 ⟨rfl, rfl⟩
  go_wp2
  go_ret
  exact ⟨rfl, h1⟩
end Go.Proofs.Ytgonjgbdggpedaa
