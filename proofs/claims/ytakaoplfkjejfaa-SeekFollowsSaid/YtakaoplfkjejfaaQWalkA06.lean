/- Walks: package room, and the document's room. -/
import Derived.Test.YtakaoplfkjejfaaQWalkD05
import Derived.Test.YtakaoplfkjejfaaQ
import Derived.BigQuiet
import Derived.Deep.RegionHeld3
namespace Go.Proofs.Ytakaoplfkjejfaa
open Go.RowKit

set_option maxHeartbeats 2000000 in
theorem refBytes_any (mi mb nx : Int) (l : List Nd) (v : Value) (w : World) (hv : Nds w v l) (hl : l.length ≤ 1000000) (hs : bytesN l ≤ 1099511627776) :
    Calls Try.prog 53 #[.agg (fsC mi mb nx v)] w fun e w' => e = .returned (.int .i64 (bytesN l : Int)) ∧ Below w.heap.size w w' := by
  obtain ⟨a, ca, rfl, hc, hm, hea, hna, HA0⟩ := id hv
  unfold maxLen at hm
  have HA := Lib.hid HA0
  have HE := Lib.hid hea
  clear HA0 hea hv
  have b0 := Blk.new w 24 (fsC mi mb nx (.slice a l.length ca))
  have hB0 := alloc_below w (.cells (fsC mi mb nx (.slice a l.length ca)) 24)
  go_enter Try.func53, Try.ntmps53
  go_wp2
  go_loopw [3, 4] (fun s3 s4 wr => ∃ k : Nat, k ≤ l.length ∧ s4 = .int .i64 k ∧ s3 = .int .i64 (bytesN (l.take k) : Int) ∧ wr = w.alloc (.cells (fsC mi mb nx (.slice a l.length ca)) 24)) (fun _ s4 _ => l.length - (intOf s4).toNat)
  case atStart => exact ⟨0, Nat.zero_le _, rfl, rfl, rfl⟩
  case round =>
    obtain ⟨k, hk, rfl, rfl, rfl⟩ := hrel
    have p3 := b0.four.1.2.2.2
    generalize w.alloc (.cells (fsC mi mb nx (.slice a l.length ca)) 24) = wr at *
    by_cases hlt : k < l.length
    · obtain ⟨b, o, rfl, hb, hcl⟩ := HA.out (by omega)
      obtain ⟨c0, c1, c2, c3, c4, c5⟩ := (hcl k hlt).below hB0 hb
      clear hcl
      have hnx := bytesN_next hlt
      have hle := bytesN_take l (k + 1)
      generalize l[k] = y at *
      generalize hT : bytesN (l.take (k + 1)) = T at *
      have HT := Lib.hid hT
      generalize bytesN (l.take k) = U at *
      have k0 : (0 : Int) ≤ (k : Int) := by omega
      have k1 : (k : Int) < (l.length : Int) := by omega
      obtain ⟨yi, yk, yl, yd, yp, ye, yn⟩ := y
      dsimp only at c0 c1 c2 c3 c4 c5
      clear hT
      cases h : (yk == 1)
      · have HC := Lib.hid (costN_no (x := ⟨yi, yk, yl, yd, yp, ye, yn⟩) (by simpa using h))
        rw [HC.out] at hnx
        go_wp2
        go_roundw
        case rel => exact ⟨k + 1, by omega, by go_num, by rw [HT.out, hnx]; go_num, trivial⟩
        case measure => simp [intOf]; omega
      · have HC := Lib.hid (costN_yes (x := ⟨yi, yk, yl, yd, yp, ye, yn⟩) (by simpa using h))
        rw [HC.out] at hnx
        dsimp only at hnx
        go_wp2
        go_roundw
        case rel => exact ⟨k + 1, by omega, by go_num, by rw [HT.out, hnx]; go_num, trivial⟩
        case measure => simp [intOf]; omega
    · obtain rfl : k = l.length := by omega
      have HN := Lib.hid (bytesN_end l)
      go_wp2
      go_ret
      exact ⟨by rw [HN.out]; rfl, hB0⟩

set_option maxHeartbeats 2000000 in
theorem refFits_any (mi mb nx i b : Int) (l : List Nd) (v : Value) (w : World) (hv : Nds w v l) (hl : l.length ≤ 1000000) (hs : bytesN l ≤ 1099511627776) (hi : -1099511627776 ≤ i ∧ i ≤ 1099511627776) (hb : -1099511627776 ≤ b ∧ b ≤ 1099511627776) :
    Calls Try.prog 35 #[.agg (fsC mi mb nx v), .int .i64 i, .int .i64 b] w fun e w' => e = .returned (.bool (fitsB mi mb l i b)) ∧ Below w.heap.size w w' := by
  obtain ⟨a, ca, rfl⟩ := nds_slice hv
  have b0 := Blk.new w 24 (fsC mi mb nx (.slice a l.length ca))
  have hB0 := alloc_below w (.cells (fsC mi mb nx (.slice a l.length ca)) 24)
  have nV := hv.below hB0
  clear hv
  obtain ⟨p0, p1, p2, p3⟩ := b0.four.1
  have n1 : IntKind.i64.wrap ((l.length : Int) + i) = (l.length : Int) + i := by rw [IntKind.wrap_i64]; omega
  have n2 : IntKind.i64.wrap ((bytesN l : Int) + b) = (bytesN l : Int) + b := by rw [IntKind.wrap_i64]; omega
  go_enter Try.func35, Try.ntmps35
  by_cases h1 : (l.length : Int) + i ≤ mi
  · have HF : Hid (fitsB mi mb l i b = decide ((bytesN l : Int) + b ≤ mb)) := by (show _ = _); unfold fitsB; rw [decide_eq_true h1, Bool.true_and]
    have h2 : ¬ ((l.length : Int) + i > mi) := by omega
    go_upto_region 3 with fail
    generalize hw1 : w.alloc (.cells (fsC mi mb nx (.slice a l.length ca)) 24) = w1 at *
    have HMK : ∀ W, Below w1.heap.size w1 W → (W.cell? ⟨w.heap.size, 0, none⟩ = some (.int .i64 mi) ∧ W.cell? ⟨w.heap.size, 1, none⟩ = some (.int .i64 mb) ∧ W.cell? ⟨w.heap.size, 2, none⟩ = some (.int .i64 nx) ∧ W.cell? ⟨w.heap.size, 3, none⟩ = some (.slice a l.length ca)) := by
      intro W h
      exact (b0.next h).four.1
    have hq := (Below.refl w1.heap.size w1).drew
    clear b0 p0 p1 p2 p3 hw1
    go_region_held3 (fun W => W.cell? ⟨w.heap.size, 0, none⟩ = some (.int .i64 mi) ∧ W.cell? ⟨w.heap.size, 1, none⟩ = some (.int .i64 mb) ∧ W.cell? ⟨w.heap.size, 2, none⟩ = some (.int .i64 nx) ∧ W.cell? ⟨w.heap.size, 3, none⟩ = some (.slice a l.length ca))
      (exact HMK _ hq)
      (first
        | (go_at_call 53; refine (refBytes_any mi mb nx l _ _ (nV.below hq) hl hs).mono ?_; rintro e wz ⟨rfl, bz⟩; have hq := hq.trans (bz.mono hq.size)))
    all_goals go_wp2
    all_goals go_ret
    all_goals exact ⟨ret_bool (by rw [HF.out]), hB0.trans (hq.mono hB0.size)⟩
  · have HF : Hid (fitsB mi mb l i b = false) := by (show _ = _); unfold fitsB; rw [decide_eq_false h1, Bool.false_and]
    have h2 : (l.length : Int) + i > mi := by omega
    go_wp2
    go_ret
    exact ⟨ret_bool (by rw [HF.out]), hB0⟩

def withinB (n : Int) : Bool := decide (-1099511627776 ≤ n) && decide (n ≤ 1099511627776)
end Go.Proofs.Ytakaoplfkjejfaa
