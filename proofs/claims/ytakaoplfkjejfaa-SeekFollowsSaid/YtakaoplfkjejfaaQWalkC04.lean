/- Walks: the search for a name, by halves. -/
import Derived.Test.YtakaoplfkjejfaaQ
import Derived.Test.YtakaoplfkjejfaaChecked
import Derived.Shelf.SlSortCmp.Kit1
import Derived.Deep.LoopGhost
namespace Go.Proofs.Ytakaoplfkjejfaa
open Go.RowKit

theorem hold_any (e : Ent) (n : List UInt8) (w : World) :
    Calls Try.prog 73 #[.agg (entC e), .string ⟨n.toArray⟩] w fun x w' => x = .returned (.int .i64 (Lib.compareBytes e.1 n)) ∧ Below w.heap.size w w' := by
  go_enter Try.func73, Try.ntmps73
  have hb : Below w.heap.size w (w.alloc (.cells (entC e) 50)) := (Below.refl _ w).alloc (Nat.le_refl _) _
  go_wp2_with fail; refine (Try.strings_Compare _ _ _).mono ?_; rintro e w' ⟨rfl, rfl⟩
  go_wp2
  go_ret
  exact ⟨rfl, hb⟩

set_option maxHeartbeats 2000000 in
theorem halves_any (l : List Ent) (n : List UInt8) (v : Value) (w : World) (hv : Ents w v l) (hs : sortP l) (hl : l.length ≤ 1000000) :
    Calls Try.prog 72 #[v, .string ⟨n.toArray⟩, .func (.func 73) #[] #[]] w fun e w' =>
      ∃ lo : Nat, e = .returned (.tuple #[.int .i64 lo, .bool (hasB l n)]) ∧ SrchP l n lo ∧ Below w.heap.size w w' := by
  obtain ⟨a, ca, rfl, hc, hm, HA0⟩ := hv
  unfold maxLen at hm
  have HA := Lib.hid HA0
  have HS := Lib.hid hs
  clear HA0 hs
  go_enter Try.func72, Try.ntmps72
  go_wp2
  go_loopg [9, 10] l.length (fun g s9 s10 wr => ∃ lo hi : Nat, s9 = .int .i64 lo ∧ s10 = .int .i64 hi ∧ lo ≤ hi ∧ hi ≤ l.length ∧ hi - lo ≤ g ∧ Below w.heap.size w wr ∧
    Aside ((∀ t (ht : t < l.length), t < lo → ltB l[t].1 n = true) ∧ (∀ t (ht : t < l.length), hi ≤ t → ltB l[t].1 n = false)))
  case atStart => exact ⟨0, l.length, rfl, rfl, Nat.zero_le _, Nat.le_refl _, by omega, Below.refl _ _, ⟨fun t ht h => by omega, fun t ht h => by omega⟩⟩
  case round =>
    obtain ⟨lo, hi, rfl, rfl, hlh, hin, hg, hbw, I⟩ := hrel
    by_cases hlt : lo < hi
    · obtain ⟨b, o, rfl, hb, hcl⟩ := HA.out (by omega)
      have hmid : (lo + hi) / 2 < l.length := by omega
      have c1 : wr.cell? ⟨b, o + (lo + hi) / 2 * 2, none⟩ = some (.string ⟨l[(lo + hi) / 2].1.toArray⟩) := (hbw.cell (p := ⟨b, o + (lo + hi) / 2 * 2, none⟩) hb).trans (hcl _ hmid).1
      have c2 : wr.cell? ⟨b, o + (lo + hi) / 2 * 2 + 1, none⟩ = some (.int .i64 l[(lo + hi) / 2].2) := (hbw.cell (p := ⟨b, o + (lo + hi) / 2 * 2 + 1, none⟩) hb).trans (hcl _ hmid).2
      clear hcl
      generalize hy : l[(lo + hi) / 2] = y at c1 c2
      have Y := Lib.hid hy
      clear hy
      have CM := Lib.hid (cmp_lt y.1 n)
      go_wp2_with fail
      refine (hold_any y n _).mono ?_
      rintro e w2 ⟨rfl, b2⟩
      replace hbw := hbw.trans (b2.mono hbw.size)
      cases hl1 : ltB y.1 n
      · have hcm : decide (Lib.compareBytes y.1 n < 0) = false := CM.out.trans hl1
        have I2 := Lib.hid (show (∀ t (ht : t < l.length), t < lo → ltB l[t].1 n = true) ∧ (∀ t (ht : t < l.length), (lo + hi) / 2 ≤ t → ltB l[t].1 n = false) from ⟨I.out.1, fun t ht h => by
          rw [Bool.eq_false_iff]; intro h2
          have := sort_upto HS.out ht h h2
          rw [Y.out, hl1] at this; cases this⟩)
        go_wp2
        go_roundg ((lo + hi) / 2 - lo)
        case measure => omega
        case rel => exact ⟨lo, (lo + hi) / 2, rfl, by rw [show ((lo : Int) + (hi : Int)) / 2 = (((lo + hi) / 2 : Nat) : Int) by omega], by omega, by omega, Nat.le_refl _, hbw, I2.out⟩
      · have hcm : decide (Lib.compareBytes y.1 n < 0) = true := CM.out.trans hl1
        have I2 := Lib.hid (show (∀ t (ht : t < l.length), t < (lo + hi) / 2 + 1 → ltB l[t].1 n = true) ∧ (∀ t (ht : t < l.length), hi ≤ t → ltB l[t].1 n = false) from ⟨fun t ht h => sort_upto HS.out hmid (by omega) (by rw [Y.out]; exact hl1), I.out.2⟩)
        go_wp2
        go_roundg (hi - ((lo + hi) / 2 + 1))
        case measure => omega
        case rel => exact ⟨(lo + hi) / 2 + 1, hi, by rw [show ((lo : Int) + (hi : Int)) / 2 + 1 = (((lo + hi) / 2 + 1 : Nat) : Int) by omega], rfl, by omega, hin, Nat.le_refl _, hbw, I2.out⟩
    · obtain rfl : hi = lo := by omega
      have SE := Lib.hid (srch_end HS.out hin I.out.1 I.out.2)
      by_cases hn : hi < l.length
      · obtain ⟨b, o, rfl, hb, hcl⟩ := HA.out (by omega)
        have c1 : wr.cell? ⟨b, o + hi * 2, none⟩ = some (.string ⟨l[hi].1.toArray⟩) := (hbw.cell (p := ⟨b, o + hi * 2, none⟩) hb).trans (hcl _ hn).1
        have c2 : wr.cell? ⟨b, o + hi * 2 + 1, none⟩ = some (.int .i64 l[hi].2) := (hbw.cell (p := ⟨b, o + hi * 2 + 1, none⟩) hb).trans (hcl _ hn).2
        clear hcl
        have SH : Hid (hasB l n = (l[hi].1 == n)) := by (show _ = _); rw [SE.out.2, dif_pos hn]
        generalize hy : l[hi] = y at c1 c2 SH
        clear hy
        have CM := Lib.hid (cmp_eq0 y.1 n)
        go_wp2_with fail
        refine (hold_any y n _).mono ?_
        rintro e w2 ⟨rfl, b2⟩
        replace hbw := hbw.trans (b2.mono hbw.size)
        go_wp2
        go_ret2
        exact ⟨hi, by rw [SH.out, ← CM.out]; rfl, SE.out.1, hbw⟩
      · have SH : Hid (hasB l n = false) := by (show _ = _); rw [SE.out.2, dif_neg hn]
        go_wp2
        go_ret2
        exact ⟨hi, by rw [SH.out]; rfl, SE.out.1, hbw⟩

theorem search_any (l : List Ent) (n : List UInt8) (v : Value) (w : World) (hv : Ents w v l) (hs : sortP l) (hl : l.length ≤ 1000000) :
    Calls Try.prog 67 #[v, .string ⟨n.toArray⟩] w fun e w' =>
      ∃ lo : Nat, e = .returned (.tuple #[.int .i64 lo, .bool (hasB l n)]) ∧ SrchP l n lo ∧ Below w.heap.size w w' := by
  obtain ⟨a, ca, rfl, hc, hm, HA0⟩ := id hv
  clear HA0
  go_enter Try.func67, Try.ntmps67
  go_wp2_with fail; refine (halves_any l n _ _ hv hs hl).mono ?_; rintro e w1 ⟨lo, rfl, hS, hb⟩
  go_wp2
  go_ret2
  exact ⟨lo, rfl, hS, hb⟩
end Go.Proofs.Ytakaoplfkjejfaa
