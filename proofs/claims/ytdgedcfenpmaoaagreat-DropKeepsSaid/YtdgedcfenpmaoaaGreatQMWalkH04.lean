/- Texts put together: WalkC04, WalkD04, WalkF04, Short10, Bound11, Pure12b, Pure10c, Pure12c, LawBase05, WalkH04. -/
import Derived.Test.YtdgedcfenpmaoaaGreatQMDrop12
import Derived.Test.YtdgedcfenpmaoaaGreatChecked
import Derived.Test.YtdgedcfenpmaoaaGreatQMWalkD05
import Derived.Shelf.SlSortCmp.Kit1
import Derived.Deep.LoopGhost
import Derived.BigQuiet
import Derived.Test.YtdgedcfenpmaoaaGreatQMCut
import Derived.Test.YtdgedcfenpmaoaaGreatRows
import Derived.ProofKit
import Derived.OpenShut
import Derived.ShutString
import Derived.ChangeOld
import Derived.SizedLaws
import Derived.Deep.SlicePairs
import Derived.Lib.SmallJoins
import Derived.Laws.StructEq
set_option linter.unusedVariables false
set_option linter.unusedSimpArgs false
/- Walks: the search for a name, by halves. -/
set_option linter.unusedVariables false
set_option linter.unusedSimpArgs false
namespace Go.Proofs.YtdgedcfenpmaoaaGreat
open Go.RowKit

theorem hold_any (e : Ent) (n : List UInt8) (w : World) :
    Calls Tryz.prog 108 #[.agg (entC e), .string ⟨n.toArray⟩] w fun x w' => x = .returned (.int .i64 (Lib.compareBytes e.1 n)) ∧ Below w.heap.size w w' := by
  go_enter Tryz.func108, Tryz.ntmps108
  have hb : Below w.heap.size w (w.alloc (.cells (entC e) 75)) := (Below.refl _ w).alloc (Nat.le_refl _) _
  go_wp2_with fail; refine (Tryz.strings_Compare _ _ _).mono ?_; rintro e w' ⟨rfl, rfl⟩
  go_wp2
  go_ret
  exact ⟨rfl, hb⟩

set_option maxHeartbeats 2000000 in
theorem halves_any (l : List Ent) (n : List UInt8) (v : Value) (w : World) (hv : Ents w v l) (hs : sortP l) (hl : l.length ≤ 1000000) :
    Calls Tryz.prog 107 #[v, .string ⟨n.toArray⟩, .func (.func 108) #[] #[]] w fun e w' =>
      ∃ lo : Nat, e = .returned (.tuple #[.int .i64 lo, .bool (hasB l n)]) ∧ SrchP l n lo ∧ Below w.heap.size w w' := by
  obtain ⟨a, ca, rfl, hc, hm, HA0⟩ := hv
  unfold maxLen at hm
  have HA := Lib.hid HA0
  have HS := Lib.hid hs
  clear HA0 hs
  go_enter Tryz.func107, Tryz.ntmps107
  go_wp2
  go_loopg [9, 10] l.length (fun g s9 s10 wr => ∃ lo hi : Nat, s9 = .int .i64 lo ∧ s10 = .int .i64 hi ∧ lo ≤ hi ∧ hi ≤ l.length ∧ hi - lo ≤ g ∧ Below w.heap.size w wr ∧
    Aside ((∀ t (ht : t < l.length), t < lo → ltB l[t].1 n = true) ∧ (∀ t (ht : t < l.length), hi ≤ t → ltB l[t].1 n = false)))
  case atStart => exact ⟨0, l.length, rfl, rfl, Nat.zero_le _, Nat.le_refl _, by omega, Below.refl _ _, ⟨fun t ht h => by omega, fun t ht h => by omega⟩⟩
  case round =>
    obtain ⟨lo, hi, rfl, rfl, hlh, hin, hg, hbw, I⟩ := hrel
    by_cases hlt : lo < hi
    · obtain ⟨b, o, rfl, hb, hcl⟩ := HA.out (by omega)
      have hmid : (lo + hi) / 2 < l.length := by omega
      have c1 : wr.cell? ⟨b, o + (lo + hi) / 2 * 2, none⟩ = some (.string ⟨l[(lo + hi) / 2].1.toArray⟩) := (hbw.cell (p := ⟨b, o + (lo + hi) / 2 * 2, none⟩) hb).trans (hcl _ hmid).1
      have c2 : wr.cell? ⟨b, o + (lo + hi) / 2 * 2 + 1, none⟩ = some (.int .i64 l[(lo + hi) / 2].2) := (hbw.cell (p := ⟨b, o + (lo + hi) / 2 * 2 + 1, none⟩) hb).trans (hcl _ hmid).2
      clear hcl
      generalize hy : l[(lo + hi) / 2] = y at c1 c2
      have Y := Lib.hid hy
      clear hy
      have CM := Lib.hid (cmp_lt y.1 n)
      go_wp2_with fail
      refine (hold_any y n _).mono ?_
      rintro e w2 ⟨rfl, b2⟩
      replace hbw := hbw.trans (b2.mono hbw.size)
      cases hl1 : ltB y.1 n
      · have hcm : decide (Lib.compareBytes y.1 n < 0) = false := CM.out.trans hl1
        have I2 := Lib.hid (show (∀ t (ht : t < l.length), t < lo → ltB l[t].1 n = true) ∧ (∀ t (ht : t < l.length), (lo + hi) / 2 ≤ t → ltB l[t].1 n = false) from ⟨I.out.1, fun t ht h => by
          rw [Bool.eq_false_iff]; intro h2
          have := sort_upto HS.out ht h h2
          rw [Y.out, hl1] at this; cases this⟩)
        go_wp2
        go_roundg ((lo + hi) / 2 - lo)
        case measure => omega
        case rel => exact ⟨lo, (lo + hi) / 2, rfl, by rw [show ((lo : Int) + (hi : Int)) / 2 = (((lo + hi) / 2 : Nat) : Int) by omega], by omega, by omega, Nat.le_refl _, hbw, I2.out⟩
      · have hcm : decide (Lib.compareBytes y.1 n < 0) = true := CM.out.trans hl1
        have I2 := Lib.hid (show (∀ t (ht : t < l.length), t < (lo + hi) / 2 + 1 → ltB l[t].1 n = true) ∧ (∀ t (ht : t < l.length), hi ≤ t → ltB l[t].1 n = false) from ⟨fun t ht h => sort_upto HS.out hmid (by omega) (by rw [Y.out]; exact hl1), I.out.2⟩)
        go_wp2
        go_roundg (hi - ((lo + hi) / 2 + 1))
        case measure => omega
        case rel => exact ⟨(lo + hi) / 2 + 1, hi, by rw [show ((lo : Int) + (hi : Int)) / 2 + 1 = (((lo + hi) / 2 + 1 : Nat) : Int) by omega], rfl, by omega, hin, Nat.le_refl _, hbw, I2.out⟩
    · obtain rfl : hi = lo := by omega
      have SE := Lib.hid (srch_end HS.out hin I.out.1 I.out.2)
      by_cases hn : hi < l.length
      · obtain ⟨b, o, rfl, hb, hcl⟩ := HA.out (by omega)
        have c1 : wr.cell? ⟨b, o + hi * 2, none⟩ = some (.string ⟨l[hi].1.toArray⟩) := (hbw.cell (p := ⟨b, o + hi * 2, none⟩) hb).trans (hcl _ hn).1
        have c2 : wr.cell? ⟨b, o + hi * 2 + 1, none⟩ = some (.int .i64 l[hi].2) := (hbw.cell (p := ⟨b, o + hi * 2 + 1, none⟩) hb).trans (hcl _ hn).2
        clear hcl
        have SH : Hid (hasB l n = (l[hi].1 == n)) := by (show _ = _); rw [SE.out.2, dif_pos hn]
        generalize hy : l[hi] = y at c1 c2 SH
        clear hy
        have CM := Lib.hid (cmp_eq0 y.1 n)
        go_wp2_with fail
        refine (hold_any y n _).mono ?_
        rintro e w2 ⟨rfl, b2⟩
        replace hbw := hbw.trans (b2.mono hbw.size)
        go_wp2
        go_ret2
        exact ⟨hi, by rw [SH.out, ← CM.out]; rfl, SE.out.1, hbw⟩
      · have SH : Hid (hasB l n = false) := by (show _ = _); rw [SE.out.2, dif_neg hn]
        go_wp2
        go_ret2
        exact ⟨hi, by rw [SH.out]; rfl, SE.out.1, hbw⟩

theorem search_any (l : List Ent) (n : List UInt8) (v : Value) (w : World) (hv : Ents w v l) (hs : sortP l) (hl : l.length ≤ 1000000) :
    Calls Tryz.prog 94 #[v, .string ⟨n.toArray⟩] w fun e w' =>
      ∃ lo : Nat, e = .returned (.tuple #[.int .i64 lo, .bool (hasB l n)]) ∧ SrchP l n lo ∧ Below w.heap.size w w' := by
  obtain ⟨a, ca, rfl, hc, hm, HA0⟩ := id hv
  clear HA0
  go_enter Tryz.func94, Tryz.ntmps94
  go_wp2_with fail; refine (halves_any l n _ _ hv hs hl).mono ?_; rintro e w1 ⟨lo, rfl, hS, hb⟩
  go_wp2
  go_ret2
  exact ⟨lo, rfl, hS, hb⟩
end Go.Proofs.YtdgedcfenpmaoaaGreat

/- Walks: Find; what stands ahead of a name's place, and behind it. -/
set_option linter.unusedVariables false
set_option linter.unusedSimpArgs false
namespace Go.Proofs.YtdgedcfenpmaoaaGreat
open Go.RowKit

theorem Find_any (l : List Ent) (n : List UInt8) (v : Value) (w : World) (hv : Ents w v l) (hs : sortP l) (hl : l.length ≤ 1000000) :
    Calls Tryz.prog 97 #[v, .string ⟨n.toArray⟩] w fun e w' => e = .returned (.tuple #[.int .i64 (numB l n), .bool (hasB l n)]) ∧ Below w.heap.size w w' := by
  obtain ⟨a, ca, rfl, hc, hm, HA0⟩ := id hv
  unfold maxLen at hm
  have HA := Lib.hid HA0
  clear HA0
  go_enter Tryz.func97, Tryz.ntmps97
  go_wp2_with fail; refine (search_any l n _ _ hv hs hl).mono ?_; rintro e w1 ⟨lo, rfl, hS, hb⟩
  cases hh : hasB l n
  · have HF := Lib.hid (find_none hh)
    go_wp2
    go_ret2
    exact ⟨by rw [HF.out.1, HF.out.2]; rfl, hb⟩
  · obtain ⟨hk, hn⟩ := find_srch hS hh
    have HN := Lib.hid hn
    clear hn
    obtain ⟨b, o, rfl, hbl, hcl⟩ := HA.out (by omega)
    have c2 : w1.cell? ⟨b, o + lo * 2 + 1, none⟩ = some (.int .i64 l[lo].2) := (hb.cell (p := ⟨b, o + lo * 2 + 1, none⟩) hbl).trans (hcl _ hk).2
    clear hcl hS
    go_wp2
    go_ret2
    exact ⟨by rw [HN.out, hh]; rfl, hb⟩

def TwoEnts (w : World) (A B : List Ent) (e : Ending) (w' : World) : Prop := ∃ x y, e = .returned (.tuple #[x, y]) ∧ Ents w' x A ∧ Ents w' y B ∧ Below w.heap.size w w'

set_option maxHeartbeats 2000000 in
theorem around_any (l : List Ent) (n : List UInt8) (v : Value) (w : World) (hv : Ents w v l) (hs : sortP l) (hl : l.length ≤ 1000000) :
    Calls Tryz.prog 70 #[v, .string ⟨n.toArray⟩] w (TwoEnts w (aheadB l n) (behindB l n)) := by
  obtain ⟨a, ca, rfl, hc, hm, HA0⟩ := id hv
  have HM := Lib.hid hm
  unfold maxLen at hm
  clear HA0
  go_enter Tryz.func70, Tryz.ntmps70
  go_wp2_with fail; refine (search_any l n _ _ hv hs hl).mono ?_; rintro e w1 ⟨lo, rfl, hS, hb⟩
  have HV := Lib.hid (hv.below hb)
  have HS := Lib.hid hS
  have hlo := hS.1
  have h0 : (0 : Int) ≤ (lo : Int) := by omega
  have h1 : (lo : Int) ≤ (l.length : Int) := by omega
  have h2 : (lo : Int) ≤ (ca : Int) := by omega
  clear hv hS
  have hbd : ∀ q, Below w.heap.size w (w1.drewN q) := fun q => below_drewN hb q
  have HT := Lib.hid HS.out.2.1
  cases hh : hasB l n
  · have HB := Lib.hid (HS.out.2.2.2 hh)
    go_wp2
    go_quiet (fail)
    all_goals go_wp2
    all_goals go_ret2
    all_goals refine ⟨_, _, rfl, ?_, ?_, hbd _⟩
    all_goals first
      | (rw [← HT.out]; exact Ents.head (HV.out.below (below_drewN (Below.refl _ _) _)) lo _ hlo (by omega) (by have := HM.out; omega))
      | (rw [← HB.out]; exact Ents.tail (HV.out.below (below_drewN (Below.refl _ _) _)) lo _ _ _ hlo rfl (by omega) (by have := HM.out; omega) (fun h => by first | rfl | omega))
  · obtain ⟨hk, _, hB⟩ := HS.out.2.2.1 hh
    have HB := Lib.hid hB
    clear hB
    have h3 : (lo : Int) + 1 ≤ (l.length : Int) := by omega
    have h4 : (lo : Int) + 1 ≤ (ca : Int) := by omega
    have h5 : ((lo : Int) + 1).toNat = lo + 1 := by omega
    go_wp2
    go_quiet (fail)
    all_goals go_wp2
    all_goals go_ret2
    all_goals refine ⟨_, _, rfl, ?_, ?_, hbd _⟩
    all_goals first
      | (rw [← HT.out]; exact Ents.head (HV.out.below (below_drewN (Below.refl _ _) _)) lo _ hlo (by omega) (by have := HM.out; omega))
      | (rw [← HB.out]; exact Ents.tail (HV.out.below (below_drewN (Below.refl _ _) _)) (lo + 1) _ _ _ hk rfl (by omega) (by have := HM.out; omega) (fun h => by first | rfl | omega))
end Go.Proofs.YtdgedcfenpmaoaaGreat

/- Walks: With, Without, Names. -/
set_option linter.unusedVariables false
set_option linter.unusedSimpArgs false
namespace Go.Proofs.YtdgedcfenpmaoaaGreat
open Go.RowKit

theorem parts_two {w : World} {x y : Value} {A B : List Ent} (hx : Ents w x A) (hy : Ents w y B) (t : TypeId) : Parts (w.alloc (.cells #[x, y] t)) (.slice (some ⟨w.heap.size, 0, none⟩) 2 2) [A, B] := by
  have hb : Below w.heap.size w (w.alloc (.cells #[x, y] t)) := (Below.refl _ w).alloc (Nat.le_refl _) _
  have hB := Blk.new w t #[x, y]
  refine ⟨_, 2, rfl, fun _ => ⟨w.heap.size, 0, rfl, hB.lt, fun i hi => ?_⟩⟩
  have : i = 0 ∨ i = 1 := by simp at hi; omega
  rcases this with rfl | rfl
  · exact ⟨x, (hB.cell 0).trans rfl, hx.below hb⟩
  · exact ⟨y, (hB.cell 1).trans rfl, hy.below hb⟩
theorem parts_three {w : World} {x y z : Value} {A B C : List Ent} (hx : Ents w x A) (hy : Ents w y B) (hz : Ents w z C) (t : TypeId) (n : Nat) (hn : n = w.heap.size) : Parts (w.alloc (.cells #[x, y, z] t)) (.slice (some ⟨n, 0, none⟩) 3 3) [A, B, C] := by
  subst hn
  have hb : Below w.heap.size w (w.alloc (.cells #[x, y, z] t)) := (Below.refl _ w).alloc (Nat.le_refl _) _
  have hB := Blk.new w t #[x, y, z]
  refine ⟨_, 3, rfl, fun _ => ⟨w.heap.size, 0, rfl, hB.lt, fun i hi => ?_⟩⟩
  have : i = 0 ∨ i = 1 ∨ i = 2 := by simp at hi; omega
  rcases this with rfl | rfl | rfl
  · exact ⟨x, (hB.cell 0).trans rfl, hx.below hb⟩
  · exact ⟨y, (hB.cell 1).trans rfl, hy.below hb⟩
  · exact ⟨z, (hB.cell 2).trans rfl, hz.below hb⟩

set_option maxHeartbeats 1000000 in
theorem Without_any (l : List Ent) (n : List UInt8) (v : Value) (w : World) (hv : Ents w v l) (hs : sortP l) (hl : l.length ≤ 1000000) (hsh : shortP 100000000 l) :
    Calls Tryz.prog 40 #[v, .string ⟨n.toArray⟩] w (NewEnts w (withoutB l n)) := by
  obtain ⟨a, ca, rfl, hc, hm, HA0⟩ := id hv
  clear HA0
  go_enter Tryz.func40, Tryz.ntmps40
  go_wp2_with fail; refine (around_any l n _ _ hv hs hl).mono ?_; rintro e w1 ⟨x, y, rfl, hx, hy, hb⟩
  have hp := parts_two hx hy 40
  have hb2 : Below w.heap.size w (w1.alloc (.cells #[x, y] 40)) := hb.alloc hb.size _
  have hfl : [aheadB l n, behindB l n].flatten = withoutB l n := by simp [withoutB]
  have hle := without_len l n
  have hsw := without_short n hsh
  obtain ⟨a1, c1, rfl, _, _, _⟩ := hx
  obtain ⟨a2, c2, rfl, _, _, _⟩ := hy
  go_wp2_with fail
  refine (join_any _ _ _ hp (by simp) (by rw [hfl]; omega) (by rw [hfl]; exact hsw)).mono ?_
  rintro e w2 ⟨g, rfl, hg, hB, hb3⟩
  rw [hfl] at hB ⊢
  go_wp2
  go_ret
  exact ⟨g, rfl, Nat.le_trans hb2.size hg, hB, hb2.trans (hb3.mono hb2.size)⟩

set_option maxHeartbeats 1000000 in
theorem With_any (l : List Ent) (n : List UInt8) (i : Int) (v : Value) (w : World) (hv : Ents w v l) (hs : sortP l) (hl : l.length ≤ 999999) (hsh : shortP 100000000 l) (hn : n.length ≤ 100000000) :
    Calls Tryz.prog 46 #[v, .string ⟨n.toArray⟩, .int .i64 i] w (NewEnts w (withB l n i)) := by
  obtain ⟨a, ca, rfl, hc, hm, HA0⟩ := id hv
  clear HA0
  go_enter Tryz.func46, Tryz.ntmps46
  go_wp2_with fail; refine (around_any l n _ _ hv hs (by omega)).mono ?_; rintro e w1 ⟨x, y, rfl, hx, hy, hb⟩
  have hbo : Below w1.heap.size w1 (w1.alloc (.cells (entC (n, i)) 75)) := (Below.refl _ w1).alloc (Nat.le_refl _) _
  have hone : Ents (w1.alloc (.cells (entC (n, i)) 75)) (.slice (some ⟨w1.heap.size, 0, none⟩) 1 1) [(n, i)] := blk_ents (L := [(n, i)]) (Blk.new w1 75 (entC (n, i))) (by simp [maxLen])
  have hb1 := hb.trans (hbo.mono hb.size)
  have hp := parts_three (hx.below hbo) hone (hy.below hbo) 40 (w1.heap.size + 1) (by simp)
  have hb2 := hb1.alloc hb1.size (.cells #[x, .slice (some ⟨w1.heap.size, 0, none⟩) 1 1, y] 40)
  have hfl : [aheadB l n, [(n, i)], behindB l n].flatten = withB l n i := by simp [withB]
  have hle := with_len l n i
  have hsw := with_short i hsh hn
  obtain ⟨a1, c1, rfl, _, _, _⟩ := hx
  obtain ⟨a2, c2, rfl, _, _, _⟩ := hy
  go_wp2_with fail
  refine (join_any _ _ _ hp (by simp) (by rw [hfl]; omega) (by rw [hfl]; exact hsw)).mono ?_
  rintro e w2 ⟨g, rfl, hg, hB, hb3⟩
  rw [hfl] at hB ⊢
  go_wp2
  go_ret
  exact ⟨g, rfl, Nat.le_trans hb2.size hg, hB, hb2.trans (hb3.mono hb2.size)⟩

theorem infoT : (Tryz.prog.info? 9).map (fun i => (i.zero, i.size, i.bytes)) = some (some (.string ⟨#[]⟩), 1, 16) := by kernel_rfl

end Go.Proofs.YtdgedcfenpmaoaaGreat

/- The name that a path leads to is no longer than a name may be. No program's function. -/
set_option linter.unusedVariables false
set_option linter.unusedSimpArgs false
namespace Go.Proofs.YtdgedcfenpmaoaaGreat

theorem long_no {p : List UInt8} (h : longB p = false) : p.length ≤ 4095 ∧ ∀ n ∈ namesB p, n.length ≤ 255 := by
  unfold longB at h
  simpa using h
theorem on_short (l : List Nd) (fo : Bool) (g : Nat) (s : Sp) (todo : List (List UInt8)) (dir : Bool) (hs : s.name.length ≤ 255) (ht : ∀ n ∈ todo, n.length ≤ 255) : (onN l fo g s todo dir).1.name.length ≤ 255 := by
  have hz : (zeroS).name.length ≤ 255 := by decide
  match todo with
  | [] =>
    rw [on_nil]
    split
    · exact hz
    · exact hs
  | m :: r =>
    have hr : ∀ n ∈ r, n.length ≤ 255 := fun n hn => ht n (by simp [hn])
    by_cases h0 : s.ino = 0
    · rw [on_gone h0]; exact hz
    by_cases hk : (getN l s.ino).kind = 2
    · by_cases d1 : m = [46]
      · rw [on_dot h0 hk d1]; exact on_short l fo g _ r dir (by simp) hr
      by_cases d2 : m = [46, 46]
      · rw [on_dots h0 hk d2]; exact on_short l fo g _ r dir (by simp) hr
      cases hst : stopB l fo dir s.ino m r
      · match g with
        | 0 => rw [on_loop h0 hk d1 d2 hst]; exact hz
        | g + 1 =>
          cases hlo : longB (lnkD l s.ino m)
          · rw [on_link h0 hk d1 d2 hst hlo]
            refine on_short l fo g _ _ _ (by simp) fun n hn => ?_
            rcases List.mem_append.1 hn with hn | hn
            · exact (long_no hlo).2 n hn
            · exact hr n hn
          · rw [on_long h0 hk d1 d2 hst hlo]; exact hz
      · rw [on_stop h0 hk d1 d2 hst]
        exact on_short l fo g _ r dir (ht m (by simp)) hr
    · rw [on_file h0 hk]; exact hz
termination_by (g, todo.length)
theorem seek_short (l : List Nd) (base p : List UInt8) (fo : Bool) : (seekP l base p fo).1.name.length ≤ 255 := by
  have hz : (zeroS).name.length ≤ 255 := by decide
  unfold seekP
  split
  · exact hz
  split
  · exact hz
  rename_i hl
  have hn := (long_no (p := p) (by simpa using hl)).2
  split
  · exact on_short _ _ _ _ _ _ (by simp) hn
  split
  · exact hz
  · exact on_short _ _ _ _ _ _ (by simp) hn
end Go.Proofs.YtdgedcfenpmaoaaGreat

/- What is made: the sizes of the table, and what the statement asks of it. No program's function. -/
set_option linter.unusedVariables false
set_option linter.unusedSimpArgs false
namespace Go.Proofs.YtdgedcfenpmaoaaGreat

structure Sized (L : List Nd) : Prop where
  len : L.length ≤ 42
  short : ∀ x ∈ L, shortP 300 x.ents
  data : ∀ x ∈ L, x.data.length ≤ 5000
  pairs : (pairsN L).length ≤ 1000000
theorem pairs_few {L : List Nd} {m : Nat} (h : ∀ x ∈ L, x.ents.length ≤ m) : (pairsN L).length ≤ L.length * m := by
  induction L with
  | nil => simp [pairsN]
  | cons x r ih =>
    have h1 := ih fun y hy => h y (by simp [hy])
    have h2 := h x (by simp)
    have e : (pairsN (x :: r)).length = x.ents.length + (pairsN r).length := by simp [pairsN]
    rw [e, List.length_cons, Nat.add_mul]
    omega
theorem newL_sized {l : List Nd} (hc : Calm l) (hl : l.length ≤ 40) (d : Int) {n : List UInt8} (hn : n.length ≤ 255) (ev : Go.Value) {x : Nd} (hx : x.ents = []) (hd : x.data.length ≤ 5000) : Sized (newL l d n ev x) := by
  have hg := calm_get hc d
  have hm : ∀ z ∈ newL l d n ev x, z = x ∨ z = moreD (getN l d) n x.ino ev ∨ z ∈ l := fun z hz => by
    rcases mem_setN hz with h | h
    · exact .inl h
    · exact .inr (mem_setN h)
  have hlen : (newL l d n ev x).length ≤ 42 := by
    have h1 := setN_len (setN l (moreD (getN l d) n x.ino ev)) x
    have h2 := setN_len l (moreD (getN l d) n x.ino ev)
    unfold newL
    omega
  have hel : ∀ z ∈ newL l d n ev x, z.ents.length ≤ 1001 := fun z hz => by
    rcases hm z hz with rfl | rfl | h
    · rw [hx]; exact Nat.zero_le _
    · exact Nat.le_trans (with_len _ _ _) (by have := hg.2.1; omega)
    · have := (hc.size z h).1; omega
  refine ⟨hlen, fun z hz => ?_, fun z hz => ?_, ?_⟩
  · rcases hm z hz with rfl | rfl | h
    · rw [hx]; exact fun _ h => (nomatch h)
    · intro e he
      rcases mem_with.1 he with rfl | ⟨h, _⟩
      · show n.length ≤ 300
        omega
      · exact hg.2.2.2 e h
    · exact (hc.size z h).2.2
  · rcases hm z hz with rfl | rfl | h
    · exact hd
    · exact hg.2.2.1
    · exact (hc.size z h).2.1
  · have := pairs_few hel
    have h2 : (newL l d n ev x).length * 1001 ≤ 42 * 1001 := Nat.mul_le_mul_right _ hlen
    omega
theorem Sized.get {L : List Nd} (h : Sized L) (i : Int) : (getN L i).data.length ≤ 5000 := by
  cases hh : hasN L i
  · rw [getN_none hh]; exact Nat.zero_le _
  · exact h.data _ (get_mem hh).1
theorem Sized.bytes {L : List Nd} (h : Sized L) : bytesN L ≤ 1000000 := by
  have := bytesN_few h.data
  have h2 : L.length * 5000 ≤ 42 * 5000 := Nat.mul_le_mul_right _ h.len
  omega

/-- What the statement asks of what a call answers. -/
structure MadeT (mi mb nx : Int) (l : List Nd) (base p data : List UInt8) (K : Int) (Z : (Int × List Nd) × Int) : Prop where
  bad : Z.2 ≠ 0 → Z.1 = (nx, l)
  good : Z.2 = 0 → checkN mi mb Z.1.1 Z.1.2 = 0 ∧ (∃ d n, seekP Z.1.2 base p false = (⟨d, n, nx⟩, 0)) ∧ hasN Z.1.2 nx = true ∧ (getN Z.1.2 nx).kind = K ∧ (getN Z.1.2 nx).ino = nx ∧ (K ≠ 2 → (getN Z.1.2 nx).data = data) ∧ Z.1.2.length = l.length + 1 ∧ (listN l).Sublist (listN Z.1.2) ∧ (listN Z.1.2).length = (listN l).length + 1 ∧ Sized Z.1.2
theorem newF_sized {mi mb nx : Int} {l : List Nd} (hc : Calm l) (hl : l.length ≤ 40) {s : Sp} {k : Int} {data : List UInt8} {ev : Go.Value} (hn : s.name.length ≤ 255) (hd : data.length ≤ 5000) (h : (newF mi mb nx l s k data ev).2 = 0) : Sized (newF mi mb nx l s k data ev).1.2 := by
  unfold newF at h ⊢
  split at h
  · cases h
  rename_i h1
  rw [if_neg h1]
  split at h
  · cases h
  rename_i h2
  rw [if_neg h2]
  exact newL_sized hc hl s.dir hn ev rfl hd
theorem putF_bad {mi mb nx : Int} {l : List Nd} {base p : List UInt8} {k : Int} {data : List UInt8} {rf : Int} {ev : Go.Value} (h : (putF mi mb nx l base p k data rf ev).2 ≠ 0) : (putF mi mb nx l base p k data rf ev).1 = (nx, l) := by
  unfold putF newF at h ⊢
  split
  · rfl
  split
  · rfl
  split
  · rfl
  split
  · rfl
  split
  · rfl
  · rename_i h1 h2 h3 h4 h5
    rw [if_neg h1, if_neg h2, if_neg h3, if_neg h4, if_neg h5] at h
    exact absurd rfl h
theorem putF_sized {mi mb nx : Int} {l : List Nd} (hc : Calm l) (hl : l.length ≤ 40) {base p : List UInt8} {k : Int} {data : List UInt8} {rf : Int} {ev : Go.Value} (hd : data.length ≤ 5000) (h : (putF mi mb nx l base p k data rf ev).2 = 0) (hrf : rf ≠ 0 ∨ k = 2 ∧ rf = 0) : Sized (putF mi mb nx l base p k data rf ev).1.2 := by
  unfold putF at h ⊢
  split at h
  · rename_i h1; exact absurd h h1
  rename_i h1
  rw [if_neg h1]
  split at h
  · cases h
  rename_i h2
  rw [if_neg h2]
  split at h
  · rename_i h3
    exact absurd h h3.1
  rename_i h3
  rw [if_neg h3]
  exact newF_sized hc hl (seek_short l base p false) hd h
theorem made_put {mi mb nx : Int} {l : List Nd} (h : okB mi mb nx l = true) (hn : nx < 1099511627776) {base p data : List UInt8} {k rf : Int} {ev : Go.Value} (hc : Calm l) (hl : l.length ≤ 40) (hk : k = 1 ∨ k = 2 ∨ k = 3) (hd : k = 2 → data = []) (hd3 : k = 3 → 1 ≤ data.length ∧ data.length ≤ 4095 ∧ data.all (fun c => c != 0) = true) (hrf : k ≠ 2 → rf ≠ 0) (hr2 : k = 2 → rf = 0) (hdl : data.length ≤ 5000) {data2 : List UInt8} (hdd : k ≠ 2 → data2 = data) :
    MadeT mi mb nx l base p data2 k (putF mi mb nx l base p k data rf ev) := by
  refine ⟨putF_bad, fun h0 => ?_⟩
  have hor : rf ≠ 0 ∨ k = 2 := by by_cases h2 : k = 2; exact .inr h2; exact .inl (hrf h2)
  obtain ⟨g1, g2, g3, g4, g5, g6, g7⟩ := put_sound (ok_sound h) hn hk hd hd3 hrf h0 hor
  refine ⟨sound_check g1, g2, g4, by rw [g3]; rfl, by rw [g3]; rfl, fun h2 => by rw [g3, hdd h2]; rfl, g5, g6, g7, putF_sized hc hl hdl h0 ?_⟩
  by_cases h2 : k = 2
  · exact .inr ⟨h2, hr2 h2⟩
  · exact .inl (hrf h2)
theorem made_sym {mi mb nx : Int} {l : List Nd} (h : okB mi mb nx l = true) (hn : nx < 1099511627776) {base p t : List UInt8} {ev : Go.Value} (hc : Calm l) (hl : l.length ≤ 40) (hdl : t.length ≤ 5000) : MadeT mi mb nx l base p t 3 (symF mi mb nx l base t p ev) := by
  unfold symF
  split
  · exact ⟨fun _ => rfl, fun h0 => (by cases h0)⟩
  rename_i h1
  split
  · exact ⟨fun _ => rfl, fun h0 => (by cases h0)⟩
  rename_i h2
  split
  · exact ⟨fun _ => rfl, fun h0 => (by cases h0)⟩
  rename_i h3
  refine made_put h hn hc hl (.inr (.inr rfl)) (fun e => absurd e (by decide)) (fun _ => ⟨?_, by omega, ?_⟩) (fun _ => by decide) (fun e => absurd e (by decide)) hdl (fun _ => rfl)
  · rcases Nat.eq_zero_or_pos t.length with e | e
    · exact absurd (List.length_eq_zero_iff.1 e) h1
    · exact e
  · rw [List.all_eq_true]
    intro c hc
    rw [bne_iff_ne]
    rintro rfl
    exact h3 (List.contains_iff_mem.2 hc)
end Go.Proofs.YtdgedcfenpmaoaaGreat

/- What the statements on what is linked and taken away ask, as lists. No program's function. -/
set_option linter.unusedVariables false
set_option linter.unusedSimpArgs false
namespace Go.Proofs.YtdgedcfenpmaoaaGreat

/-- The sizes of a table that is few, with room for one entry more. -/
structure Slim (L : List Nd) : Prop where
  len : L.length ≤ 40
  each : ∀ x ∈ L, x.ents.length ≤ 41 ∧ x.data.length ≤ 5000 ∧ shortP 300 x.ents
theorem few_each {l : List Nd} (h : fewN l = true) : l.length ≤ 40 ∧ ∀ x ∈ l, x.ents.length ≤ 40 ∧ x.data.length ≤ 5000 ∧ shortP 300 x.ents := by
  unfold fewN at h
  rw [Bool.and_eq_true, List.all_eq_true, decide_eq_true_eq] at h
  refine ⟨h.1, fun x hx => ?_⟩
  have := h.2 x hx
  unfold fewX at this
  simp only [Bool.and_eq_true, decide_eq_true_eq, List.all_eq_true] at this
  exact ⟨this.1.2, this.1.1, this.2⟩
theorem few_get {l : List Nd} (h : fewN l = true) (i : Int) : (getN l i).ents.length ≤ 40 ∧ (getN l i).data.length ≤ 5000 ∧ shortP 300 (getN l i).ents := by
  cases hh : hasN l i
  · rw [getN_none hh]; exact ⟨Nat.zero_le _, Nat.zero_le _, fun _ h => (nomatch h)⟩
  · exact (few_each h).2 _ (get_mem hh).1
theorem slim_ok {mi mb nx : Int} {L : List Nd} (h : SoundP mi mb nx L) (s : Slim L) : OkS mi mb nx L := by
  refine ⟨sound_check h, h.rise, fun x hx => ?_, fun x hx => ?_, by have := s.len; omega⟩
  · by_cases hk : x.kind = 2
    · exact h.tree.rights x hx hk
    · rw [h.tree.files x hx hk]; rfl
  · have := s.each x hx
    exact ⟨by omega, this.2.1, this.2.2⟩
theorem slim_few {l : List Nd} (h : fewN l = true) : Slim l := ⟨(few_each h).1, fun x hx => by have := (few_each h).2 x hx; exact ⟨by omega, this.2⟩⟩
theorem Slim.pairs {L : List Nd} (h : Slim L) : (pairsN L).length ≤ 1000000 := by
  have := pairs_few (L := L) (m := 41) fun x hx => (h.each x hx).1
  have h2 : L.length * 41 ≤ 40 * 41 := Nat.mul_le_mul_right _ h.len
  omega
theorem Slim.bytes {L : List Nd} (h : Slim L) : bytesN L ≤ 1000000 := by
  have := bytesN_few (l := L) (m := 5000) fun x hx => (h.each x hx).2.1
  have h2 : L.length * 5000 ≤ 40 * 5000 := Nat.mul_le_mul_right _ h.len
  omega
theorem ents_few {L : List Nd} {m : Nat} (h : ∀ x ∈ L, x.ents.length ≤ m) : entsN L ≤ L.length * m := by
  induction L with
  | nil => simp [entsN]
  | cons x r ih =>
    have h1 := ih fun y hy => h y (by simp [hy])
    have h2 := h x (by simp)
    have e : entsN (x :: r) = x.ents.length + entsN r := by simp [entsN]
    rw [e, List.length_cons, Nat.add_mul]
    omega
theorem list_slim {mi mb nx : Int} {L : List Nd} (h : SoundP mi mb nx L) (s : Slim L) : (listN L).length ≤ 1641 := by
  have e := list_exact h.tree
  have h1 := ents_few (L := L) (m := 41) fun x hx => (s.each x hx).1
  have h2 : L.length * 41 ≤ 40 * 41 := Nat.mul_le_mul_right _ s.len
  omega
theorem un_slim {mi mb nx : Int} {l : List Nd} {d i : Int} {n : List UInt8} {ev : Go.Value} (h : SoundP mi mb nx l) (hf : fewN l = true) (hg : Gone l d n i) : Slim (unL l d n i ev) := by
  have hd := few_get hf d
  have hi := few_get hf i
  refine ⟨Nat.le_trans (un_len h hg) (few_each hf).1, fun x hx => ?_⟩
  rcases un_mem h hg hx with ⟨rfl, _⟩ | rfl | ⟨hx, _⟩
  · exact ⟨by show (getN l i).ents.length ≤ 41; omega, hi.2⟩
  · refine ⟨?_, hd.2.1, fun e he => hd.2.2 e (mem_without.1 he).1⟩
    show (withoutB (getN l d).ents n).length ≤ 41
    have : (withoutB (getN l d).ents n).length ≤ (getN l d).ents.length := by
      unfold withoutB
      rw [List.length_append]
      exact parts_len _ _
    omega
  · have := (few_each hf).2 x hx
    exact ⟨by omega, this.2⟩
theorem na_slim {mi mb nx : Int} {l : List Nd} {d i : Int} {n : List UInt8} {ev : Go.Value} (h : SoundP mi mb nx l) (hf : fewN l = true) (hg : Given l d n i) : Slim (naL l d n i ev) := by
  have hd := few_get hf d
  have hi := few_get hf i
  refine ⟨?_, fun x hx => ?_⟩
  · have hdd := (dir_parts hg.dir).1
    have h5 : hasN (setN l (moreD (getN l d) n i ev)) i = true := by rw [has_set, hg.has]; simp
    unfold naL
    rw [len_set_has (set_rise _ h.rise) _ (by rw [link_ino hg.has]; exact h5), len_set_has h.rise _ (by rw [more_ino l hdd]; exact hdd)]
    exact (few_each hf).1
  rcases na_mem h hg hx with rfl | rfl | ⟨hx, _⟩
  · exact ⟨by show (getN l i).ents.length ≤ 41; omega, hi.2⟩
  · refine ⟨?_, hd.2.1, fun e he => ?_⟩
    · have := with_len (getN l d).ents n i
      show (withB (getN l d).ents n i).length ≤ 41
      omega
    · rcases mem_with.1 he with rfl | ⟨h, _⟩
      · have := may_len hg.may
        show n.length ≤ 300
        omega
      · exact hd.2.2 e h
  · have := (few_each hf).2 x hx
    exact ⟨by omega, this.2⟩

theorem spot_has {mi mb nx : Int} {l : List Nd} (h : SoundP mi mb nx l) {s : Sp} (hs : Spot l s) (h0 : s.ino ≠ 0) : hasN l s.ino = true := by
  by_cases hn : s.name = []
  · exact (dir_parts (hs.bare hn).1).1
  · obtain ⟨g1, g2, g3⟩ := hs.entry hn
    rw [decide_eq_true h0] at g3
    have h1 := (has_num h.tree g3).1
    rw [g2] at h1
    exact h.there _ (get_mem (dir_parts g1).1).1 _ h1
theorem spot_gone {mi mb nx : Int} {l : List Nd} (h : SoundP mi mb nx l) {s : Sp} (hs : Spot l s) (h0 : s.ino ≠ 0) (hn : s.name ≠ []) (hb : (getN l s.ino).ents = []) : Gone l s.dir s.name s.ino := by
  obtain ⟨g1, g2, g3⟩ := hs.entry hn
  rw [decide_eq_true h0] at g3
  have h1 := (has_num h.tree g3).1
  rw [g2] at h1
  exact ⟨h1, hb⟩
/-- What a call that links or takes away answers. -/
structure CutT (mi mb nx : Int) (l : List Nd) (m : Int) (Z : List Nd × Int) : Prop where
  bad : Z.2 ≠ 0 → Z.1 = l
  good : Z.2 = 0 → SoundP mi mb nx Z.1 ∧ Slim Z.1 ∧ ((listN Z.1).length : Int) = (listN l).length + m
/-- What a link is: an entry given. -/
structure LinkT (l : List Nd) (base src dst : List UInt8) (Z : List Nd × Int) (ev : Go.Value) (d i : Int) (n : List UInt8) : Prop where
  fro : ∃ sd sn, seekP l base src false = (⟨sd, sn, i⟩, 0)
  to_ : seekP l base dst false = (⟨d, n, 0⟩, 0)
  slash : slashB dst = false
  given : Given l d n i
  ans : Z.1 = naL l d n i ev
theorem link_ok {mi mb nx : Int} {l : List Nd} (h : SoundP mi mb nx l) {base src dst : List UInt8} {ev : Go.Value} (h0 : (linkF l base src dst ev).2 = 0) : ∃ d i n, LinkT l base src dst (linkF l base src dst ev) ev d i n := by
  have s1 := seek_spot h base src false
  have s2 := seek_spot h base dst false
  unfold linkF at h0 ⊢
  split at h0
  · rename_i c1; exact absurd h0 c1
  rename_i c1
  rw [if_neg c1]
  split at h0
  · cases h0
  rename_i c2
  rw [if_neg c2]
  split at h0
  · cases h0
  rename_i c3
  rw [if_neg c3]
  split at h0
  · rename_i c4; exact absurd h0 c4
  rename_i c4
  rw [if_neg c4]
  split at h0
  · cases h0
  rename_i c5
  rw [if_neg c5]
  split at h0
  · cases h0
  rename_i c6
  rw [if_neg c6]
  split at h0
  · cases h0
  rename_i c7
  rw [if_neg c7]
  have c1' : (seekP l base src false).2 = 0 := by simpa using c1
  have c4' : (seekP l base dst false).2 = 0 := by simpa using c4
  have c5' : (seekP l base dst false).1.ino = 0 := by simpa using c5
  have c6' : slashB dst = false := by simpa using c6
  have c7' : mayB (seekP l base dst false).1.name = true := by simpa using c7
  have p1 := s1.1 c1'
  have p2 := s2.1 c4'
  have hh := spot_has h p1 c2
  have hin := (get_mem hh).2
  obtain ⟨g1, g2, g3⟩ := p2.entry (mayB_good c7').2
  rw [hin]
  refine ⟨(seekP l base dst false).1.dir, (seekP l base src false).1.ino, (seekP l base dst false).1.name, ⟨_, _, Prod.ext rfl c1'⟩, Prod.ext ?_ c4', c6', ⟨g1, by rw [g3, c5']; rfl, c7', hh, c3⟩, rfl⟩
  show (seekP l base dst false).1 = ⟨_, _, 0⟩
  rw [← c5']
theorem link_bad {l : List Nd} {base src dst : List UInt8} {ev : Go.Value} (h0 : (linkF l base src dst ev).2 ≠ 0) : (linkF l base src dst ev).1 = l := by
  unfold linkF at h0 ⊢
  split
  · rfl
  split
  · rfl
  split
  · rfl
  split
  · rfl
  split
  · rfl
  split
  · rfl
  split
  · rfl
  · rename_i c1 c2 c3 c4 c5 c6 c7
    rw [if_neg c1, if_neg c2, if_neg c3, if_neg c4, if_neg c5, if_neg c6, if_neg c7] at h0
    exact absurd rfl h0
theorem link_cut {mi mb nx : Int} {l : List Nd} (h : okB mi mb nx l = true) {base src dst : List UInt8} {ev : Go.Value} : CutT mi mb nx l 1 (linkF l base src dst ev) := by
  refine ⟨link_bad, fun h0 => ?_⟩
  have hs := ok_sound h
  obtain ⟨d, i, n, t⟩ := link_ok hs h0
  rw [t.ans]
  exact ⟨na_sound hs t.given, na_slim hs (ok_parts h).1 t.given, by rw [na_list hs t.given]; omega⟩
/-- A name that was given and taken away again. -/
theorem link_back {mi mb nx : Int} {l : List Nd} (h : okB mi mb nx l = true) {base src dst : List UInt8} {ev : Go.Value} (h0 : (linkF l base src dst ev).2 = 0) (e2 : Go.Value) :
    (seekP (linkF l base src dst ev).1 base dst false).2 = 0 ∧ (seekP (linkF l base src dst ev).1 base src false).1.ino = (seekP (linkF l base src dst ev).1 base dst false).1.ino ∧
      (unlinkF (linkF l base src dst ev).1 base dst e2).2 = 0 ∧ onesB (unlinkF (linkF l base src dst ev).1 base dst e2).1 l = true := by
  have hs := ok_sound h
  obtain ⟨d, i, n, t⟩ := link_ok hs h0
  rw [t.ans]
  have hG := grown_na (ev := ev) hs t.given
  have k1 := seek_grown hs hG (.inr t.slash) t.to_
  obtain ⟨sd, sn, hsrc⟩ := t.fro
  have hi0 : i ≠ 0 := has_ne0 hs t.given.has
  have k2 := seek_kept hs hG (t := ⟨sd, sn, i⟩) hi0 hsrc
  have hb := na_back (ev := ev) hs t.given e2
  have hk : (getN (naL l d n i ev) i).kind ≠ 2 := by rw [na_get hs t.given, if_pos rfl]; exact t.given.leaf
  refine ⟨by rw [k1], by rw [k1, k2], ?_, ?_⟩
  · unfold unlinkF
    rw [k1]
    rw [if_neg (by simp), if_neg hi0, if_neg hk]
  · unfold unlinkF
    rw [k1]
    rw [if_neg (by simp), if_neg hi0, if_neg hk]
    exact decide_eq_true hb.2
theorem unlink_cut {mi mb nx : Int} {l : List Nd} (h : okB mi mb nx l = true) {base p : List UInt8} {ev : Go.Value} : CutT mi mb nx l (-1) (unlinkF l base p ev) := by
  have hs := ok_sound h
  have s1 := seek_spot hs base p false
  unfold unlinkF
  split
  · rename_i c1; exact ⟨fun _ => rfl, fun h0 => absurd h0 c1⟩
  rename_i c1
  split
  · exact ⟨fun _ => rfl, fun h0 => (by cases h0)⟩
  rename_i c2
  split
  · exact ⟨fun _ => rfl, fun h0 => (by cases h0)⟩
  rename_i c3
  have p1 := s1.1 (by simpa using c1)
  have hh := spot_has hs p1 c2
  have hn : (seekP l base p false).1.name ≠ [] := fun e => c3 (dir_parts (p1.bare e).1).2
  have hg := spot_gone hs p1 c2 hn (leaf_bare hs hh c3)
  refine ⟨fun h0 => absurd rfl h0, fun _ => ⟨un_sound hs hg, un_slim hs (ok_parts h).1 hg, ?_⟩⟩
  have := un_list (ev := ev) hs hg
  show ((listN (unL l _ _ _ ev)).length : Int) = _
  omega
theorem rmdir_cut {mi mb nx : Int} {l : List Nd} (h : okB mi mb nx l = true) {base p : List UInt8} {ev : Go.Value} : CutT mi mb nx l (-1) (rmdirF l base p ev) := by
  have hs := ok_sound h
  have s1 := seek_spot hs base p false
  unfold rmdirF
  split
  · rename_i c1; exact ⟨fun _ => rfl, fun h0 => absurd h0 c1⟩
  rename_i c1
  split
  · exact ⟨fun _ => rfl, fun h0 => (by cases h0)⟩
  rename_i c2
  split
  · exact ⟨fun _ => rfl, fun h0 => (by cases h0)⟩
  split
  · exact ⟨fun _ => rfl, fun h0 => (by cases h0)⟩
  split
  · exact ⟨fun _ => rfl, fun h0 => (by cases h0)⟩
  rename_i hn
  split
  · exact ⟨fun _ => rfl, fun h0 => (by cases h0)⟩
  rename_i hb
  have p1 := s1.1 (by simpa using c1)
  have hg := spot_gone hs p1 c2 hn (List.length_eq_zero_iff.1 (by omega))
  refine ⟨fun h0 => absurd rfl h0, fun _ => ⟨un_sound hs hg, un_slim hs (ok_parts h).1 hg, ?_⟩⟩
  have := un_list (ev := ev) hs hg
  show ((listN (unL l _ _ _ ev)).length : Int) = _
  omega
end Go.Proofs.YtdgedcfenpmaoaaGreat

/- The way on, reckoned: with steps counted, so that it can be run. No program's function. -/
set_option linter.unusedVariables false
set_option linter.unusedSimpArgs false
namespace Go.Proofs.YtdgedcfenpmaoaaGreat

def onF (l : List Nd) (fo : Bool) : Nat → Nat → Sp → List (List UInt8) → Bool → Option (Sp × Int)
  | 0, _, _, _, _ => none
  | k + 1, g, s, todo, dir =>
    match todo with
    | [] => some (if (hasN l s.ino && dir && (getN l s.ino).kind != 2) = true then (zeroS, 3) else (s, 0))
    | n :: r =>
      if s.ino = 0 then some (zeroS, 1)
      else if (getN l s.ino).kind = 2 then
        if n = [46] then onF l fo k g ⟨0, [], (getN l s.ino).ino⟩ r dir
        else if n = [46, 46] then onF l fo k g ⟨0, [], (getN l s.ino).parent⟩ r dir
        else if stopB l fo dir s.ino n r = true then onF l fo k g (stepS l s.ino n) r dir
        else match g with
          | 0 => some (zeroS, 6)
          | g + 1 => if longB (lnkD l s.ino n) = true then some (zeroS, 7)
            else onF l fo k g ⟨0, [], if absB (lnkD l s.ino n) = true then 1 else (getN l s.ino).ino⟩ (namesB (lnkD l s.ino n) ++ r) (dir || (slashB (lnkD l s.ino n) && r.isEmpty))
      else some (zeroS, 3)
theorem onF_eq {l : List Nd} {fo : Bool} (k : Nat) : ∀ {g : Nat} {s : Sp} {todo : List (List UInt8)} {dir : Bool} {r : Sp × Int}, onF l fo k g s todo dir = some r → onN l fo g s todo dir = r := by
  induction k with
  | zero => intro g s todo dir r h; cases h
  | succ k ih =>
    intro g s todo dir r h
    cases todo with
    | nil => rw [on_nil]; exact Option.some.inj h
    | cons n t =>
      unfold onF at h
      dsimp only at h
      by_cases h0 : s.ino = 0
      · rw [if_pos h0] at h; rw [on_gone h0]; exact Option.some.inj h
      rw [if_neg h0] at h
      by_cases hk : (getN l s.ino).kind = 2
      · rw [if_pos hk] at h
        by_cases h1 : n = [46]
        · rw [if_pos h1] at h; rw [on_dot h0 hk h1]; exact ih h
        rw [if_neg h1] at h
        by_cases h2 : n = [46, 46]
        · rw [if_pos h2] at h; rw [on_dots h0 hk h2]; exact ih h
        rw [if_neg h2] at h
        cases h3 : stopB l fo dir s.ino n t
        · rw [if_neg (by rw [h3]; simp)] at h
          cases g with
          | zero => rw [on_loop h0 hk h1 h2 h3]; exact Option.some.inj h
          | succ g =>
            cases h4 : longB (lnkD l s.ino n)
            · dsimp only at h
              rw [if_neg (by rw [h4]; simp)] at h
              rw [on_link h0 hk h1 h2 h3 h4]; exact ih h
            · dsimp only at h
              rw [if_pos h4] at h
              rw [on_long h0 hk h1 h2 h3 h4]; exact Option.some.inj h
        · rw [if_pos h3] at h
          rw [on_stop h0 hk h1 h2 h3]; exact ih h
      · rw [if_neg hk] at h; rw [on_file h0 hk]; exact Option.some.inj h
def seekF (k : Nat) (l : List Nd) (base p : List UInt8) (fo : Bool) : Option (Sp × Int) :=
  if p = [] then some (zeroS, 1) else if longB p = true then some (zeroS, 7)
  else if absB p = true then onF l fo k 40 rootS (namesB p) (slashB p)
  else if (homeP l base).2 ≠ 0 then some (zeroS, (homeP l base).2)
  else onF l fo k 40 ⟨0, [], (homeP l base).1⟩ (namesB p) (slashB p)
theorem seekF_eq (k : Nat) {l : List Nd} {base p : List UInt8} {fo : Bool} {r : Sp × Int} (h : seekF k l base p fo = some r) : seekP l base p fo = r := by
  unfold seekF at h
  unfold seekP
  split
  · rename_i h0; rw [if_pos h0] at h; exact Option.some.inj h
  rename_i h0
  rw [if_neg h0] at h
  split
  · rename_i h1; rw [if_pos h1] at h; exact Option.some.inj h
  rename_i h1
  rw [if_neg h1] at h
  split
  · rename_i h2; rw [if_pos h2] at h; exact onF_eq k h
  rename_i h2
  rw [if_neg h2] at h
  split
  · rename_i h3; rw [if_pos h3] at h; exact Option.some.inj h
  rename_i h3
  rw [if_neg h3] at h; exact onF_eq k h
end Go.Proofs.YtdgedcfenpmaoaaGreat

/- What is linked and taken away, reckoned. No program's function. -/
set_option linter.unusedVariables false
set_option linter.unusedSimpArgs false
namespace Go.Proofs.YtdgedcfenpmaoaaGreat

def unlinkE (r : Sp × Int) (l : List Nd) (ev : Go.Value) : List Nd × Int :=
  if r.2 ≠ 0 then (l, r.2) else if r.1.ino = 0 then (l, 1) else if (getN l r.1.ino).kind = 2 then (l, 4) else (unL l r.1.dir r.1.name r.1.ino ev, 0)
def rmdirE (r : Sp × Int) (l : List Nd) (ev : Go.Value) : List Nd × Int :=
  if r.2 ≠ 0 then (l, r.2) else if r.1.ino = 0 then (l, 1) else if (getN l r.1.ino).kind ≠ 2 then (l, 3) else if (getN l r.1.ino).ino = 1 then (l, 10)
  else if r.1.name = [] then (l, 9) else if (getN l r.1.ino).ents.length > 0 then (l, 5) else (unL l r.1.dir r.1.name r.1.ino ev, 0)
def linkE (r q : Sp × Int) (l : List Nd) (dst : List UInt8) (ev : Go.Value) : List Nd × Int :=
  if r.2 ≠ 0 then (l, r.2) else if r.1.ino = 0 then (l, 1) else if (getN l r.1.ino).kind = 2 then (l, 11) else if q.2 ≠ 0 then (l, q.2) else if q.1.ino ≠ 0 then (l, 2)
  else if slashB dst = true then (l, 1) else if mayB q.1.name = false then (l, 9) else (naL l q.1.dir q.1.name (getN l r.1.ino).ino ev, 0)
theorem unlinkF_eq (n : Nat) {l : List Nd} {base p : List UInt8} {ev : Go.Value} {r : Sp × Int} (h : seekF n l base p false = some r) : unlinkF l base p ev = unlinkE r l ev := by unfold unlinkF unlinkE; rw [seekF_eq n h]
theorem rmdirF_eq (n : Nat) {l : List Nd} {base p : List UInt8} {ev : Go.Value} {r : Sp × Int} (h : seekF n l base p false = some r) : rmdirF l base p ev = rmdirE r l ev := by unfold rmdirF rmdirE; rw [seekF_eq n h]
theorem linkF_eq (n : Nat) {l : List Nd} {base src dst : List UInt8} {ev : Go.Value} {r q : Sp × Int} (h : seekF n l base src false = some r) (h2 : seekF n l base dst false = some q) : linkF l base src dst ev = linkE r q l dst ev := by
  unfold linkF linkE; rw [seekF_eq n h, seekF_eq n h2]
end Go.Proofs.YtdgedcfenpmaoaaGreat

/- What every statement's proof over this translation shares. -/
set_option linter.unusedVariables false
set_option linter.unusedSimpArgs false
namespace Go.Proofs.YtdgedcfenpmaoaaGreat
open Go.ChangeShapes Go.WideShapes Go.ChangeAt Go.RowKit

set_option maxRecDepth 100000
theorem laidOut : laidOutB Tryz.prog = true := by kernel_rfl

def textOf5 : Value → List UInt8
  | .string s => s.data.toList
  | _ => []
def numOf5 : Value → Int
  | .int _ n => n
  | _ => 0

/-- A slice of entries, as its cell reads. -/
theorem ents_of_cell {H : Type} {enc : TypeId × Value → H} {W : World} {fuel : Nat} {cs : List Value} {y : DataW H × List MemPlace}
    (hf : DataW.trod enc Tryz.prog W 0 (fun _ => true) true fuel 40 cs = some y) : ∃ v l, cs = [v] ∧ Ents W v l := by
  rcases Deep.open_slice_pairs Tryz.underlying40 Tryz.underlying75 (by kernel_rfl) rfl rfl (by kernel_rfl) (by kernel_rfl) hf with ⟨hcs, _⟩ | ⟨a, len, cap, m, n, V0, V1, D0, D1, P0, P1, hcs, _, hl, hm, hz, hx, hcell⟩
  · exact ⟨_, [], hcs, Ents.nil_ W⟩
  · simp at hz
    subst hz
    refine ⟨_, (List.range len).map fun i => (textOf5 (V0 i), numOf5 (V1 i)), hcs, some a, m, by simp, by simpa using hl, hm, fun h => ?_⟩
    have hn : ((List.range len).map fun i => (textOf5 (V0 i), numOf5 (V1 i))).length = len := by simp
    rw [hn] at h
    have c0 := (hcell 0 (by omega)).1
    obtain ⟨b, off, spot⟩ := a
    have hspot : spot = none := by simpa [Addr.add] using World.cell?_spot c0
    subst hspot
    refine ⟨b, off, rfl, ?_, fun i hi => ?_⟩
    · rw [Addr.add_lit] at c0; exact World.block_lt_of_cell? W _ c0
    · rw [hn] at hi
      obtain ⟨e0, e1, t0, t1⟩ := hcell i (by omega)
      obtain ⟨s, hs, _, _⟩ := DataW.trod_string Tryz.underlying9 t0
      obtain ⟨z, hz, _, _⟩ := DataW.trod_int Tryz.underlying3 t1
      simp only [List.cons.injEq, and_true] at hs hz
      rw [Addr.add_lit] at e0 e1
      rw [hs] at e0
      rw [hz] at e1
      simp only [List.getElem_map, List.getElem_range, hs, hz, textOf5, numOf5]
      exact ⟨by rw [e0], by rw [← e1, Nat.add_assoc]⟩

theorem list6 {α : Type} {cs : List α} (h : cs.length = 6) : ∃ c0 c1 c2 c3 c4 c5, cs = [c0, c1, c2, c3, c4, c5] := by
  match cs, h with
  | [c0, c1, c2, c3, c4, c5], _ => exact ⟨c0, c1, c2, c3, c4, c5, rfl⟩
theorem size_int : Tryz.prog.cellsOf 3 = 1 := by kernel_rfl
theorem size_str : Tryz.prog.cellsOf 9 = 1 := by kernel_rfl
theorem size_ents : Tryz.prog.cellsOf 40 = 1 := by kernel_rfl
theorem size_nds : Tryz.prog.cellsOf 22 = 1 := by kernel_rfl
theorem size_nd : Tryz.prog.cellsOf 42 = 6 := by kernel_rfl
theorem size_fs : Tryz.prog.cellsOf 24 = 4 := by kernel_rfl

/-- An inode, as its six cells read; its content's length is one of the reading's weights. -/
theorem nd_of_cells {H : Type} {enc : TypeId × Value → H} {W : World} {fuel : Nat} {cs : List Value} {y : DataW H × List MemPlace}
    (hf : DataW.trod enc Tryz.prog W 0 (fun _ => true) true fuel 42 cs = some y) : ∃ x : Nd, cs = (ndC x).toList ∧ Ents W x.ev x.ents ∧ x.data.length ≤ maxLen ∧ x.data.length ∈ y.1.weights Tryz.prog 42 := by
  obtain ⟨xs, n, _, rfl, hl, hlen, hx⟩ := DataW.trod_struct Tryz.underlying42 hf
  obtain ⟨c0, c1, c2, c3, c4, c5, rfl⟩ := list6 (hl.trans size_nd)
  obtain ⟨y0, y1, y2, y3, y4, y5, rfl⟩ := list6 hlen
  have g0 := hx 0 _ rfl
  have g1 := hx 1 _ rfl
  have g2 := hx 2 _ rfl
  have g3 := hx 3 _ rfl
  have g4 := hx 4 _ rfl
  have g5 := hx 5 _ rfl
  simp [size_int, size_str, size_ents] at g0 g1 g2 g3 g4 g5
  obtain ⟨z0, e0, _, _⟩ := DataW.trod_int Tryz.underlying3 g0
  obtain ⟨z1, e1, _, _⟩ := DataW.trod_int Tryz.underlying3 g1
  obtain ⟨z2, e2, _, _⟩ := DataW.trod_int Tryz.underlying3 g2
  obtain ⟨s, e3, w3, m3⟩ := DataW.trod_string Tryz.underlying9 g3
  obtain ⟨z4, e4, _, _⟩ := DataW.trod_int Tryz.underlying3 g4
  obtain ⟨v, l, e5, h5⟩ := ents_of_cell g5
  simp only [List.cons.injEq, and_true] at e0 e1 e2 e3 e4 e5
  subst e0 e1 e2 e3 e4 e5
  refine ⟨⟨z0, z1, z2, s.data.toList, z4, c5, l⟩, by simp [ndC], h5, by simpa using m3, ?_⟩
  have hw := DataW.weights_mem_each (P := Tryz.prog) (ts := [3, 3, 3, 9, 3, 40]) (ds := [y0.1, y1.1, y2.1, y3.1, y4.1, y5.1]) (j := 3) rfl rfl s.data.toList.length (by rw [w3]; simp [DataW.weights])
  simp only [DataW.weights, Tryz.underlying42]
  exact hw
theorem weightsAll_mem {H : Type} {P : Program} {e : TypeId} {l : List (DataW H)} {d : DataW H} (h : d ∈ l) {n : Nat} (hn : n ∈ d.weights P e) : n ∈ DataW.weightsAll P e l := by
  induction l with
  | nil => cases h
  | cons x r ih =>
    simp only [DataW.weightsAll, List.mem_append]
    rcases List.mem_cons.1 h with rfl | h
    · exact .inl hn
    · exact .inr (ih h)

instance : Inhabited Nd := ⟨zeroN⟩
/-- A slice of inodes, as its cell reads. -/
theorem nds_of_cell {H : Type} {enc : TypeId × Value → H} {W : World} {fuel : Nat} {cs : List Value} {y : DataW H × List MemPlace}
    (hf : DataW.trod enc Tryz.prog W 0 (fun _ => true) true fuel 22 cs = some y) : ∃ v l, cs = [v] ∧ Nds W v l ∧ (∀ x ∈ l, x.data.length ≤ maxLen ∧ x.data.length ∈ y.1.weights Tryz.prog 22) := by
  rcases Deep.open_slice Tryz.underlying22 hf with ⟨hcs, _⟩ | ⟨a, len, cap, m, n, D, Pl, hcs, _, hl, hm, hmm, rfl, hcell⟩
  · exact ⟨_, [], hcs, Nds.nil_ W, fun x hx => absurd hx (by simp)⟩
  · simp at hmm
    subst hmm
    rw [size_nd] at hcell
    obtain ⟨X, hX⟩ := Deep.choose_lt (p := fun i (x : Nd) => (∀ j, j < 6 → W.cell? ((a.add (i * 6)).add j) = (ndC x).toList[j]?) ∧ Ents W x.ev x.ents ∧ x.data.length ≤ maxLen ∧ x.data.length ∈ (D i).weights Tryz.prog 42) (fun i (hi : i < m) => by
      obtain ⟨cs', h1, h2⟩ := hcell i hi
      obtain ⟨_, _, h3⟩ := World.cells?_some h1
      obtain ⟨x, rfl, hx⟩ := nd_of_cells h2
      exact ⟨x, h3, hx⟩)
    have hn : ((List.range len).map X).length = len := by simp
    refine ⟨_, (List.range len).map X, hcs, ⟨some a, m, by simp, by simpa using hl, hm, ?_, (fun h => by cases h), fun h => ?_⟩, ?_⟩
    · intro x hx
      obtain ⟨i, hi, rfl⟩ := List.mem_map.1 hx
      exact (hX i (by have := List.mem_range.1 hi; omega)).2.1
    · rw [hn] at h
      have c0 := (hX 0 (by omega)).1 0 (by omega)
      obtain ⟨b, off, spot⟩ := a
      have hspot : spot = none := by
        have := World.cell?_spot (c0.trans (rfl : _ = some (Value.int .i64 (X 0).ino)))
        simpa [Addr.add] using this
      subst hspot
      refine ⟨b, off, rfl, ?_, fun i hi => ?_⟩
      · have := World.block_lt_of_cell? W _ (c0.trans (rfl : _ = some (Value.int .i64 (X 0).ino)))
        simpa [Addr.add] using this
      · rw [hn] at hi
        have hc := (hX i (by omega)).1
        simp only [Addr.add_lit] at hc
        simp only [List.getElem_map, List.getElem_range]
        exact ⟨(hc 0 (by omega)).trans rfl, (hc 1 (by omega)).trans rfl, (hc 2 (by omega)).trans rfl, (hc 3 (by omega)).trans rfl, (hc 4 (by omega)).trans rfl, (hc 5 (by omega)).trans rfl⟩
    · intro x hx
      obtain ⟨i, hi, rfl⟩ := List.mem_map.1 hx
      have hi2 := List.mem_range.1 hi
      have h3 := (hX i (by omega)).2.2
      refine ⟨h3.1, ?_⟩
      simp only [DataW.weights, Tryz.underlying22, List.mem_cons, List.mem_append]
      exact .inr (.inl (weightsAll_mem (List.mem_map.2 ⟨i, hi, rfl⟩) h3.2))

theorem nds_of_trod {H : Type} {enc : TypeId × Value → H} {W : World} {v : Value} {d : DataW H} {p : List MemPlace}
    (k : DataW.Trod enc Tryz.prog W 0 (fun _ => true) true 22 v d p) (ok : ∃ base, Value.okWide Tryz.prog W .any base 22 v) : ∃ l, Nds W v l ∧ ∀ x ∈ l, x.data.length ≤ maxLen ∧ x.data.length ∈ d.weights Tryz.prog 22 := by
  obtain ⟨base, ok⟩ := ok
  obtain ⟨a0, len, cap, rfl⟩ := okWide_slice Tryz.underlying22 ok
  obtain ⟨fuel, hf⟩ := k
  obtain ⟨v, l, e, h1, h2⟩ := nds_of_cell hf
  simp [Value.cells] at e
  subst e
  exact ⟨l, h1, h2⟩
/-- An inode that came in. -/
theorem nd_of_trod {H : Type} {enc : TypeId × Value → H} {W : World} {v : Value} {d : DataW H} {p : List MemPlace}
    (k : DataW.Trod enc Tryz.prog W 0 (fun _ => true) true 42 v d p) (ok : ∃ base, Value.okWide Tryz.prog W .any base 42 v) : ∃ x : Nd, v = .agg (ndC x) ∧ Ents W x.ev x.ents ∧ x.data.length ≤ maxLen ∧ x.data.length ∈ d.weights Tryz.prog 42 := by
  obtain ⟨base, ok⟩ := ok
  obtain ⟨cs, rfl, hsz⟩ := okWide_struct Tryz.underlying42 ok
  obtain ⟨fuel, hf⟩ := k
  obtain ⟨x, e, h1, h2⟩ := nd_of_cells hf
  refine ⟨x, ?_, h1, h2⟩
  have : cs.toList = (ndC x).toList := by simpa [Value.cells] using e
  rw [show cs = ndC x from Array.ext' this]
/-- A table that came in. -/
theorem fs_of_trod {H : Type} {enc : TypeId × Value → H} {W : World} {base : Nat} {v : Value} {d : DataW H} {p : List MemPlace}
    (k : DataW.Trod enc Tryz.prog W 0 (fun _ => true) true 24 v d p) (ok : Value.okWide Tryz.prog W .any base 24 v) : ∃ mi mb nx x l, v = .agg (fsC mi mb nx x) ∧ Nds W x l := by
  obtain ⟨v0, v1, v2, v3, y0, y1, y2, y3, n, rfl, rfl, rfl, h0, h1, h2, h3⟩ := Joins.open_agg4 Tryz.underlying24 (by kernel_rfl) (by kernel_rfl) ok k
  obtain ⟨z0, e0, _, _⟩ := DataW.trod_int Tryz.underlying3 h0
  obtain ⟨z1, e1, _, _⟩ := DataW.trod_int Tryz.underlying3 h1
  obtain ⟨z2, e2, _, _⟩ := DataW.trod_int Tryz.underlying3 h2
  obtain ⟨v, l, e3, h, _⟩ := nds_of_cell h3
  simp only [List.cons.injEq, and_true] at e0 e1 e2 e3
  subst e0 e1 e2 e3
  exact ⟨_, _, _, _, l, rfl, h⟩
end Go.Proofs.YtdgedcfenpmaoaaGreat

/- Walks: the document's Same. -/
set_option linter.unusedVariables false
set_option linter.unusedSimpArgs false
namespace Go.Proofs.YtdgedcfenpmaoaaGreat
open Go.RowKit

theorem refSame_any (la lb : List Ent) (va vb : Value) (w : World) (ha : Ents w va la) (hb : Ents w vb lb) :
    Calls Tryz.prog 89 #[va, vb] w fun e w' => e = .returned (.bool (decide (la = lb))) ∧ Below w.heap.size w w' := by
  obtain ⟨a, ca, rfl, hca, hma, HA⟩ := ha
  obtain ⟨b, cb, rfl, hcb, hmb, HB⟩ := hb
  unfold maxLen at hma hmb
  by_cases hl : la.length = lb.length
  · have HA' := Lib.hid HA
    have HB' := Lib.hid HB
    clear HA HB
    have hne : ((la.length : Int) != (lb.length : Int)) = false := by simp; omega
    have HL := Lib.hid hl
    have hl2 : la.length ≤ lb.length := by omega
    clear hl
    go_enter Tryz.func89, Tryz.ntmps89
    go_wp2
    go_loopw [5] (fun i wr => ∃ k : Nat, k ≤ la.length ∧ i = .int .i64 k ∧ Aside (la.take k = lb.take k) ∧ Below w.heap.size w wr) (fun i _ => la.length - (intOf i).toNat)
    case atStart => exact ⟨0, Nat.zero_le _, rfl, rfl, Below.refl _ _⟩
    case round =>
      obtain ⟨k, hk, rfl, HT, hbw⟩ := hrel
      by_cases hlt : k < la.length
      · have hltb : k < lb.length := by omega
        obtain ⟨ba, oa, rfl, hba, hxa⟩ := HA'.out (by omega)
        obtain ⟨bb, ob, rfl, hbb, hxb⟩ := HB'.out (by omega)
        have c1 : wr.cell? ⟨ba, oa + k * 2, none⟩ = some (.string ⟨la[k].1.toArray⟩) := (hbw.cell (p := ⟨ba, oa + k * 2, none⟩) hba).trans (hxa k hlt).1
        have c2 : wr.cell? ⟨ba, oa + k * 2 + 1, none⟩ = some (.int .i64 la[k].2) := (hbw.cell (p := ⟨ba, oa + k * 2 + 1, none⟩) hba).trans (hxa k hlt).2
        have c3 : wr.cell? ⟨bb, ob + k * 2, none⟩ = some (.string ⟨lb[k].1.toArray⟩) := (hbw.cell (p := ⟨bb, ob + k * 2, none⟩) hbb).trans (hxb k hltb).1
        have c4 : wr.cell? ⟨bb, ob + k * 2 + 1, none⟩ = some (.int .i64 lb[k].2) := (hbw.cell (p := ⟨bb, ob + k * 2 + 1, none⟩) hbb).trans (hxb k hltb).2
        clear hxa hxb
        have k0 : (0 : Int) ≤ (k : Int) := by omega
        have k1 : (k : Int) < (la.length : Int) := by omega
        have k2 : (k : Int) < (lb.length : Int) := by omega
        cases he : la[k].1 == lb[k].1
        · have hne2 : Hid (decide (la = lb) = false) := by
            show _ = _
            rw [decide_eq_false_iff_not]
            intro e
            subst e
            simp at he
          go_wp2
          go_quiet (fail)
          go_wp2
          go_ret
          exact ⟨by rw [hne2.out]; rfl, below_drewN hbw _⟩
        · cases hn : la[k].2 == lb[k].2
          · have hne2 : Hid (decide (la = lb) = false) := by
              show _ = _
              rw [decide_eq_false_iff_not]
              intro e
              subst e
              simp at hn
            go_wp2
            go_quiet (fail)
            go_wp2
            go_ret
            exact ⟨by rw [hne2.out]; rfl, below_drewN hbw _⟩
          · have HT2 : Hid (la.take (k + 1) = lb.take (k + 1)) := by
              show _ = _
              rw [List.take_succ_eq_append_getElem hlt, List.take_succ_eq_append_getElem hltb, HT.out]
              rw [beq_iff_eq] at he hn
              rw [show la[k] = lb[k] from Prod.ext he hn]
            go_wp2
            go_quiet (fail)
            go_wp2
            go_roundw
            case rel => exact ⟨k + 1, by omega, by go_num, HT2.out, below_drewN hbw _⟩
            case measure => simp [intOf]; omega
      · obtain rfl : k = la.length := by omega
        have heq : Hid (decide (la = lb) = true) := by
          show _ = _
          rw [decide_eq_true_eq]
          have := HT.out
          rw [List.take_length, HL.out, List.take_length] at this
          exact this
        clear HT
        go_wp2
        go_ret
        exact ⟨by rw [heq.out]; rfl, hbw⟩
  · have hne : ((la.length : Int) != (lb.length : Int)) = true := by rw [bne_iff_ne]; omega
    have hd : Hid (decide (la = lb) = false) := by
      show _ = _
      rw [decide_eq_false_iff_not]; rintro rfl; exact hl rfl
    clear HA HB
    go_enter Tryz.func89, Tryz.ntmps89
    go_wp2
    go_ret
    exact ⟨by rw [hd.out]; rfl, Below.refl _ _⟩
end Go.Proofs.YtdgedcfenpmaoaaGreat
