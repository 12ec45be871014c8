/- Walks: Drop. -/
import Derived.Test.YtkdmfeikikmiiaaGreatVWalkE05
set_option linter.unusedVariables false
set_option linter.unusedSimpArgs false
namespace Go.Proofs.YtkdmfeikikmiiaaGreat
open Go.RowKit
set_option maxHeartbeats 4000000 in
theorem DropN_any (mi mb nx n : Int) (l : List Nd) (v : Value) (w : World) (hv : Nds w v l) (hs : riseP l) (hl : l.length ≤ 999990) (hd : ∀ y ∈ l, y.data.length ≤ 281474976710656) :
    Calls Tryz.prog 108 #[.agg (fsC mi mb nx v), .int .i64 n] w fun e w' => ∃ y, e = .returned (.agg (fsC mi mb nx y)) ∧ NewNds w (dropN l n) y w' := by
  obtain ⟨a, ca, rfl, hc, hm, hea, hna, HA0⟩ := id hv
  clear HA0 hea
  unfold maxLen at hm
  have b0 := (Blk.new w 28 (fsC mi mb nx (.slice a l.length ca))).alloc (.cells (fsC 0 0 0 (.slice none 0 0)) 28)
  have b2 := Blk.new (w.alloc (.cells (fsC mi mb nx (.slice a l.length ca)) 28)) 28 (fsC 0 0 0 (.slice none 0 0))
  have hB0 : Below w.heap.size w ((w.alloc (.cells (fsC mi mb nx (.slice a l.length ca)) 28)).alloc (.cells (fsC 0 0 0 (.slice none 0 0)) 28)) := ((Below.refl _ w).alloc (Nat.le_refl _) _).alloc (by simp) _
  have hv2 := hv.below hB0
  simp only [World.size_alloc] at b2
  clear hv
  go_enter Tryz.func108, Tryz.ntmps108
  go_wp2_with fail
  refine (searchN_any l n _ _ hv2 hs (by omega)).mono ?_
  rintro e w1 ⟨lo, rfl, hS, hb⟩
  have hlo := hS.1
  have hv3 := hv2.below hb
  replace b0 := b0.next hb
  replace b2 := b2.next hb
  have hB1 := hB0.trans (hb.mono hB0.size)
  have hlt1 : w.heap.size + 2 ≤ w1.heap.size := by have := hb.size; simp at this; omega
  clear hB0 hv2 hb
  obtain ⟨⟨p0, p1, p2, p3⟩, _⟩ := b0.four
  have HDL := Lib.hid (dropN_len l n)
  cases hh : hasN l n
  · have hdr : dropN l n = l := by
      have h1 := hS.2.2.2 hh
      have h2 := hS.2.1
      unfold dropN; rw [← h1, ← h2, List.take_append_drop]
    have hP := partsN_one hv3 26 w1.heap.size rfl
    have hBw := hB1.alloc hB1.size (.cells #[.slice a l.length ca] 26)
    have b3 := b2.alloc (.cells #[.slice a l.length ca] 26)
    have hH := holding_any mi mb nx (.slice a l.length ca) [l] _ _ hP (by simp) (by simp; omega) (by simpa using hd)
    rw [show [l].flatten = l by simp] at hH
    clear hP hS
    go_wp2_with fail
    refine hH.mono ?_
    rintro e w5 ⟨y, rfl, hown, hb⟩
    obtain ⟨ay, cy, rfl⟩ := own_slice hown
    obtain ⟨W', hW', hb4, hnew⟩ := store_end (w := w) mi mb nx (b3.next hb) hown (hBw.trans (hb.mono hBw.size)) hBw.size (by omega) b3.lt
    obtain ⟨⟨q0, q1, q2, q3⟩, e0, e1, e2, e3⟩ := (b3.next hb).four
    go_wp2
    obtain ⟨⟨r0, r1, r2, r3⟩, _⟩ := hb4.four
    refine bodyPost_ret (v := .agg (fsC mi mb nx (.slice ay l.length cy))) (by simp [results, Tryz.f108, go_sem, r0, r1, r2, r3]) rfl ?_
    exact ⟨_, rfl, by rw [hdr]; exact hnew⟩
  · obtain ⟨hk, _, hB⟩ := hS.2.2.1 hh
    have hah : Nds w1 (.slice a lo ca) (aheadN l n) := by rw [← hS.2.1]; exact Nds.head hv3 lo ca hlo (by omega) (by unfold maxLen; omega) hna
    have h0 : (0 : Int) ≤ (lo : Int) := by omega
    have h1 : (lo : Int) ≤ (l.length : Int) := by omega
    have h2 : (lo : Int) ≤ (ca : Int) := by omega
    have h3 : (lo : Int) + 1 ≤ (l.length : Int) := by omega
    have h4 : (lo : Int) + 1 ≤ (ca : Int) := by omega
    have h5 : ((lo : Int) + 1).toNat = lo + 1 := by omega
    have h6 : IntKind.i64.wrap ((lo : Int) + 1) = (lo : Int) + 1 := by rw [IntKind.wrap_i64]; omega
    have h7 : (0 : Int) ≤ (lo : Int) + 1 := by omega
    obtain ⟨a2, c2, ha2, hbe⟩ : ∃ a2 c2, (if lo + 1 = ca then a2 = a ∧ c2 = 0 else a2 = a.map (fun x => x.add ((lo + 1) * 6)) ∧ c2 = ca - (lo + 1)) ∧ Nds w1 (.slice a2 (l.length - (lo + 1)) c2) (behindN l n) := by
      by_cases hcp : lo + 1 = ca
      · exact ⟨a, 0, by rw [if_pos hcp]; exact ⟨rfl, rfl⟩, by rw [← hB]; exact Nds.tail hv3 (lo + 1) _ _ _ hk rfl (by omega) (by unfold maxLen; omega) (fun h => rfl) (fun h => by omega)⟩
      · exact ⟨_, _, by rw [if_neg hcp]; exact ⟨rfl, rfl⟩, by rw [← hB]; exact Nds.tail hv3 (lo + 1) _ _ _ hk rfl (by omega) (by unfold maxLen; omega) (fun h => by have := hna (by simpa using h); omega) (fun h => rfl)⟩
    have hP : PartsN (w1.alloc (.cells #[.slice a lo ca, .slice a2 (l.length - (lo + 1)) c2] 26)).drew (.slice (some ⟨w1.heap.size, 0, none⟩) 2 2) [aheadN l n, behindN l n] :=
      partsN_two hah hbe 26 w1.heap.size rfl
    have hBw : Below w.heap.size w (w1.alloc (.cells #[.slice a lo ca, .slice a2 (l.length - (lo + 1)) c2] 26)).drew := (hB1.alloc hB1.size _).drew
    have b3 : Blk (w1.alloc (.cells #[.slice a lo ca, .slice a2 (l.length - (lo + 1)) c2] 26)).drew (w.heap.size + 1) 28 (fsC 0 0 0 (.slice none 0 0)) := b2.alloc _
    have hfl : [aheadN l n, behindN l n].flatten = dropN l n := by simp [dropN]
    have hH := holding_any mi mb nx (.slice a l.length ca) _ _ _ hP (by simp) (by rw [hfl]; have := HDL.out; omega) (by
      rw [hfl]; intro z hz
      exact hd z (mem_dropN hz))
    rw [hfl] at hH
    have HH := Lib.hid (show _ ∧ _ from ⟨hBw, b3⟩)
    obtain ⟨⟨u0, u1, u2, u3⟩, _⟩ := (b0.alloc (.cells #[.slice a lo ca, .slice a2 (l.length - (lo + 1)) c2] 26)).four
    have ne1 : ¬ (w.heap.size = w1.heap.size) := by omega
    have ne2 : ¬ (w1.heap.size = w.heap.size) := by omega
    have hNL := HDL.out
    clear hah hP hBw b3 hfl b0 b2 hS hv3 hbe HDL
    by_cases hcp : lo + 1 = ca
    · rw [if_pos hcp] at ha2
      obtain ⟨rfl, rfl⟩ := ha2
      subst hcp
      have e0 : l.length - (lo + 1) = 0 := by omega
      simp only [e0] at hH HH u0 u1 u2 u3
      go_upto_region 4 with fail
      go_region_with (go_at_call 121; refine hH.mono ?_; rintro e w5 ⟨y, rfl, hown, hb⟩; obtain ⟨ay, cy, rfl⟩ := own_slice hown; obtain ⟨hBw, b3⟩ := HH.out; obtain ⟨W', hW', hb4, hnew⟩ := store_end (w := w) mi mb nx (b3.next hb) hown (hBw.trans (hb.mono hBw.size)) hBw.size (by omega) b3.lt; obtain ⟨⟨q0, q1, q2, q3⟩, e0, e1, e2, e3⟩ := (b3.next hb).four)
      all_goals go_wp2
      all_goals obtain ⟨⟨r0, r1, r2, r3⟩, _⟩ := hb4.four
      all_goals refine bodyPost_ret (v := .agg (fsC mi mb nx (.slice ay (dropN l n).length cy))) (by simp [results, Tryz.f108, go_sem, r0, r1, r2, r3]) rfl ?_
      all_goals exact ⟨_, rfl, hnew⟩
    · rw [if_neg hcp] at ha2
      obtain ⟨rfl, rfl⟩ := ha2
      have hcp2 : ¬ (ca = lo + 1) := fun h => hcp h.symm
      go_upto_region 4 with fail
      go_region_with (go_at_call 121; refine hH.mono ?_; rintro e w5 ⟨y, rfl, hown, hb⟩; obtain ⟨ay, cy, rfl⟩ := own_slice hown; obtain ⟨hBw, b3⟩ := HH.out; obtain ⟨W', hW', hb4, hnew⟩ := store_end (w := w) mi mb nx (b3.next hb) hown (hBw.trans (hb.mono hBw.size)) hBw.size (by omega) b3.lt; obtain ⟨⟨q0, q1, q2, q3⟩, e0, e1, e2, e3⟩ := (b3.next hb).four)
      all_goals go_wp2
      all_goals obtain ⟨⟨r0, r1, r2, r3⟩, _⟩ := hb4.four
      all_goals refine bodyPost_ret (v := .agg (fsC mi mb nx (.slice ay (dropN l n).length cy))) (by simp [results, Tryz.f108, go_sem, r0, r1, r2, r3]) rfl ?_
      all_goals exact ⟨_, rfl, hnew⟩
end Go.Proofs.YtkdmfeikikmiiaaGreat
