/- Walks: texts in memory; Same, Few, Join. -/
import Derived.Test.YthhnkakobjbdlaaPure01e
import Derived.Test.YthhnkakobjbdlaaWalkE01
import Derived.Test.YthhnkakobjbdlaaBld
import Derived.Lib.AppendStr
set_option linter.unusedVariables false
set_option linter.unusedSimpArgs false
namespace Go.Proofs.Ythhnkakobjbdlaa
open Go.RowKit

/-- A slice that reads as these texts. -/
def Strs (w : World) (v : Value) (l : List (List UInt8)) : Prop :=
  ∃ a cap, v = .slice a l.length cap ∧ l.length ≤ maxLen ∧ (0 < l.length → ∃ b off, a = some ⟨b, off, none⟩ ∧ b < w.heap.size ∧ ∀ i (h : i < l.length), w.cell? ⟨b, off + i, none⟩ = some (.string ⟨l[i].toArray⟩))

theorem Strs.below {w w' : World} {v : Value} {l : List (List UInt8)} (h : Strs w v l) (hb : Below w.heap.size w w') : Strs w' v l := by
  obtain ⟨a, cap, rfl, hm, h1⟩ := h
  refine ⟨a, cap, rfl, hm, fun hl => ?_⟩
  obtain ⟨b, off, rfl, hlt, hc⟩ := h1 hl
  exact ⟨b, off, rfl, Nat.lt_of_lt_of_le hlt hb.size, fun i hi => (hb.cell (p := ⟨b, off + i, none⟩) hlt).trans (hc i hi)⟩

theorem own_strs {w : World} {base : Nat} {e : TypeId} {v : Value} {n : Nat} {l : List (List UInt8)} (h : w.ownsRow base e 1 v n (strsV l)) : Strs w v l := by
  have hlen := h.1
  simp [strsV] at hlen
  subst hlen
  rcases h.2 with ⟨rfl, h0⟩ | ⟨g, cap, cur, rfl, hg, hh, hnc, hcm, hsz, htk⟩
  · have : l = [] := List.eq_nil_of_length_eq_zero h0
    subst this
    exact ⟨none, 0, rfl, Nat.zero_le _, fun h => absurd h (by simp)⟩
  · refine ⟨_, cap, rfl, by omega, fun _ => ⟨g, 0, rfl, ?_, fun i hi => ?_⟩⟩
    · exact (h.lt g rfl).2
    · have hc := World.ownsRow.cells h (g := g) rfl i (.string ⟨l[i].toArray⟩) (by simp [strsV, List.getElem?_eq_getElem hi])
      rw [Addr.add_lit] at hc
      exact hc

theorem Same_any (la lb : List (List UInt8)) (va vb : Value) (w : World) (ha : Strs w va la) (hb : Strs w vb lb) :
    Calls Try.prog 18 #[va, vb] w fun e w' => e = .returned (.bool (decide (la = lb))) ∧ Below w.heap.size w w' := by
  obtain ⟨a, ca, rfl, hma, HA⟩ := ha
  obtain ⟨b, cb, rfl, hmb, HB⟩ := hb
  unfold maxLen at hma hmb
  by_cases hl : la.length = lb.length
  · have HA' := Lib.hid HA
    have HB' := Lib.hid HB
    clear HA HB
    have hne : ((la.length : Int) != (lb.length : Int)) = false := by simp; omega
    have HL := Lib.hid hl
    have hl2 : la.length ≤ lb.length := by omega
    clear hl
    go_enter Try.func18, Try.ntmps18
    go_wp2
    go_loopw [5] (fun i wr => ∃ k : Nat, k ≤ la.length ∧ i = .int .i64 k ∧ Aside (la.take k = lb.take k) ∧ Below w.heap.size w wr) (fun i _ => la.length - (intOf i).toNat)
    case atStart => exact ⟨0, Nat.zero_le _, rfl, rfl, Below.refl _ _⟩
    case round =>
      obtain ⟨k, hk, rfl, HT, hbw⟩ := hrel
      by_cases hlt : k < la.length
      · have hltb : k < lb.length := by omega
        obtain ⟨ba, oa, rfl, hba, hca⟩ := HA'.out (by omega)
        obtain ⟨bb, ob, rfl, hbb, hcb⟩ := HB'.out (by omega)
        have c1 : wr.cell? ⟨ba, oa + k, none⟩ = some (.string ⟨la[k].toArray⟩) := (hbw.cell (p := ⟨ba, oa + k, none⟩) hba).trans (hca k hlt)
        have c2 : wr.cell? ⟨bb, ob + k, none⟩ = some (.string ⟨lb[k].toArray⟩) := (hbw.cell (p := ⟨bb, ob + k, none⟩) hbb).trans (hcb k hltb)
        clear hca hcb
        have k0 : (0 : Int) ≤ (k : Int) := by omega
        have k1 : (k : Int) < (la.length : Int) := by omega
        have k2 : (k : Int) < (lb.length : Int) := by omega
        cases he : la[k] == lb[k]
        · have hne2 : Hid (decide (la = lb) = false) := by
            show _ = _
            rw [decide_eq_false_iff_not]
            intro e
            subst e
            simp at he
          go_wp2
          go_quiet (fail)
          go_wp2
          go_ret
          exact ⟨by rw [hne2.out]; rfl, below_drewN hbw _⟩
        · have HT2 : Hid (la.take (k + 1) = lb.take (k + 1)) := by
            show _ = _
            rw [List.take_succ_eq_append_getElem hlt, List.take_succ_eq_append_getElem hltb, HT.out]
            rw [beq_iff_eq] at he; rw [he]
          go_wp2
          go_quiet (fail)
          go_wp2
          go_roundw
          case rel => exact ⟨k + 1, by omega, by go_num, HT2.out, below_drewN hbw _⟩
          case measure => simp [intOf]; omega
      · obtain rfl : k = la.length := by omega
        have heq : Hid (decide (la = lb) = true) := by
          show _ = _
          rw [decide_eq_true_eq]
          have := HT.out
          rw [List.take_length, HL.out, List.take_length] at this
          exact this
        clear HT
        go_wp2
        go_ret
        exact ⟨by rw [heq.out]; rfl, hbw⟩
  · have hne : ((la.length : Int) != (lb.length : Int)) = true := by rw [bne_iff_ne]; omega
    have hd : Hid (decide (la = lb) = false) := by
      show _ = _
      rw [decide_eq_false_iff_not]; rintro rfl; exact hl rfl
    clear HA HB
    go_enter Try.func18, Try.ntmps18
    go_wp2
    go_ret
    exact ⟨by rw [hd.out]; rfl, Below.refl _ _⟩

theorem Few_any (l : List (List UInt8)) (v : Value) (w : World) (hv : Strs w v l) :
    Calls Try.prog 19 #[v] w fun e w' => e = .returned (.bool (fewB l)) ∧ w = w' := by
  obtain ⟨a, ca, rfl, hm, HA0⟩ := hv
  unfold maxLen at hm
  have HA := Lib.hid HA0
  clear HA0
  go_enter Try.func19, Try.ntmps19
  go_wp2
  go_loop [3] (fun i => ∃ k : Nat, k ≤ 100 ∧ i = .int .i64 k ∧ Aside (∀ j (hj : j < l.length), j < k → l[j].length ≤ 300)) (fun i => 100 - (intOf i).toNat)
  case atStart => exact ⟨0, Nat.zero_le _, rfl, fun j hj h => absurd h (by omega)⟩
  case round =>
    obtain ⟨k, hk, rfl, HT⟩ := hrel
    by_cases hlt : k < l.length
    · by_cases h100 : k < 100
      · obtain ⟨b, o, rfl, hb, hc⟩ := HA.out (by omega)
        have c1 : w.cell? ⟨b, o + k, none⟩ = some (.string ⟨l[k].toArray⟩) := hc k hlt
        clear hc
        by_cases h3 : l[k].length ≤ 300
        · have HT2 : Hid (∀ j (hj : j < l.length), j < k + 1 → l[j].length ≤ 300) := by
            intro j hj h
            rcases Nat.lt_or_ge j k with h' | h'
            · exact HT.out j hj h'
            · obtain rfl : j = k := by omega
              exact h3
          go_wp2
          go_round
          case rel => exact ⟨k + 1, by omega, by go_num, HT2.out⟩
          case measure => simp [intOf]; omega
        · have HN := Lib.hid (fewB_no hlt h100 (by omega))
          go_wp2
          go_ret
          exact ⟨by rw [HN.out]; rfl, rfl⟩
      · have HY := Lib.hid (fewB_yes HT.out (fun h => h100 h.2))
        go_wp2
        go_ret
        exact ⟨ret_bool (by rw [HY.out]; simp; omega), rfl⟩
    · have HY := Lib.hid (fewB_yes HT.out (fun h => hlt h.1))
      go_wp2
      go_ret
      exact ⟨ret_bool (by rw [HY.out]; simp; omega), rfl⟩

theorem bytesV_str (l : List UInt8) : Lib.strCells ⟨l.toArray⟩ = bytesV l := by simp [Lib.strCells, bytesV]

set_option maxHeartbeats 800000 in
theorem Join_any (l : List (List UInt8)) (v : Value) (w : World) (hv : Strs w v l) (hl : l.length ≤ 1000001) (hj : (joinB l).length ≤ 1000000) :
    Calls Try.prog 20 #[v] w fun e w' => e = .returned (.string ⟨(joinB l).toArray⟩) ∧ Below w.heap.size w w' := by
  obtain ⟨a, ca, rfl, hm, HA0⟩ := hv
  have HA := Lib.hid HA0
  clear HA0 hm
  have hg0 := bld_new w
  have B0 : Below w.heap.size w (w.alloc (.cells #[.pointer none, .slice none 0 0] 42)) := (Below.refl _ w).alloc (Nat.le_refl _) _
  go_enter Try.func20, Try.ntmps20
  go_wp2
  go_loopw [8] (fun i wr => ∃ k : Nat, k ≤ l.length ∧ i = .int .i64 k ∧ BldW w.heap.size w.heap.size (joinB (l.take k)) wr ∧ Below w.heap.size w wr) (fun i _ => l.length - (intOf i).toNat)
  case atStart => exact ⟨0, Nat.zero_le _, rfl, hg0, B0⟩
  case round =>
    obtain ⟨k, hk, rfl, hown, hb⟩ := hrel
    by_cases hlt : k < l.length
    · obtain ⟨ba, oa, rfl, hba, hca⟩ := HA.out (by omega)
      have c1 : wr.cell? ⟨ba, oa + k, none⟩ = some (.string ⟨l[k].toArray⟩) := (hb.cell (p := ⟨ba, oa + k, none⟩) hba).trans (hca k hlt)
      clear hca
      have hjt := Lib.hid (joinB_take l k hlt)
      have hj1 := joinB_take_le l (l.length - (k + 1)) (k + 1) (by omega)
      have hj0 := joinB_take_le l (l.length - k) k (by omega)
      by_cases h0 : k = 0
      · subst h0
        have hsz : l[0].length ≤ 1000000 := by rw [hjt.out, if_pos rfl] at hj1; omega
        clear hj1 hj0
        have hown' : BldW w.heap.size w.heap.size [] wr := by simpa [joinB] using hown
        clear hown
        simp only [Nat.add_zero] at c1
        go_wp2_with fail
        refine (bldText_any w.heap.size w.heap.size [] l[0] _ hown' (by simp; omega) hb.size).mono ?_
        rintro e w3 ⟨rfl, hown3, hb3⟩
        go_wp2
        go_roundw
        case rel => exact ⟨1, by omega, rfl, by (show BldW _ _ (joinB (l.take (0 + 1))) _); rw [hjt.out]; simpa using hown3, hb.trans hb3⟩
        case measure => simp [intOf]; omega
      · have hk0 : (0 : Int) < (k : Int) := by omega
        have hsz : (joinB (l.take k)).length + l[k].length + 1 ≤ 1000000 := by rw [hjt.out, if_neg h0] at hj1; simp at hj1; omega
        clear hj1
        have HKZ := Lib.hid h0
        clear h0
        go_wp2_with fail
        refine (bldByte_any w.heap.size w.heap.size _ 32 _ hown (by omega) hb.size).mono ?_
        rintro e w3 ⟨rfl, hown3, hb3⟩
        have hbl := hb.trans hb3
        have c2 := (hb3.cell (p := ⟨ba, oa + k, none⟩) hba).trans c1
        clear c1 hown
        go_wp2_with fail
        refine (bldText_any w.heap.size w.heap.size _ l[k] _ hown3 (by simp; omega) hbl.size).mono ?_
        rintro e w4 ⟨rfl, hown4, hb4⟩
        go_wp2
        go_roundw
        case rel => exact ⟨k + 1, by omega, by go_num, by rw [hjt.out, if_neg HKZ.out]; simpa using hown4, hbl.trans hb4⟩
        case measure => simp [intOf]; omega
    · obtain rfl : k = l.length := by omega
      rw [List.take_length] at hown
      go_wp2_with fail
      refine (bldString_any w.heap.size w.heap.size _ _ hown hb.size).mono ?_
      rintro e w2 ⟨rfl, b2⟩
      go_wp2
      go_ret
      exact ⟨rfl, hb.trans b2⟩
end Go.Proofs.Ythhnkakobjbdlaa
