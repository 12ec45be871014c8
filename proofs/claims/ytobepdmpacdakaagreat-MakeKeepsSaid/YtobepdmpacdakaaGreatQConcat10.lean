/- Walks: slices.Grow from nil, slices.Concat, of texts. -/
import Derived.Test.YtobepdmpacdakaaGreatQWalkB10
import Derived.Test.YtobepdmpacdakaaGreatQ
set_option linter.unusedVariables false
set_option linter.unusedSimpArgs false
namespace Go.Proofs.YtobepdmpacdakaaGreat
open Go.RowKit

theorem infoT10 : (Tryz.prog.info? 9).map (fun i => (i.zero, i.size, i.bytes)) = some (some (.string ⟨#[]⟩), 1, 16) := by kernel_rfl

/-- A slice of slices of texts. -/
def PartsS (w : World) (v : Value) (ps : List (List (List UInt8))) : Prop :=
  ∃ a cap, v = .slice a ps.length cap ∧ (0 < ps.length → ∃ b off, a = some ⟨b, off, none⟩ ∧ b < w.heap.size ∧ ∀ i (h : i < ps.length), ∃ x, w.cell? ⟨b, off + i, none⟩ = some x ∧ StrsC w x ps[i])

theorem flatS_take (ps : List (List (List UInt8))) (k : Nat) (h : k < ps.length) : (ps.take (k + 1)).flatten = (ps.take k).flatten ++ ps[k] := by
  rw [List.take_succ_eq_append_getElem h, List.flatten_append]; simp
def flatT (ps : List (List (List UInt8))) (k : Nat) : Nat := (ps.take k).flatten.length
theorem flatT_next {ps : List (List (List UInt8))} {k : Nat} (h : k < ps.length) : flatT ps (k + 1) = flatT ps k + ps[k].length := by
  unfold flatT; rw [flatS_take ps k h, List.length_append]
theorem flatT_le (ps : List (List (List UInt8))) (k : Nat) : flatT ps k ≤ ps.flatten.length := by
  unfold flatT; conv => rhs; rw [← List.take_append_drop k ps, List.flatten_append, List.length_append]
  omega
theorem flatT_end (ps : List (List (List UInt8))) : flatT ps ps.length = ps.flatten.length := by unfold flatT; rw [List.take_length]

set_option maxRecDepth 100000 in
set_option maxHeartbeats 2000000 in
theorem GrowS_any (n : Nat) (hn : n ≤ 1000000) (w : World) :
    Calls Tryz.prog 114 #[.slice none 0 0, .int .i64 n] w fun e w' => ∃ v, e = .returned v ∧ w'.ownsRow w.heap.size 9 1 v 0 [] ∧ Below w.heap.size w w' := by
  by_cases h0 : n = 0
  · subst h0
    go_enter Tryz.func114, Tryz.ntmps114
    go_wp2
    go_ret
    exact ⟨_, rfl, World.ownsRow_nil _ _ _ _, Below.refl _ _⟩
  · obtain ⟨i0, hi, hz0, hz1, hz2⟩ := info_parts infoT10
    have hpos : (0 : Int) < (n : Int) := by omega
    have hrz : ∀ ty, (Builtin.append_ #[60, 3] ty #[.slice none 0 0, .int .i64 (n : Int)]).run Tryz.prog w =
        .ok (.slice (some ⟨w.heap.size, 0, none⟩) n (grownCap w n 0 9)) (w.drew.alloc (.cells (#[] ++ Builtin.zeroCells (Value.string ⟨#[]⟩).cells n ++ Builtin.zeroCells (Value.string ⟨#[]⟩).cells (grownCap w n 0 9 - n)) 9)) := fun ty => by
      have h := Lib.run_append_grow_zeros (P := Tryz.prog) w 60 3 ty 9 i0 _ .i64 .i64 Tryz.underlying60 Tryz.underlying3 hi hz0 none 0 0 [] (run_firstCells_none w.drew i0.size 0 0 0) n (by omega) (by rw [hz1]; decide) (by omega) (by omega)
        (by rw [hz2]; omega) (growslice_fits (by omega) (by rw [hz2]; omega))
      simpa using h
    have hGn : n ≤ grownCap w n 0 9 := grownCap_ge w _ _ _
    have hGm := grownCap_le_maxLen w n 0 9 (by unfold maxLen; omega)
    generalize grownCap w n 0 9 = G at hrz hGn hGm
    generalize hC : (#[] ++ Builtin.zeroCells (Value.string ⟨#[]⟩).cells n ++ Builtin.zeroCells (Value.string ⟨#[]⟩).cells (G - n)) = C at hrz
    have hCs : C.size = G * 1 := by
      have e6 : (Value.string ⟨#[]⟩).cells.size = 1 := rfl
      rw [← hC, Array.size_append, Array.size_append, size_zeroCells, size_zeroCells, e6]
      simp; omega
    clear hC
    have hG63 : G ≤ 9223372036854775807 := by unfold maxLen at hGm; omega
    go_enter Tryz.func114, Tryz.ntmps114
    go_wp2_with (at_builtin; refine Lib.wpList_append_run _ rfl _ _ _ _ rfl _ _ rfl rfl _ _ (hrz _) ?_)
    all_goals (go_ret; exact ⟨_, rfl, World.ownsRow_made w.drew C G (Nat.le_refl _) hGm hCs, (Below.refl _ w).drew.alloc (Nat.le_refl _) _⟩)

/-- What is new: an owned row of texts. -/
def NewStrs (w : World) (L : List (List UInt8)) (v : Value) (w' : World) : Prop := w'.ownsRow w.heap.size 9 1 v L.length (strsV L) ∧ Below w.heap.size w w'

set_option maxHeartbeats 4000000 in
theorem ConcatS_any (ps : List (List (List UInt8))) (v : Value) (w : World) (hv : PartsS w v ps) (hp : ps.length ≤ 1000000) (hn : ps.flatten.length ≤ 1000000) :
    Calls Tryz.prog 97 #[v] w fun e w' => ∃ x, e = .returned x ∧ NewStrs w ps.flatten x w' := by
  obtain ⟨a, ca, rfl, HA0⟩ := hv
  have HA := Lib.hid HA0
  clear HA0
  obtain ⟨i0, hi, hz0, hz1, hz2⟩ := info_parts infoT10
  have hle := flatT_le ps
  have hend := flatT_end ps
  generalize hF : ps.flatten = F at *
  have HF := Lib.hid hF
  clear hF
  go_enter Tryz.func97, Tryz.ntmps97
  go_wp2
  go_loop [3, 11] (fun s3 s11 => ∃ k : Nat, k ≤ ps.length ∧ s11 = .int .i64 k ∧ s3 = .int .i64 (flatT ps k)) (fun _ s11 => ps.length - (intOf s11).toNat)
  case atStart => exact ⟨0, Nat.zero_le _, rfl, rfl⟩
  case round =>
    obtain ⟨k, hk, rfl, rfl⟩ := hrel
    by_cases hlt : k < ps.length
    · obtain ⟨b, o, rfl, hb, hcl⟩ := HA.out (by omega)
      obtain ⟨x, c1, ⟨⟨ax, cx, rfl, hx1, hx2⟩, hx3⟩⟩ := hcl k hlt
      clear hcl hx3 hx1 hx2
      have hf1 := hle (k + 1)
      have HN := Lib.hid (flatT_next hlt)
      have hfl : flatT ps k + ps[k].length ≤ 1000000 := by rw [HN.out] at hf1; omega
      have hng : ¬ ((flatT ps k : Int) + (ps[k].length : Int) < 0) := by omega
      go_wp2
      go_round
      case rel => exact ⟨k + 1, by omega, by go_num, by rw [HN.out]; go_num⟩
      case measure => simp [intOf]; omega
    · obtain rfl : k = ps.length := by omega
      rw [hend]
      go_wp2_with fail; refine (GrowS_any F.length hn _).mono ?_; rintro e w1 ⟨vg, rfl, hown, hb1⟩
      have HO := Lib.hid hown
      clear hown
      go_wp2
      go_loopw [6, 27] (fun s6 s27 wr => ∃ k : Nat, k ≤ ps.length ∧ s27 = .int .i64 k ∧ Below w.heap.size w wr ∧ Aside (wr.ownsRow w.heap.size 9 1 s6 (flatT ps k) (strsV (ps.take k).flatten))) (fun _ s27 _ => ps.length - (intOf s27).toNat)
      case atStart => exact ⟨0, Nat.zero_le _, rfl, hb1, by (show World.ownsRow _ _ _ _ _ _ _); simpa [flatT, strsV] using HO.out⟩
      case round =>
        clear HO hb1
        obtain ⟨k, hk, rfl, hbw, HO⟩ := hrel
        by_cases hlt : k < ps.length
        · obtain ⟨b, o, rfl, hb, hcl⟩ := HA.out (by omega)
          obtain ⟨x, c0, hx⟩ := hcl k hlt
          have c1 : wr.cell? ⟨b, o + k, none⟩ = some x := (hbw.cell (p := ⟨b, o + k, none⟩) hb).trans c0
          clear hcl c0
          have hxs := hx.below hbw
          obtain ⟨⟨ax, cx, rfl, hx1, hx2⟩, hx3⟩ := id hx
          clear hx3 hx1 hx2 hx
          have hf1 := hle (k + 1)
          have HN := Lib.hid (flatT_next hlt)
          have hfl : flatT ps k + ps[k].length ≤ F.length := by rw [HN.out] at hf1; omega
          have HFT := Lib.hid (flatS_take ps k hlt)
          have HX0 : Hid (ax = none → ps[k].length = 0 ∧ cx = 0) := (strs_src hxs).2.1
          have HXS := Lib.hid hxs
          have hsz := hbw.size
          clear hxs
          go_wp2_with (at_builtin; refine wpList_append_any rfl (.tmp 31) (.tmp 32) 60 9 rfl Tryz.underlying60 hi hz0 hz1 hz2 rfl (by decide) (by decide) w.heap.size ax ps[k].length cx (strsV ps[k]) rfl rfl HO.out HX0.out (strsV_len _) (strs_src HXS.out).2.2 (strsV_one _) (by omega) hsz ?_; intro v2 w2 hown2 hb2)
          have HO2 : Hid (w2.ownsRow w.heap.size 9 1 v2 (flatT ps (k + 1)) (strsV (ps.take (k + 1)).flatten)) := by
            (show World.ownsRow _ _ _ _ _ _ _); rw [HN.out, HFT.out, strsV_append]; exact hown2
          have hb3 := hbw.trans hb2
          clear hown2 hb2
          go_roundw
          case rel => exact ⟨k + 1, by omega, by go_num, hb3, HO2.out⟩
          case measure => simp [intOf]; omega
        · obtain rfl : k = ps.length := by omega
          have h1 := HO.out
          rw [hend, List.take_length, HF.out] at h1
          have HBF := Lib.hid h1
          clear h1
          clear HO
          go_wp2
          go_ret
          exact ⟨_, rfl, HBF.out, hbw⟩
end Go.Proofs.YtobepdmpacdakaaGreat
