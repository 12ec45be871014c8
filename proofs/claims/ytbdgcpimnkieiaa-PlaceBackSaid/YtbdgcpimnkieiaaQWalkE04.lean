/- Walks: the parts' entries in one list. -/
import Derived.Test.YtbdgcpimnkieiaaQ
import Derived.OwnWalk
import Derived.Deep.LoopGhost
namespace Go.Proofs.Ytbdgcpimnkieiaa
open Go.RowKit

theorem infoE : (Try.prog.info? 58).map (fun i => (i.zero, i.size, i.bytes)) = some (some (.agg #[.string ⟨#[]⟩, .int .i64 0]), 2, 24) := by kernel_rfl
theorem sizeE : (Try.prog.info? 58).map (·.size) = some 2 := by kernel_rfl

/-- A slice of slices of entries. -/
def Parts (w : World) (v : Value) (ps : List (List Ent)) : Prop :=
  ∃ a cap, v = .slice a ps.length cap ∧ (0 < ps.length → ∃ b off, a = some ⟨b, off, none⟩ ∧ b < w.heap.size ∧ ∀ i (h : i < ps.length), ∃ x, w.cell? ⟨b, off + i, none⟩ = some x ∧ Ents w x ps[i])

/-- New entries: a block of the call's own. -/
def NewEnts (w : World) (L : List Ent) (e : Ending) (w' : World) : Prop :=
  ∃ g, e = .returned (.slice (some ⟨g, 0, none⟩) L.length L.length) ∧ w.heap.size ≤ g ∧ Blk w' g 58 (entsV L).toArray ∧ Below w.heap.size w w'
theorem blk_ents {w : World} {g : Nat} {t : TypeId} {L : List Ent} (h : Blk w g t (entsV L).toArray) (hl : L.length ≤ maxLen) : Ents w (.slice (some ⟨g, 0, none⟩) L.length L.length) L := by
  refine ⟨_, _, rfl, Nat.le_refl _, hl, fun _ => ⟨g, 0, rfl, h.lt, fun i hi => ?_⟩⟩
  rw [h.cell, h.cell, Nat.zero_add]
  simpa using entsV_at L i hi

theorem flat_take (ps : List (List Ent)) (k : Nat) (h : k < ps.length) : (ps.take (k + 1)).flatten = (ps.take k).flatten ++ ps[k] := by
  rw [List.take_succ_eq_append_getElem h, List.flatten_append]; simp
theorem flat_le (ps : List (List Ent)) (k : Nat) : (ps.take k).flatten.length ≤ ps.flatten.length := by
  conv => rhs; rw [← List.take_append_drop k ps, List.flatten_append, List.length_append]
  omega
theorem flat_mem {ps : List (List Ent)} {k : Nat} (h : k < ps.length) {e : Ent} (he : e ∈ ps[k]) : e ∈ ps.flatten := List.mem_flatten.2 ⟨_, List.getElem_mem h, he⟩

def flatN (ps : List (List Ent)) (k : Nat) : Nat := (ps.take k).flatten.length
theorem flatN_next {ps : List (List Ent)} {k : Nat} (h : k < ps.length) : flatN ps (k + 1) = flatN ps k + ps[k].length := by
  unfold flatN; rw [flat_take ps k h, List.length_append]
theorem flatN_le (ps : List (List Ent)) (k : Nat) : flatN ps k ≤ ps.flatten.length := flat_le ps k
theorem flatN_end (ps : List (List Ent)) : flatN ps ps.length = ps.flatten.length := by unfold flatN; rw [List.take_length]
theorem splice_ents (F p : List Ent) (Z : List Value) (h : p.length * 2 ≤ Z.length) : splice (entsV F ++ Z) (F.length * 2) (entsV p) = entsV (F ++ p) ++ Z.drop (p.length * 2) := by
  unfold splice
  rw [entsV_append, List.take_append_of_le_length (by rw [entsV_len]; exact Nat.le_refl _), List.take_of_length_le (by rw [entsV_len]; exact Nat.le_refl _), entsV_len,
    List.drop_append, entsV_len, List.drop_eq_nil_of_le (by rw [entsV_len]; omega), List.nil_append, show F.length * 2 + p.length * 2 - F.length * 2 = p.length * 2 from by omega, List.append_assoc]

set_option maxHeartbeats 2000000 in
theorem join_any (ps : List (List Ent)) (v : Value) (w : World) (hv : Parts w v ps) (hp : ps.length ≤ 1000000) (hn : ps.flatten.length ≤ 1000000) (hsh : shortP 100000000 ps.flatten) :
    Calls Try.prog 56 #[v] w (NewEnts w ps.flatten) := by
  obtain ⟨a, ca, rfl, HA0⟩ := hv
  have HA := Lib.hid HA0
  have HSH := Lib.hid hsh
  clear HA0 hsh
  obtain ⟨i0, hi, hz0, hz1, hz2⟩ := info_parts infoE
  have hle := flatN_le ps
  have hend := flatN_end ps
  generalize hF : ps.flatten = F at *
  have HF := Lib.hid hF
  clear hF
  go_enter Try.func56, Try.ntmps56
  go_wp2
  go_loop [3, 13] (fun s3 s13 => ∃ k : Nat, k ≤ ps.length ∧ s13 = .int .i64 k ∧ s3 = .int .i64 (flatN ps k)) (fun _ s13 => ps.length - (intOf s13).toNat)
  case atStart => exact ⟨0, Nat.zero_le _, rfl, rfl⟩
  case round =>
    obtain ⟨k, hk, rfl, rfl⟩ := hrel
    by_cases hlt : k < ps.length
    · obtain ⟨b, o, rfl, hb, hcl⟩ := HA.out (by omega)
      obtain ⟨x, c1, ⟨ax, cx, rfl, hx1, hx2, hx3⟩⟩ := hcl k hlt
      clear hcl hx3 hx1 hx2
      have hf1 := hle (k + 1)
      have HN := Lib.hid (flatN_next hlt)
      have hfl : flatN ps k + ps[k].length ≤ 1000000 := by rw [HN.out] at hf1; omega
      go_wp2
      go_round
      case rel => exact ⟨k + 1, by omega, by go_num, by rw [HN.out]; go_num⟩
      case measure => simp [intOf]; omega
    · obtain rfl : k = ps.length := by omega
      rw [hend]
      go_wp2_with (at_make; refine wpList_make_full _ rfl _ _ 34 rfl w.heap.size 58 i0 (.agg #[.string ⟨#[]⟩, .int .i64 0]) 2 Try.underlying34 hi hz0 hz1 _ _ _ _ F.length rfl rfl rfl rfl (by rw [hz2]; omega) (by unfold maxLen; omega) (Nat.le_refl _) ?_; intro w1 hown hgr)
      have hb1 := (Below.refl w.heap.size w).grown hgr (Nat.le_refl _) (fun k hk => by cases hk)
      have hg1 : w.heap.size < w1.heap.size := (hown.lt _ rfl).2
      have hblk : ∃ Z : List Value, Z.length = F.length * 2 ∧ Blk w1 w.heap.size 58 Z.toArray := by
        rcases hown.2 with ⟨h', _⟩ | ⟨g', cap', cur, h', _, hh, h1, h2, h3, h4⟩
        · simp at h'
        · simp only [Value.slice.injEq, Option.some.injEq, Addr.mk.injEq, and_true, true_and] at h'
          obtain ⟨rfl, rfl⟩ := h'
          exact ⟨cur.toList, by simpa using h3, by simpa [Blk] using hh⟩
      clear hown hgr
      generalize hgg : w.heap.size = g at hblk hg1 ⊢
      have hBg : w.heap.size ≤ g := by omega
      have HGG := Lib.hid hgg
      clear hgg
      go_wp2_with fail
      go_loopw [7, 26] (fun s7 s26 wr => ∃ k : Nat, k ≤ ps.length ∧ s26 = .int .i64 k ∧ s7 = .int .i64 (flatN ps k) ∧ Below w.heap.size w wr ∧ Aside (∃ Z : List Value, Z.length = (F.length - flatN ps k) * 2 ∧ Blk wr g 58 (entsV (ps.take k).flatten ++ Z).toArray)) (fun _ s26 _ => ps.length - (intOf s26).toNat)
      case atStart =>
        obtain ⟨Z, hZ, hB⟩ := hblk
        exact ⟨0, Nat.zero_le _, rfl, rfl, hb1, ⟨Z, hZ, by simpa [entsV] using hB⟩⟩
      case round =>
        clear hblk
        obtain ⟨k, hk, rfl, rfl, hbw, HB⟩ := hrel
        by_cases hlt : k < ps.length
        · obtain ⟨b, o, rfl, hb, hcl⟩ := HA.out (by omega)
          obtain ⟨x, c0, hx⟩ := hcl k hlt
          have c1 : wr.cell? ⟨b, o + k, none⟩ = some x := (hbw.cell (p := ⟨b, o + k, none⟩) hb).trans c0
          clear hcl c0
          have hxs := hx.below hbw
          obtain ⟨ax, cx, rfl, hx1, hx2, hx3⟩ := id hx
          clear hx3 hx1 hx2 hx
          have hf1 := hle (k + 1)
          have HN := Lib.hid (flatN_next hlt)
          have hfl : flatN ps k + ps[k].length ≤ F.length := by rw [HN.out] at hf1; omega
          have hle2 : (flatN ps k : Int) ≤ (F.length : Int) := by omega
          obtain ⟨Z, hZ, hZB⟩ := HB.out
          have hlen : (entsV (ps.take k).flatten ++ Z).length = F.length * 2 := by
            rw [List.length_append, entsV_len, hZ]; show flatN ps k * 2 + _ = _; omega
          have hfit : flatN ps k * 2 + (entsV ps[k]).length ≤ (entsV (ps.take k).flatten ++ Z).length := by rw [hlen, entsV_len]; omega
          have HZ : Hid (Z.length = (F.length - flatN ps k) * 2) := hZ
          have HZB : Hid (wr.heap[g]? = some (.cells (entsV (ps.take k).flatten ++ Z).toArray 58 (0, 0))) := hZB
          have HFT := Lib.hid (flat_take ps k hlt)
          have HFIT := Lib.hid hfit
          have HXS := Lib.hid hxs
          have HSP := Lib.hid (splice_ents (ps.take k).flatten ps[k] Z (by rw [hZ]; omega))
          have HDR : Hid ((Z.drop (ps[k].length * 2)).length = (F.length - flatN ps (k + 1)) * 2) := by
            (show _ = _); rw [List.length_drop, hZ, HN.out]; omega
          clear hZ hZB hlen hfit hxs HB
          have hrun1 := run_copy_zero (P := Try.prog) wr 34 34 3 58 2 (some ⟨g, 0, none⟩) ax 0 0 ps[k].length cx Try.underlying34 sizeE (Nat.min_zero _)
          obtain ⟨w2, hrun2, hg2, hb2⟩ := run_copy_splice (P := Try.prog) wr 34 34 3 58 2 Try.underlying34 sizeE g (flatN ps k * 2) (F.length - flatN ps k) (F.length - flatN ps k) ax ps[k].length cx ps[k].length (Nat.min_eq_left (by omega)) _ 58 HZB.out (entsV ps[k]) (entsV_len _)
            (fun hm0 => by obtain ⟨ad, e1, _, e2⟩ := HXS.out.src hm0; exact ⟨ad, e1, e2⟩) HFIT.out (entsV_one _)
          have HG2 := Lib.hid hg2
          have hb3 := hb2 _ _ hbw hBg
          clear hg2 hb2
          by_cases hfull : flatN ps k = F.length
          · have hp0 : ps[k].length = 0 := by omega
            have HP0 := Lib.hid hp0
            have HFL := Lib.hid hfull
            clear hrun2 hp0
            go_wp2
            go_roundw
            case rel => exact ⟨k + 1, by omega, by go_num, by have := HN.out; have := HP0.out; have := HFL.out; simp; omega, hbw, ⟨Z, by have := HZ.out; have := HN.out; have := HP0.out; omega, by
              rw [HFT.out, show ps[k] = [] from List.eq_nil_of_length_eq_zero HP0.out, List.append_nil]; exact HZB.out⟩⟩
            case measure => simp [intOf]; omega
          · have hlt2 : (flatN ps k : Int) < (F.length : Int) := by omega
            clear hrun1
            go_wp2
            go_roundw
            case rel => exact ⟨k + 1, by omega, by go_num, by rw [HN.out]; go_num, hb3, ⟨_, HDR.out, by
              have := HG2.out
              rw [show flatN ps k * 2 = (ps.take k).flatten.length * 2 from rfl, HSP.out] at this
              rw [HFT.out]; exact this⟩⟩
            case measure => simp [intOf]; omega
        · obtain rfl : k = ps.length := by omega
          obtain ⟨Z, hZ, hZB⟩ := HB.out
          have hZ0 : Z = [] := List.eq_nil_of_length_eq_zero (by omega)
          have HBF : Hid (Blk wr g 58 (entsV F).toArray) := by
            have h1 := hZB
            rw [hZ0, List.append_nil, List.take_length, HF.out] at h1; exact h1
          clear HB hZ hZB hZ0
          rw [hend]
          go_wp2
          go_loopw [40] (fun s40 wx => ∃ k : Nat, k ≤ F.length ∧ s40 = .int .i64 k ∧ Below w.heap.size w wx ∧ Aside (Blk wx g 58 (entsV F).toArray)) (fun s40 _ => F.length - (intOf s40).toNat)
          case atStart => exact ⟨0, Nat.zero_le _, rfl, hbw, HBF.out⟩
          case round =>
            clear hbw HBF
            obtain ⟨k, hk, rfl, hbx, HB⟩ := hrel
            by_cases hlt : k < F.length
            · have hen := entsV_at F k hlt
              have c1 : wr.cell? ⟨g, k * 2, none⟩ = some (.string ⟨F[k].1.toArray⟩) := by rw [HB.out.cell]; simpa using hen.1
              have hks := HSH.out _ (List.getElem_mem hlt)
              go_wp2_with fail
              refine (Clone_any F[k].1 _ hks).mono ?_
              rintro e w2 ⟨rfl, b2⟩
              have hbx2 := hbx.trans (b2.mono hbx.size)
              have HB2 := Lib.hid (HB.out.next b2)
              have d1 : w2.cell? ⟨g, k * 2, none⟩ = some (.string ⟨F[k].1.toArray⟩) := by rw [HB2.out.cell]; simpa using hen.1
              have d2 : w2.frozen? ⟨g, k * 2, none⟩ = false := HB2.out.frozen _
              have HS : Hid (Blk (w2.setCell ⟨g, k * 2, none⟩ (.string ⟨F[k].1.toArray⟩)) g 58 (entsV F).toArray) := by
                have h1 := HB2.out.set (k * 2) (.string ⟨F[k].1.toArray⟩)
                have h2 : (entsV F).toArray.setIfInBounds (k * 2) (.string ⟨F[k].1.toArray⟩) = (entsV F).toArray := by
                  apply Array.ext_getElem?
                  intro j
                  rw [Array.getElem?_setIfInBounds]
                  split
                  · rename_i e; subst e
                    split
                    · simpa using hen.1.symm
                    · rename_i h; rw [Array.getElem?_eq_none (by simpa using h)]
                  · rfl
                rw [h2] at h1; exact h1
              have hb3 : Below w.heap.size w (w2.setCell ⟨g, k * 2, none⟩ (.string ⟨F[k].1.toArray⟩)) := hbx2.setCell hBg _
              clear c1 hen
              go_wp2
              go_roundw
              case rel => exact ⟨k + 1, by omega, by go_num, hb3, HS.out⟩
              case measure => simp [intOf]; omega
            · obtain rfl : k = F.length := by omega
              go_wp2
              go_ret
              exact ⟨g, rfl, hBg, HB.out, hbx⟩
end Go.Proofs.Ytbdgcpimnkieiaa
